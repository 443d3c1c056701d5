/- run.Unpack gives what the plain text (SpecPk) gives. Condition: four thousand bytes at most, in memory. -/
import Derived.Test.YteioopcacpihpaaMBchA
import Derived.Test.YteioopcacpihpaaMExP
namespace Go.Proofs.Yteioopcacpihpaa
open Go.RowKit
open Go.Lib (strCells compareBytes)

section
variable {b : List UInt8} {p tq x u vq e : Nat} {ts vs : List UInt8}
theorem getChg_e1 (h : getText b p 9223372036854775807 = (ts, tq, e)) (he : e ≠ 0) : getChg b p = (default, 0, e) := by unfold getChg; simp [h, he]
theorem getChg_e2 (h : getText b p 9223372036854775807 = (ts, tq, 0)) (h2 : getNum b tq = (x, u, e)) (he : e ≠ 0) : getChg b p = (default, 0, e) := by unfold getChg; simp [h, h2, he]
theorem getChg_e3 (h : getText b p 9223372036854775807 = (ts, tq, 0)) (h2 : getNum b tq = (x, u, 0)) (hx : 1 < x) : getChg b p = (default, 0, 3) := by unfold getChg; simp [h, h2, hx]
theorem getChg_e4 (h : getText b p 9223372036854775807 = (ts, tq, 0)) (h2 : getNum b tq = (x, u, 0)) (hx : ¬ 1 < x) (h3 : getText b u 9223372036854775807 = (vs, vq, e)) (he : e ≠ 0) : getChg b p = (default, 0, e) := by unfold getChg; simp [h, h2, hx, h3, he]
theorem getChg_e5 (h : getText b p 9223372036854775807 = (ts, tq, 0)) (h2 : getNum b tq = (x, u, 0)) (hx : ¬ 1 < x) (h3 : getText b u 9223372036854775807 = (vs, vq, 0)) : getChg b p = (⟨⟨ts.toArray⟩, ⟨vs.toArray⟩, decide (x = 1)⟩, vq, 0) := by unfold getChg; simp [h, h2, hx, h3]
end
def ChgPost (r : Chg × Nat × Nat) (w : World) (e : Ending) (w' : World) : Prop := e = .returned (.tuple #[cagg r.1, .int .i64 (r.2.1 : Int), .int .i64 (r.2.2 : Int)]) ∧ Below w.heap.size w w'
set_option maxRecDepth 100000 in
set_option maxHeartbeats 3200000 in
theorem getChange_any (A : Option Addr) (n c C p : Nat) (b : List UInt8) (w : World) (h : HasBytes w C A n b) (hC : C ≤ w.heap.size) (hn : n ≤ 4000000) (hnc : n ≤ c) :
    Calls Try.prog 91 #[.slice A n c, .int .i64 (p : Int)] w (ChgPost (getChg b p) w) := by
  obtain ⟨⟨ts, tq, te⟩, ht⟩ : ∃ r, getText b p 9223372036854775807 = r := ⟨_, rfl⟩
  have hmax : n ≤ maxLen := by unfold maxLen; omega
  have Ht := Lib.hid (getText_any A n c C (p : Int) 9223372036854775807 b (w.alloc (Obj.cells #[.string ⟨#[]⟩, .string ⟨#[]⟩, .bool false] 38)) (Has.alloc h hC _) (by omega) hnc)
  rw [ht] at Ht
  have Hn := Lib.hid (getNum_any A n c C (tq : Int) b (w.alloc (Obj.cells #[.string ⟨#[]⟩, .string ⟨#[]⟩, .bool false] 38)) (Has.alloc h hC _) hmax hnc)
  obtain ⟨⟨x, u, ne⟩, hnn⟩ : ∃ r, getNum b tq = r := ⟨_, rfl⟩
  rw [hnn] at Hn
  have Hv := Lib.hid (getText_any A n c C (u : Int) 9223372036854775807 b (w.alloc (Obj.cells #[.string ⟨#[]⟩, .string ⟨#[]⟩, .bool false] 38)) (Has.alloc h hC _) (by omega) hnc)
  obtain ⟨⟨vs, vq, ve⟩, hv⟩ : ∃ r, getText b u 9223372036854775807 = r := ⟨_, rfl⟩
  rw [hv] at Hv
  have HT := Lib.hid ht
  have HN := Lib.hid hnn
  have HV := Lib.hid hv
  simp only at Ht Hn Hv
  clear h hC hmax ht hnn hv
  by_cases h1 : te = 0
  · subst h1
    by_cases h2 : ne = 0
    · subst h2
      by_cases h3 : 1 < x
      · have E := Lib.hid (getChg_e3 HT.out HN.out h3)
        go_enter Try.func91, Try.ntmps91
        go_wp2_with fail
        refine Ht.out.mono ?_
        rintro e w1 ⟨rfl, rfl⟩
        go_wp2_with fail
        refine Hn.out.mono ?_
        rintro e w1 ⟨rfl, rfl⟩
        go_wp2
        refine bodyPost_ret (v := .tuple #[cagg default, .int .i64 0, .int .i64 3]) ?_ rfl ⟨by rw [E.out]; rfl, below_box _⟩
        simp [results, Try.results91, go_sem, cagg, default]
      · by_cases h4 : ve = 0
        · subst h4
          have E := Lib.hid (getChg_e5 HT.out HN.out h3 HV.out)
          have hx01 : x = 0 ∨ x = 1 := by omega
          clear h3
          rcases hx01 with rfl | rfl
          · go_enter Try.func91, Try.ntmps91
            go_wp2_with fail
            refine Ht.out.mono ?_
            rintro e w1 ⟨rfl, rfl⟩
            go_wp2_with fail
            refine Hn.out.mono ?_
            rintro e w1 ⟨rfl, rfl⟩
            go_wp2_with fail
            refine Hv.out.mono ?_
            rintro e w1 ⟨rfl, rfl⟩
            go_wp2
            refine bodyPost_ret (v := .tuple #[cagg ⟨⟨ts.toArray⟩, ⟨vs.toArray⟩, false⟩, .int .i64 (vq : Int), .int .i64 0]) ?_ rfl ⟨by rw [E.out]; rfl, below_box _⟩
            simp [results, Try.results91, go_sem, cagg]
          · go_enter Try.func91, Try.ntmps91
            go_wp2_with fail
            refine Ht.out.mono ?_
            rintro e w1 ⟨rfl, rfl⟩
            go_wp2_with fail
            refine Hn.out.mono ?_
            rintro e w1 ⟨rfl, rfl⟩
            go_wp2_with fail
            refine Hv.out.mono ?_
            rintro e w1 ⟨rfl, rfl⟩
            go_wp2
            refine bodyPost_ret (v := .tuple #[cagg ⟨⟨ts.toArray⟩, ⟨vs.toArray⟩, true⟩, .int .i64 (vq : Int), .int .i64 0]) ?_ rfl ⟨by rw [E.out]; rfl, below_box _⟩
            simp [results, Try.results91, go_sem, cagg]
        · have h4b : ((ve : Int) != 0) = true := by simpa using h4
          have E := Lib.hid (getChg_e4 HT.out HN.out h3 HV.out h4)
          clear h4
          go_enter Try.func91, Try.ntmps91
          go_wp2_with fail
          refine Ht.out.mono ?_
          rintro e w1 ⟨rfl, rfl⟩
          go_wp2_with fail
          refine Hn.out.mono ?_
          rintro e w1 ⟨rfl, rfl⟩
          go_wp2_with fail
          refine Hv.out.mono ?_
          rintro e w1 ⟨rfl, rfl⟩
          go_wp2
          refine bodyPost_ret (v := .tuple #[cagg default, .int .i64 0, .int .i64 (ve : Int)]) ?_ rfl ⟨by rw [E.out]; rfl, below_box _⟩
          simp [results, Try.results91, go_sem, cagg, default]
    · have h2b : ((ne : Int) != 0) = true := by simpa using h2
      have E := Lib.hid (getChg_e2 HT.out HN.out h2)
      clear h2
      go_enter Try.func91, Try.ntmps91
      go_wp2_with fail
      refine Ht.out.mono ?_
      rintro e w1 ⟨rfl, rfl⟩
      go_wp2_with fail
      refine Hn.out.mono ?_
      rintro e w1 ⟨rfl, rfl⟩
      go_wp2
      refine bodyPost_ret (v := .tuple #[cagg default, .int .i64 0, .int .i64 (ne : Int)]) ?_ rfl ⟨by rw [E.out]; rfl, below_box _⟩
      simp [results, Try.results91, go_sem, cagg, default]
  · have h1b : ((te : Int) != 0) = true := by simpa using h1
    have E := Lib.hid (getChg_e1 HT.out h1)
    clear h1
    go_enter Try.func91, Try.ntmps91
    go_wp2_with fail
    refine Ht.out.mono ?_
    rintro e w1 ⟨rfl, rfl⟩
    go_wp2
    refine bodyPost_ret (v := .tuple #[cagg default, .int .i64 0, .int .i64 (te : Int)]) ?_ rfl ⟨by rw [E.out]; rfl, below_box _⟩
    simp [results, Try.results91, go_sem, cagg, default]
end Go.Proofs.Yteioopcacpihpaa

namespace Go.Proofs.Yteioopcacpihpaa
open Go.RowKit
open Go.Lib (strCells compareBytes)

theorem box_endD {w wz : World} (x y z x' y' z' : Value) (hb : Below (w.heap.size + 1) (w.alloc (.cells #[x, y, z] 38)) wz) :
    (wz.cell? ⟨w.heap.size, 0, none⟩ = some x ∧ wz.cell? ⟨w.heap.size, 1, none⟩ = some y ∧ wz.cell? ⟨w.heap.size, 2, none⟩ = some z ∧ wz.frozen? ⟨w.heap.size, 0, none⟩ = false ∧ wz.frozen? ⟨w.heap.size, 1, none⟩ = false ∧ wz.frozen? ⟨w.heap.size, 2, none⟩ = false) ∧
    ∃ W3, ((wz.setCell ⟨w.heap.size, 0, none⟩ x').setCell ⟨w.heap.size, 1, none⟩ y').setCell ⟨w.heap.size, 2, none⟩ z' = W3 ∧ (Below w.heap.size w W3 ∧ W3.heap.size = wz.heap.size ∧ ∀ i, i ≠ w.heap.size → W3.heap[i]? = wz.heap[i]?) ∧ W3.cell? ⟨w.heap.size, 0, none⟩ = some x' ∧ W3.cell? ⟨w.heap.size, 1, none⟩ = some y' ∧ W3.cell? ⟨w.heap.size, 2, none⟩ = some z' := by
  obtain ⟨q0, q1, q2, f0, f1, f2⟩ := box_at hb rfl
  have hp := box_store (x' := x') (y' := y') (z' := z') q0 q1 q2
  refine ⟨⟨q0, q1, q2, f0, f1, f2⟩, _, rfl, ⟨(((below_in hb (Nat.le_refl _)).setCell (Nat.le_refl _) _).setCell (Nat.le_refl _) _).setCell (Nat.le_refl _) _, by simp [World.setCell], fun i hi => ?_⟩, hp⟩
  rw [Below.heap_setCell _ _ _ _ hi, Below.heap_setCell _ _ _ _ hi, Below.heap_setCell _ _ _ _ hi]
theorem unpackT_e1 {b : List UInt8} {x u e : Nat} (h : getNum b 0 = (x, u, e)) (he : e ≠ 0) : unpackT b = (e, []) := by unfold unpackT; simp [h, he]
theorem unpackT_e2 {b : List UInt8} {x u e : Nat} {L : List Chg} {q : Nat} (h : getNum b 0 = (x, u, 0)) (h2 : readC b x u = (e, L, q)) (he : e ≠ 0) : unpackT b = (e, []) := by unfold unpackT; simp [h, h2, he]
theorem unpackT_e3 {b : List UInt8} {x u : Nat} {L : List Chg} {q : Nat} (h : getNum b 0 = (x, u, 0)) (h2 : readC b x u = (0, L, q)) (hn : ¬ (q = b.length ∧ Run L)) : unpackT b = (3, []) := by
  unfold unpackT
  have e1 : (getNum b 0).2.2 = 0 := by rw [h]
  have e2 : readC b (getNum b 0).1 (getNum b 0).2.1 = (0, L, q) := by rw [h]; exact h2
  simp only [e1, e2, ne_eq, not_true_eq_false, if_false]
  exact if_neg (by rw [e2]; exact hn)
theorem unpackT_ok {b : List UInt8} {x u : Nat} {L : List Chg} {q : Nat} (h : getNum b 0 = (x, u, 0)) (h2 : readC b x u = (0, L, q)) (hn : q = b.length ∧ Run L) : unpackT b = (0, L) := by
  unfold unpackT
  have e1 : (getNum b 0).2.2 = 0 := by rw [h]
  have e2 : readC b (getNum b 0).1 (getNum b 0).2.1 = (0, L, q) := by rw [h]; exact h2
  simp only [e1, e2, ne_eq, not_true_eq_false, if_false]
  exact if_pos (by rw [e2]; exact hn)
def UnpackPost (r : Nat × List Chg) (w : World) (e : Ending) (w' : World) : Prop := ∃ v, e = .returned (.tuple #[v, .int .i64 (r.1 : Int)]) ∧ OwnChs w' w.heap.size v r.2 ∧ Below w.heap.size w w'
set_option maxRecDepth 100000 in
set_option maxHeartbeats 3200000 in
theorem unpack_any (A : Option Addr) (n c C : Nat) (b : List UInt8) (w : World) (h : HasBytes w C A n b) (hC : C ≤ w.heap.size) (hn : n ≤ 1000000) (hnc : n ≤ c) :
    Calls Try.prog 65 #[.slice A n c] w (UnpackPost (unpackT b) w) := by
  obtain ⟨⟨x, u, ne⟩, hnn⟩ : ∃ r, getNum b 0 = r := ⟨_, rfl⟩
  have Hn := Lib.hid (getNum_any A n c C 0 b w h (by unfold maxLen; omega) hnc)
  rw [hnn] at Hn
  simp only at Hn
  have HN := Lib.hid hnn
  have H := Lib.hid h
  have HC := Lib.hid hC
  have Hl := Lib.hid h.len
  have Hc := Lib.hid (fun p wx (hx : Below w.heap.size w wx) => getChange_any A n c C p b wx (Has.belowOf h hx hC) (Nat.le_trans hC hx.size) (by omega) hnc)
  have hbd : ne = 0 → x < 9223372036854775808 ∧ u ≤ n := fun e => by
    have := getNum_bound (l := b) (p := 0) (by rw [hnn]; exact e)
    rw [hnn, h.len] at this
    exact ⟨this.2.1, this.2.2.2⟩
  clear h hC hnn
  by_cases h1 : ne = 0
  · subst h1
    obtain ⟨hx, hu⟩ := hbd rfl
    have Hub := Lib.hid hu
    clear hbd hu
    go_enter Try.func65, Try.ntmps65
    go_wp2_with fail
    refine Hn.out.mono ?_
    rintro e w1 ⟨rfl, rfl⟩
    go_wp2
    go_loopw [5, 6, 7, 8, 19] (fun av _ o _ iv wr => ∃ (i q : Nat) (acc : List Chg), iv = .int .i64 (i : Int) ∧ av = .int .i64 (q : Int) ∧ Hid (i ≤ x) ∧ OwnChs wr w.heap.size o acc ∧ Hid (readC b i u = (0, acc, q)) ∧ Below w.heap.size w wr) (fun _ _ _ _ iv _ => x - (intOf iv).toNat)
    case atStart => exact ⟨0, u, [], rfl, rfl, Lib.hid (by omega), OwnChs.nil _ _, Lib.hid rfl, Below.refl _ _⟩
    case round =>
      obtain ⟨i, q, acc, rfl, rfl, Hi, ho, Hrd, hb⟩ := hrel
      have Ho := Lib.hid ho
      have Hb := Lib.hid hb
      have hsz := hb.size
      have hok := readC_ok (b := b) (m := i) (p := u) (by rw [Hrd.out]) (by rw [Hl.out]; exact Hub.out)
      rw [Hrd.out, Hl.out] at hok
      obtain ⟨k1, k2, k3, k4, -⟩ := hok
      simp only at k1 k2 k3 k4
      clear ho hb k1
      by_cases hlt : i < x
      · have hCb : Below w.heap.size w (wr.alloc (Obj.cells #[.string ⟨#[]⟩, .string ⟨#[]⟩, .bool false] 38)) := Hb.out.alloc hsz _
        have Hc1 := Lib.hid (Hc.out q _ hCb)
        obtain ⟨⟨⟨ck, cv, cg⟩, cq, ce⟩, hce⟩ : ∃ r, getChg b q = r := ⟨_, rfl⟩
        rw [hce] at Hc1
        have HCE := Lib.hid hce
        have hi63 : i < 4000000 := by omega
        clear hce hCb
        by_cases he : ce = 0
        · subst he
          have Hrd1 := Lib.hid (readC_step Hrd.out (by rw [HCE.out]))
          rw [HCE.out] at Hrd1
          go_wp2_with fail
          refine Hc1.out.mono ?_
          rintro e w2 ⟨rfl, hb2⟩
          simp only [cagg]
          obtain ⟨⟨q0, q1, q2, f0, f1, f2⟩, W3, hW3, ⟨hbW, hsW, hkW⟩, p0, p1, p2⟩ := box_endD (.string ⟨#[]⟩) (.string ⟨#[]⟩) (.bool false) (.string ck) (.string cv) (.bool cg) (by simpa using hb2)
          have HbW := Lib.hid (Hb.out.trans (hbW.mono hsz))
          have HoW : Hid (OwnChs W3 w.heap.size _ acc) := Lib.hid (own_keepP ((Ho.out.below (below_box _)).below hb2) fun g hg => hkW g (by have := (Ho.out.lt g hg).2; omega))
          have hszW : w.heap.size ≤ W3.heap.size := HbW.out.size
          clear hb2 hbW hsW hkW
          go_wp2_with (at_builtin; refine wpList_append_hasN rfl (.tmp 31) (.tmp 33) _ rfl 38 chg_elem (by omega) Try.underlying22 rfl (own_drawn HoW.out 0 _) rfl (chg_lit _ ⟨ck, cv, cg⟩) (chgCells_one _) (by simp only [maxLen]; omega) (by omega) (by simp only [World.size_alloc]; exact Nat.le_succ_of_le hszW) ?_; intro v4 w4 hown4 hg4 _)
          have Hb4 := Lib.hid (below_app (k := 0) HbW.out HoW.out hg4 hszW)
          have Hown4 : Hid (OwnChs w4 w.heap.size v4 (acc ++ [⟨ck, cv, cg⟩])) := Lib.hid (by unfold OwnChs; rw [List.length_append, chgCells_app]; exact hown4)
          clear hg4 hown4 hW3
          go_wp2
          go_roundw
          case rel => exact ⟨i + 1, cq, _, by go_num, rfl, Lib.hid (by omega), Hown4.out, Hrd1, Hb4.out⟩
          case measure => simp [intOf]; omega
        · have heb : ((ce : Int) != 0) = true := by simpa using he
          have E := Lib.hid (unpackT_e2 HN.out (readC_err Hrd.out hlt (by rw [HCE.out]; exact he)) (by rw [HCE.out]; exact he))
          rw [HCE.out] at E
          clear he
          go_wp2_with fail
          refine Hc1.out.mono ?_
          rintro e w2 ⟨rfl, hb2⟩
          simp only [cagg]
          obtain ⟨⟨q0, q1, q2, f0, f1, f2⟩, W3, hW3, ⟨hbW, hsW, hkW⟩, p0, p1, p2⟩ := box_endD (.string ⟨#[]⟩) (.string ⟨#[]⟩) (.bool false) (.string ck) (.string cv) (.bool cg) (by simpa using hb2)
          have HbW := Lib.hid (Hb.out.trans (hbW.mono hsz))
          clear hb2 hbW hsW hkW
          go_wp2
          go_ret2
          exact ⟨_, by rw [E.out]; rfl, by rw [E.out]; exact OwnChs.nil _ _, HbW.out⟩
      · obtain rfl : i = x := by have := Hi.out; omega
        by_cases hq : q < n
        · have E := Lib.hid (unpackT_e3 HN.out Hrd.out (fun e => by have := Hl.out; omega))
          go_wp2
          go_ret2
          exact ⟨_, by rw [E.out]; rfl, by rw [E.out]; exact OwnChs.nil _ _, Hb.out⟩
        · obtain ⟨Ao, co, rfl, -, -, hv⟩ := Ho.out.slice
          have Hw := Lib.hid (wrong_any Ao acc.length co wr.heap.size acc wr hv (by unfold maxLen; omega) (Nat.le_refl _))
          rw [k3] at Hw
          have hqn : q = n := by omega
          subst hqn
          clear hv
          by_cases hrun : Run acc
          · have E := Lib.hid (unpackT_ok HN.out Hrd.out ⟨Hl.out.symm, hrun⟩)
            rw [runB_true hrun] at Hw
            clear hrun
            go_wp2_with fail
            refine Hw.out.mono ?_
            rintro e w2 ⟨rfl, hb2⟩
            have Hb2 := Lib.hid (Hb.out.trans (hb2.mono hsz))
            have Ho2 := Lib.hid (Ho.out.below hb2)
            rw [k3] at Ho2
            clear hb2
            go_wp2
            go_ret2
            exact ⟨_, by rw [E.out]; rfl, by rw [E.out]; exact Ho2.out, Hb2.out⟩
          · have E := Lib.hid (unpackT_e3 HN.out Hrd.out (fun e => hrun e.2))
            rw [runB_false hrun] at Hw
            clear hrun
            go_wp2_with fail
            refine Hw.out.mono ?_
            rintro e w2 ⟨rfl, hb2⟩
            have Hb2 := Lib.hid (Hb.out.trans (hb2.mono hsz))
            clear hb2
            go_wp2
            go_ret2
            exact ⟨_, by rw [E.out]; rfl, by rw [E.out]; exact OwnChs.nil _ _, Hb2.out⟩
  · have h1b : ((ne : Int) != 0) = true := by simpa using h1
    have E := Lib.hid (unpackT_e1 HN.out h1)
    clear h1 hbd
    go_enter Try.func65, Try.ntmps65
    go_wp2_with fail
    refine Hn.out.mono ?_
    rintro e w1 ⟨rfl, rfl⟩
    go_wp2
    go_ret2
    exact ⟨_, by rw [E.out]; rfl, by rw [E.out]; exact OwnChs.nil _ _, Below.refl _ _⟩
end Go.Proofs.Yteioopcacpihpaa
