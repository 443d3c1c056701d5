/- The document's Unpack of layer 9 gives what the plain text (SpecPk) gives. Condition: four thousand bytes at most, in memory. -/
import Derived.Test.YtmbolempigbkdaaPckE
namespace Go.Proofs.Ytmbolempigbkdaa
open Go.RowKit
open Go.Lib (strCells compareBytes)

theorem box5 {w wz : World} {a b c d e : Value} {t : TypeId} (hb : Below (w.heap.size + 1) (w.alloc (.cells #[a, b, c, d, e] t)) wz) :
    wz.cell? ⟨w.heap.size, 0, none⟩ = some a ∧ wz.cell? ⟨w.heap.size, 1, none⟩ = some b ∧ wz.cell? ⟨w.heap.size, 2, none⟩ = some c ∧ wz.cell? ⟨w.heap.size, 3, none⟩ = some d ∧ wz.cell? ⟨w.heap.size, 4, none⟩ = some e := by
  have hx := (Box.made w t #[a, b, c, d, e]).below hb (by simp)
  exact ⟨hx.cell 0, hx.cell 1, hx.cell 2, hx.cell 3, hx.cell 4⟩
set_option maxRecDepth 100000 in
set_option maxHeartbeats 6400000 in
theorem refUnpack_any (A : Option Addr) (n c C : Nat) (b : List UInt8) (w : World) (h : HasBytes w C A n b) (hC : C ≤ w.heap.size) (hn : n ≤ 1000000) (hnc : n ≤ c) :
    Calls Try.prog 29 #[.slice A n c] w (UnpackPost (unpackT b) w) := by
  obtain ⟨⟨x, u, ne⟩, hnn⟩ : ∃ r, getNum b 0 = r := ⟨_, rfl⟩
  have Hn := Lib.hid (refNum_any A n c C 0 b w h hC (by omega))
  rw [hnn] at Hn
  simp only [got] at Hn
  have HN := Lib.hid hnn
  have H := Lib.hid h
  have HC := Lib.hid hC
  have Hl := Lib.hid h.len
  have Hnum := Lib.hid (fun (p : Nat) wx (hx : Below w.heap.size w wx) => refNum_any A n c C (p : Int) b wx (Has.belowOf h hx hC) (Nat.le_trans hC hx.size) (by omega))
  have Htxt := Lib.hid (fun (p : Nat) wx (hx : Below w.heap.size w wx) => refText_any A n c C (p : Int) 9223372036854775807 b wx (Has.belowOf h hx hC) (Nat.le_trans hC hx.size) (by omega) hnc)
  have hbd : ne = 0 → x < 9223372036854775808 ∧ u ≤ n := fun e => by
    have := getNum_bound (l := b) (p := 0) (by rw [hnn]; exact e)
    rw [hnn, h.len] at this
    exact ⟨this.2.1, this.2.2.2⟩
  clear h hC hnn
  by_cases h1 : ne = 0
  · subst h1
    obtain ⟨hx, hu⟩ := hbd rfl
    have Hub := Lib.hid hu
    clear hbd hu
    go_enter Try.func29, Try.ntmps29
    go_wp2_with fail
    refine Hn.out.mono ?_
    rintro e w1 ⟨rfl, hb1⟩
    have Hb1 := Lib.hid hb1
    clear hb1
    go_wp2
    go_loopw [5, 6, 7, 8, 9, 10] (fun av o iv _ _ _ wr => ∃ (i q : Nat) (acc : List Chg), iv = .int .i64 (i : Int) ∧ av = .int .i64 (q : Int) ∧ Hid (i ≤ x) ∧ OwnChs wr (w1.heap.size + 1) o acc ∧ Hid (readC b i u = (0, acc, q)) ∧ Below (w1.heap.size + 1) (w1.alloc (Obj.cells #[.int .i64 (x : Int), .string ⟨#[]⟩, .slice none 0 0, .int .i64 (u : Int), .int .i64 (0 : Int)] 72)) wr) (fun _ _ iv _ _ _ _ => x - (intOf iv).toNat)
    case atStart => exact ⟨0, u, [], rfl, rfl, Lib.hid (by omega), OwnChs.nil _ _, Lib.hid rfl, Below.refl _ _⟩
    case round =>
      obtain ⟨i, q, acc, rfl, rfl, Hi, ho, Hrd, hb⟩ := hrel
      have Ho := Lib.hid ho
      have Hb := Lib.hid hb
      have hsz : w1.heap.size + 1 ≤ wr.heap.size := by have := hb.size; simpa using this
      obtain ⟨z0, -, -, -, -⟩ := box5 hb
      have hok := readC_ok (b := b) (m := i) (p := u) (by rw [Hrd.out]) (by rw [Hl.out]; exact Hub.out)
      rw [Hrd.out, Hl.out] at hok
      obtain ⟨k1, k2, k3, k4, -⟩ := hok
      simp only at k1 k2 k3 k4
      have Hwr := Lib.hid (Hb1.out.trans ((below_in hb (Nat.le_refl _)).mono Hb1.out.size))
      have hwsz : w.heap.size ≤ w1.heap.size := Hb1.out.size
      clear ho hb k1
      by_cases hlt : i < x
      · obtain ⟨⟨ts, tq, te⟩, ht⟩ : ∃ r, getText b q 9223372036854775807 = r := ⟨_, rfl⟩
        have Ht := Lib.hid (Htxt.out q wr Hwr.out)
        rw [ht] at Ht
        simp only [got] at Ht
        have HT := Lib.hid ht
        have hi63 : i < 4000000 := by omega
        clear ht
        by_cases h1 : te = 0
        · subst h1
          go_wp2_with fail
          refine Ht.out.mono ?_
          rintro e w2 ⟨rfl, hb2⟩
          have Hw2 := Lib.hid (Hwr.out.trans (hb2.mono Hwr.out.size))
          have hsz2 : wr.heap.size ≤ w2.heap.size := hb2.size
          have Hr2 := Lib.hid hb2
          have Hw3 := Lib.hid (Hw2.out.alloc Hw2.out.size (Obj.cells #[.int .i64 (0 : Int), .string ⟨ts.toArray⟩, .slice none 0 0, .int .i64 (tq : Int), .int .i64 (0 : Int)] 72))
          clear hb2
          obtain ⟨⟨nx, nu, ge⟩, hg⟩ : ∃ r, getNum b tq = r := ⟨_, rfl⟩
          have Hg := Lib.hid (Hnum.out tq _ Hw3.out)
          rw [hg] at Hg
          simp only [got] at Hg
          have HG := Lib.hid hg
          clear hg
          by_cases h2 : ge = 0
          · subst h2
            go_wp2_with fail
            refine Hg.out.mono ?_
            rintro e w4 ⟨rfl, hb4⟩
            have hb4' : Below (w2.heap.size + 1) (w2.alloc (Obj.cells #[.int .i64 (0 : Int), .string ⟨ts.toArray⟩, .slice none 0 0, .int .i64 (tq : Int), .int .i64 (0 : Int)] 72)) w4 := by simpa using hb4
            have Hk4 := Lib.hid hb4'
            have Hw4 := Lib.hid (Hw3.out.trans (hb4.mono Hw3.out.size))
            have hsz4 : w2.heap.size + 1 ≤ w4.heap.size := by have := hb4'.size; simpa using this
            have Hw5 := Lib.hid (Hw4.out.alloc Hw4.out.size (Obj.cells #[.int .i64 (nx : Int), .string ⟨#[]⟩, .slice none 0 0, .int .i64 (nu : Int), .int .i64 (0 : Int)] 72))
            clear hb4
            by_cases h3 : 1 < nx
            · have E := Lib.hid (unpackT_e2 HN.out (readC_err Hrd.out hlt (by rw [getChg_e3 HT.out HG.out h3]; simp)) (by rw [getChg_e3 HT.out HG.out h3]; simp))
              rw [getChg_e3 HT.out HG.out h3] at E
              clear hb4'
              go_wp2
              go_ret2
              exact ⟨_, by rw [E.out]; rfl, by rw [E.out]; exact OwnChs.nil _ _, Hw5.out⟩
            · obtain ⟨⟨vs, vq, ve⟩, hv⟩ : ∃ r, getText b nu 9223372036854775807 = r := ⟨_, rfl⟩
              have Hv := Lib.hid (Htxt.out nu _ Hw5.out)
              rw [hv] at Hv
              simp only [got] at Hv
              have HV := Lib.hid hv
              clear hv hb4'
              by_cases h4 : ve = 0
              · subst h4
                have Hc5 := Lib.hid (getChg_e5 HT.out HG.out h3 HV.out)
                have Hrd1 := Lib.hid (readC_step Hrd.out (by rw [Hc5.out]))
                rw [Hc5.out] at Hrd1
                have hx01 : nx = 0 ∨ nx = 1 := by omega
                clear h3
                rcases hx01 with rfl | rfl
                · go_wp2_with fail
                  refine Hv.out.mono ?_
                  rintro e w6 ⟨rfl, hb6⟩
                  have hb6' : Below (w4.heap.size + 1) (w4.alloc (Obj.cells #[.int .i64 (0 : Int), .string ⟨#[]⟩, .slice none 0 0, .int .i64 (nu : Int), .int .i64 (0 : Int)] 72)) w6 := by simpa using hb6
                  have Hw6 := Lib.hid (Hw5.out.trans (hb6.mono Hw5.out.size))
                  have hsz6 : w4.heap.size + 1 ≤ w6.heap.size := by have := hb6'.size; simpa using this
                  have hk7 : Below (w2.heap.size + 1) (w2.alloc (Obj.cells #[.int .i64 (0 : Int), .string ⟨ts.toArray⟩, .slice none 0 0, .int .i64 (tq : Int), .int .i64 (0 : Int)] 72)) (w6.alloc (Obj.cells #[.int .i64 (0 : Int), .string ⟨vs.toArray⟩, .slice none 0 0, .int .i64 (vq : Int), .int .i64 (0 : Int)] 72)) := (Hk4.out.trans ((((Below.refl _ w4).alloc (Nat.le_refl _) _).trans (hb6'.mono (by omega))).mono hsz4)).alloc (by omega) _
                  have hg7 : Below (w4.heap.size + 1) (w4.alloc (Obj.cells #[.int .i64 (0 : Int), .string ⟨#[]⟩, .slice none 0 0, .int .i64 (nu : Int), .int .i64 (0 : Int)] 72)) (w6.alloc (Obj.cells #[.int .i64 (0 : Int), .string ⟨vs.toArray⟩, .slice none 0 0, .int .i64 (vq : Int), .int .i64 (0 : Int)] 72)) := hb6'.alloc (by omega) _
                  obtain ⟨-, t1, -, -, -⟩ := box5 hk7
                  obtain ⟨g0, -, -, -, -⟩ := box5 hg7
                  have hr7 : Below wr.heap.size wr (w6.alloc (Obj.cells #[.int .i64 (0 : Int), .string ⟨vs.toArray⟩, .slice none 0 0, .int .i64 (vq : Int), .int .i64 (0 : Int)] 72)) := (Hr2.out.trans ((((Below.refl _ w2).alloc (Nat.le_refl _) (Obj.cells #[.int .i64 (0 : Int), .string ⟨ts.toArray⟩, .slice none 0 0, .int .i64 (tq : Int), .int .i64 (0 : Int)] 72)).trans (hk7.mono (by omega))).mono hsz2))
                  have Ho7 := Lib.hid (Ho.out.below hr7)
                  have Hb7 : Hid (Below (w1.heap.size + 1) (w1.alloc (Obj.cells #[.int .i64 (x : Int), .string ⟨#[]⟩, .slice none 0 0, .int .i64 (u : Int), .int .i64 (0 : Int)] 72)) (w6.alloc (Obj.cells #[.int .i64 (0 : Int), .string ⟨vs.toArray⟩, .slice none 0 0, .int .i64 (vq : Int), .int .i64 (0 : Int)] 72))) := Lib.hid (Hb.out.trans (hr7.mono hsz))
                  have hsz7 : w1.heap.size + 1 ≤ (w6.alloc (Obj.cells #[.int .i64 (0 : Int), .string ⟨vs.toArray⟩, .slice none 0 0, .int .i64 (vq : Int), .int .i64 (0 : Int)] 72)).heap.size := Nat.le_trans hsz hr7.size
                  have Hvb : Hid (Box (w6.alloc (Obj.cells #[.int .i64 (0 : Int), .string ⟨vs.toArray⟩, .slice none 0 0, .int .i64 (vq : Int), .int .i64 (0 : Int)] 72)) w6.heap.size 72 #[.int .i64 (0 : Int), .string ⟨vs.toArray⟩, .slice none 0 0, .int .i64 (vq : Int), .int .i64 (0 : Int)]) := Lib.hid (Box.made _ _ _)
                  have hszA : w1.heap.size + 1 ≤ ((w6.alloc (Obj.cells #[.int .i64 (0 : Int), .string ⟨vs.toArray⟩, .slice none 0 0, .int .i64 (vq : Int), .int .i64 (0 : Int)] 72)).alloc (Obj.cells #[.string ⟨ts.toArray⟩, .string ⟨vs.toArray⟩, .bool false] 38)).heap.size := by simp only [World.size_alloc] at hsz7 ⊢; omega
                  clear hb6 hb6' hk7 hg7 hr7
                  have Hlit : Hid (Has ((w6.alloc (Obj.cells #[.int .i64 (0 : Int), .string ⟨vs.toArray⟩, .slice none 0 0, .int .i64 (vq : Int), .int .i64 (0 : Int)] 72)).alloc (Obj.cells #[.string ⟨ts.toArray⟩, .string ⟨vs.toArray⟩, .bool false] 38)) (w6.heap.size + 1 + 1) (some ⟨w6.heap.size + 1, 0, none⟩) (1 * 3) (chgCells [⟨⟨ts.toArray⟩, ⟨vs.toArray⟩, false⟩])) := Lib.hid (by have h := chg_lit (w6.alloc (Obj.cells #[.int .i64 (0 : Int), .string ⟨vs.toArray⟩, .slice none 0 0, .int .i64 (vq : Int), .int .i64 (0 : Int)] 72)) ⟨⟨ts.toArray⟩, ⟨vs.toArray⟩, false⟩; simp only [World.size_alloc] at h; exact h)
                  go_wp2_with (at_builtin; refine wpList_append_hasN rfl (.tmp 55) (.tmp 64) _ rfl 38 chg_elem (by omega) Try.underlying22 rfl (own_drawn Ho7.out 0 _) rfl Hlit.out (chgCells_one _) (by simp only [maxLen]; omega) (by omega) hszA ?_; intro v8 w8 hown8 hg8 _; have hvn := ((Hvb.out.alloc (Obj.cells #[.string ⟨ts.toArray⟩, .string ⟨vs.toArray⟩, .bool false] 38)).grown hg8 (fun e => (by obtain ⟨cur, hc⟩ := own_typeP Ho7.out e.symm; have hbv := Hvb.out; unfold Box at hbv; rw [hbv] at hc; injection hc with hc; injection hc with _ hc _; exact absurd hc (by decide)))).cell 3)
                  have Hb8 := Lib.hid (below_app (k := 0) Hb7.out Ho7.out hg8 hsz7)
                  have Hown8 : Hid (OwnChs w8 (w1.heap.size + 1) v8 (acc ++ [⟨⟨ts.toArray⟩, ⟨vs.toArray⟩, false⟩])) := Lib.hid (by unfold OwnChs; rw [List.length_append, chgCells_app]; exact hown8)
                  clear hg8 hown8
                  go_wp2
                  go_roundw
                  case rel => exact ⟨i + 1, vq, _, by go_num, rfl, Lib.hid (by omega), Hown8.out, Hrd1, Hb8.out⟩
                  case measure => simp [intOf]; omega
                · go_wp2_with fail
                  refine Hv.out.mono ?_
                  rintro e w6 ⟨rfl, hb6⟩
                  have hb6' : Below (w4.heap.size + 1) (w4.alloc (Obj.cells #[.int .i64 (1 : Int), .string ⟨#[]⟩, .slice none 0 0, .int .i64 (nu : Int), .int .i64 (0 : Int)] 72)) w6 := by simpa using hb6
                  have Hw6 := Lib.hid (Hw5.out.trans (hb6.mono Hw5.out.size))
                  have hsz6 : w4.heap.size + 1 ≤ w6.heap.size := by have := hb6'.size; simpa using this
                  have hk7 : Below (w2.heap.size + 1) (w2.alloc (Obj.cells #[.int .i64 (0 : Int), .string ⟨ts.toArray⟩, .slice none 0 0, .int .i64 (tq : Int), .int .i64 (0 : Int)] 72)) (w6.alloc (Obj.cells #[.int .i64 (0 : Int), .string ⟨vs.toArray⟩, .slice none 0 0, .int .i64 (vq : Int), .int .i64 (0 : Int)] 72)) := (Hk4.out.trans ((((Below.refl _ w4).alloc (Nat.le_refl _) _).trans (hb6'.mono (by omega))).mono hsz4)).alloc (by omega) _
                  have hg7 : Below (w4.heap.size + 1) (w4.alloc (Obj.cells #[.int .i64 (1 : Int), .string ⟨#[]⟩, .slice none 0 0, .int .i64 (nu : Int), .int .i64 (0 : Int)] 72)) (w6.alloc (Obj.cells #[.int .i64 (0 : Int), .string ⟨vs.toArray⟩, .slice none 0 0, .int .i64 (vq : Int), .int .i64 (0 : Int)] 72)) := hb6'.alloc (by omega) _
                  obtain ⟨-, t1, -, -, -⟩ := box5 hk7
                  obtain ⟨g0, -, -, -, -⟩ := box5 hg7
                  have hr7 : Below wr.heap.size wr (w6.alloc (Obj.cells #[.int .i64 (0 : Int), .string ⟨vs.toArray⟩, .slice none 0 0, .int .i64 (vq : Int), .int .i64 (0 : Int)] 72)) := (Hr2.out.trans ((((Below.refl _ w2).alloc (Nat.le_refl _) (Obj.cells #[.int .i64 (0 : Int), .string ⟨ts.toArray⟩, .slice none 0 0, .int .i64 (tq : Int), .int .i64 (0 : Int)] 72)).trans (hk7.mono (by omega))).mono hsz2))
                  have Ho7 := Lib.hid (Ho.out.below hr7)
                  have Hb7 : Hid (Below (w1.heap.size + 1) (w1.alloc (Obj.cells #[.int .i64 (x : Int), .string ⟨#[]⟩, .slice none 0 0, .int .i64 (u : Int), .int .i64 (0 : Int)] 72)) (w6.alloc (Obj.cells #[.int .i64 (0 : Int), .string ⟨vs.toArray⟩, .slice none 0 0, .int .i64 (vq : Int), .int .i64 (0 : Int)] 72))) := Lib.hid (Hb.out.trans (hr7.mono hsz))
                  have hsz7 : w1.heap.size + 1 ≤ (w6.alloc (Obj.cells #[.int .i64 (0 : Int), .string ⟨vs.toArray⟩, .slice none 0 0, .int .i64 (vq : Int), .int .i64 (0 : Int)] 72)).heap.size := Nat.le_trans hsz hr7.size
                  have Hvb : Hid (Box (w6.alloc (Obj.cells #[.int .i64 (0 : Int), .string ⟨vs.toArray⟩, .slice none 0 0, .int .i64 (vq : Int), .int .i64 (0 : Int)] 72)) w6.heap.size 72 #[.int .i64 (0 : Int), .string ⟨vs.toArray⟩, .slice none 0 0, .int .i64 (vq : Int), .int .i64 (0 : Int)]) := Lib.hid (Box.made _ _ _)
                  have hszA : w1.heap.size + 1 ≤ ((w6.alloc (Obj.cells #[.int .i64 (0 : Int), .string ⟨vs.toArray⟩, .slice none 0 0, .int .i64 (vq : Int), .int .i64 (0 : Int)] 72)).alloc (Obj.cells #[.string ⟨ts.toArray⟩, .string ⟨vs.toArray⟩, .bool true] 38)).heap.size := by simp only [World.size_alloc] at hsz7 ⊢; omega
                  clear hb6 hb6' hk7 hg7 hr7
                  have Hlit : Hid (Has ((w6.alloc (Obj.cells #[.int .i64 (0 : Int), .string ⟨vs.toArray⟩, .slice none 0 0, .int .i64 (vq : Int), .int .i64 (0 : Int)] 72)).alloc (Obj.cells #[.string ⟨ts.toArray⟩, .string ⟨vs.toArray⟩, .bool true] 38)) (w6.heap.size + 1 + 1) (some ⟨w6.heap.size + 1, 0, none⟩) (1 * 3) (chgCells [⟨⟨ts.toArray⟩, ⟨vs.toArray⟩, true⟩])) := Lib.hid (by have h := chg_lit (w6.alloc (Obj.cells #[.int .i64 (0 : Int), .string ⟨vs.toArray⟩, .slice none 0 0, .int .i64 (vq : Int), .int .i64 (0 : Int)] 72)) ⟨⟨ts.toArray⟩, ⟨vs.toArray⟩, true⟩; simp only [World.size_alloc] at h; exact h)
                  go_wp2_with (at_builtin; refine wpList_append_hasN rfl (.tmp 55) (.tmp 64) _ rfl 38 chg_elem (by omega) Try.underlying22 rfl (own_drawn Ho7.out 0 _) rfl Hlit.out (chgCells_one _) (by simp only [maxLen]; omega) (by omega) hszA ?_; intro v8 w8 hown8 hg8 _; have hvn := ((Hvb.out.alloc (Obj.cells #[.string ⟨ts.toArray⟩, .string ⟨vs.toArray⟩, .bool true] 38)).grown hg8 (fun e => (by obtain ⟨cur, hc⟩ := own_typeP Ho7.out e.symm; have hbv := Hvb.out; unfold Box at hbv; rw [hbv] at hc; injection hc with hc; injection hc with _ hc _; exact absurd hc (by decide)))).cell 3)
                  have Hb8 := Lib.hid (below_app (k := 0) Hb7.out Ho7.out hg8 hsz7)
                  have Hown8 : Hid (OwnChs w8 (w1.heap.size + 1) v8 (acc ++ [⟨⟨ts.toArray⟩, ⟨vs.toArray⟩, true⟩])) := Lib.hid (by unfold OwnChs; rw [List.length_append, chgCells_app]; exact hown8)
                  clear hg8 hown8
                  go_wp2
                  go_roundw
                  case rel => exact ⟨i + 1, vq, _, by go_num, rfl, Lib.hid (by omega), Hown8.out, Hrd1, Hb8.out⟩
                  case measure => simp [intOf]; omega
              · have heb : ((ve : Int) != 0) = true := by simpa using h4
                have E := Lib.hid (unpackT_e2 HN.out (readC_err Hrd.out hlt (by rw [getChg_e4 HT.out HG.out h3 HV.out h4]; exact h4)) (by rw [getChg_e4 HT.out HG.out h3 HV.out h4]; exact h4))
                rw [getChg_e4 HT.out HG.out h3 HV.out h4] at E
                clear h4
                go_wp2_with fail
                refine Hv.out.mono ?_
                rintro e w6 ⟨rfl, hb6⟩
                have Hw6 := Lib.hid (Hw5.out.trans (hb6.mono Hw5.out.size))
                have Hw7 := Lib.hid (Hw6.out.alloc Hw6.out.size (Obj.cells #[.int .i64 (0 : Int), .string ⟨vs.toArray⟩, .slice none 0 0, .int .i64 (vq : Int), .int .i64 (ve : Int)] 72))
                clear hb6
                go_wp2
                go_quiet (fail)
                go_wp2
                go_ret2
                exact ⟨_, by rw [E.out]; rfl, by rw [E.out]; exact OwnChs.nil _ _, below_dr Hw7.out _⟩
          · have heb : ((ge : Int) != 0) = true := by simpa using h2
            have E := Lib.hid (unpackT_e2 HN.out (readC_err Hrd.out hlt (by rw [getChg_e2 HT.out HG.out h2]; exact h2)) (by rw [getChg_e2 HT.out HG.out h2]; exact h2))
            rw [getChg_e2 HT.out HG.out h2] at E
            clear h2
            go_wp2_with fail
            refine Hg.out.mono ?_
            rintro e w4 ⟨rfl, hb4⟩
            have Hw4 := Lib.hid (Hw3.out.trans (hb4.mono Hw3.out.size))
            have Hw5 := Lib.hid (Hw4.out.alloc Hw4.out.size (Obj.cells #[.int .i64 (nx : Int), .string ⟨#[]⟩, .slice none 0 0, .int .i64 (nu : Int), .int .i64 (ge : Int)] 72))
            clear hb4
            go_wp2
            go_quiet (fail)
            go_wp2
            go_ret2
            exact ⟨_, by rw [E.out]; rfl, by rw [E.out]; exact OwnChs.nil _ _, below_dr Hw5.out _⟩
        · have heb : ((te : Int) != 0) = true := by simpa using h1
          have E := Lib.hid (unpackT_e2 HN.out (readC_err Hrd.out hlt (by rw [getChg_e1 HT.out h1]; exact h1)) (by rw [getChg_e1 HT.out h1]; exact h1))
          rw [getChg_e1 HT.out h1] at E
          clear h1
          go_wp2_with fail
          refine Ht.out.mono ?_
          rintro e w2 ⟨rfl, hb2⟩
          have Hw2 := Lib.hid (Hwr.out.trans (hb2.mono Hwr.out.size))
          have Hw3 := Lib.hid (Hw2.out.alloc Hw2.out.size (Obj.cells #[.int .i64 (0 : Int), .string ⟨ts.toArray⟩, .slice none 0 0, .int .i64 (tq : Int), .int .i64 (te : Int)] 72))
          clear hb2
          go_wp2
          go_quiet (fail)
          go_wp2
          go_ret2
          exact ⟨_, by rw [E.out]; rfl, by rw [E.out]; exact OwnChs.nil _ _, below_dr Hw3.out _⟩
      · obtain rfl : i = x := by have := Hi.out; omega
        by_cases hq : q = n
        · obtain ⟨Ao, co, rfl, -, -, hv⟩ := Ho.out.slice
          have Hw := Lib.hid (refRight_any Ao acc.length co wr.heap.size acc wr hv (by unfold maxLen; omega) (Nat.le_refl _))
          rw [k3] at Hw
          subst hq
          clear hv
          by_cases hrun : Run acc
          · have E := Lib.hid (unpackT_ok HN.out Hrd.out ⟨Hl.out.symm, hrun⟩)
            rw [runB_true hrun] at Hw
            clear hrun
            go_wp2_with fail
            refine Hw.out.mono ?_
            rintro e w2 ⟨rfl, hb2⟩
            have Hb2 := Lib.hid (Hwr.out.trans (hb2.mono Hwr.out.size))
            have Ho2 := Lib.hid (Ho.out.below hb2)
            rw [k3] at Ho2
            clear hb2
            go_wp2
            go_ret2
            exact ⟨_, by rw [E.out]; rfl, by rw [E.out]; exact own_baseN Ho2.out (by omega), Hb2.out⟩
          · have E := Lib.hid (unpackT_e3 HN.out Hrd.out (fun e => hrun e.2))
            rw [runB_false hrun] at Hw
            clear hrun
            go_wp2_with fail
            refine Hw.out.mono ?_
            rintro e w2 ⟨rfl, hb2⟩
            have Hb2 := Lib.hid (Hwr.out.trans (hb2.mono Hwr.out.size))
            clear hb2
            go_wp2
            go_ret2
            exact ⟨_, by rw [E.out]; rfl, by rw [E.out]; exact OwnChs.nil _ _, Hb2.out⟩
        · have hqb : ((q : Int) != (n : Int)) = true := by simp; omega
          have E := Lib.hid (unpackT_e3 HN.out Hrd.out (fun e => by have h1 := Hl.out; have h2 := e.1; omega))
          clear hq
          go_wp2
          go_ret2
          exact ⟨_, by rw [E.out]; rfl, by rw [E.out]; exact OwnChs.nil _ _, Hwr.out⟩
  · have h1b : ((ne : Int) != 0) = true := by simpa using h1
    have E := Lib.hid (unpackT_e1 HN.out h1)
    clear h1 hbd
    go_enter Try.func29, Try.ntmps29
    go_wp2_with fail
    refine Hn.out.mono ?_
    rintro e w1 ⟨rfl, hb1⟩
    have Hb1 := Lib.hid (hb1.alloc hb1.size (Obj.cells #[.int .i64 (x : Int), .string ⟨#[]⟩, .slice none 0 0, .int .i64 (u : Int), .int .i64 (ne : Int)] 72))
    clear hb1
    go_wp2
    go_quiet (fail)
    go_wp2
    go_ret2
    exact ⟨_, by rw [E.out]; rfl, by rw [E.out]; exact OwnChs.nil _ _, below_dr Hb1.out _⟩
end Go.Proofs.Ytmbolempigbkdaa
