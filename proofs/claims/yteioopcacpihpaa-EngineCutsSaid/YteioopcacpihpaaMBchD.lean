/- The example that each law of layer 10 begins with holds. No condition. -/
import Derived.Test.YteioopcacpihpaaMEngHff
import Derived.Test.YteioopcacpihpaaMEngHft
import Derived.Test.YteioopcacpihpaaMEngHtf
import Derived.Test.YteioopcacpihpaaMEngHtt
import Derived.Test.YteioopcacpihpaaMBchC
import Derived.Test.YteioopcacpihpaaMBchA
namespace Go.Proofs.Yteioopcacpihpaa
open Go.RowKit
open Go.Lib (strCells compareBytes)

set_option maxRecDepth 100000 in
theorem put_any {w : World} {e H : Nat} {lim pairs : Int} {tv rv : Value} {T : List Chg} {rs : Crs} (h : EngAt w e lim pairs tv rv T rs) (hp : EngP H lim pairs T (crLists rs)) (hH : H ≤ 8000) (c : Chg) (hc : c.k.size ≤ 4000 ∧ c.v.size ≤ 4000) :
    Calls Try.prog 54 #[.pointer (some ⟨e, 0, none⟩), cagg c] w (PutPost2 e H lim tv rv T rs c w) := by
  cases hn : (newC c.k (T :: crLists rs)).g <;> cases hg : c.g
  · exact put_ff h hp hH c hc hn hg
  · exact put_ft h hp hH c hc hn hg
  · exact put_tf h hp hH c hc hn hg
  · exact put_tt h hp hH c hc hn hg
end Go.Proofs.Yteioopcacpihpaa

namespace Go.Proofs.Yteioopcacpihpaa
open Go.RowKit
open Go.Lib (strCells compareBytes)

/-- what a batch does to the pairs -/
def mapAll (l : List Chg) (M : List Chg) : List Chg := l.foldl (fun M c => mapP c M) M
theorem mapAll_take {l M : List Chg} {k : Nat} {c : Chg} (h : l[k]? = some c) : mapAll (l.take (k + 1)) M = mapP c (mapAll (l.take k) M) := by
  unfold mapAll
  rw [List.take_add_one, h, List.foldl_append]
  rfl
theorem mapAll_app (a b M : List Chg) : mapAll (a ++ b) M = mapAll b (mapAll a M) := by simp [mapAll]
/-- what a batch comes to -/
def BatchPost (e H : Nat) (lim : Int) (tv rv : Value) (T : List Chg) (rs : Crs) (l : List Chg) (w : World) (e' : Ending) (w' : World) : Prop :=
  e' = .returned (.tuple #[]) ∧ ∃ pairs' tv' rv' T' rs', EngAt w' e lim pairs' tv' rv' T' rs' ∧ EngP (H + l.length) lim pairs' T' (crLists rs') ∧ absL (T' :: crLists rs') = mapAll l (absL (T :: crLists rs)) ∧
    Frm (fun i => i = e ∨ tv.ownBlock = some i) w w' ∧ (tv'.ownBlock = tv.ownBlock ∨ ∀ g, tv'.ownBlock = some g → w.heap.size ≤ g) ∧ (((T.length + l.length : Nat) : Int) ≤ lim → rv' = rv ∧ rs' = rs ∧ T' = overL T l) ∧ NewB w rv rv' rs rs'
theorem NewB.trans {w w1 : World} {rv rv1 rv2 : Value} {rs rs1 rs2 : Crs} (h : NewB w rv rv1 rs rs1) (k : NewB w1 rv1 rv2 rs1 rs2) (hs : w.heap.size ≤ w1.heap.size) : NewB w rv rv2 rs rs2 := by
  refine ⟨fun g hg => ?_, fun r hr g hg => ?_⟩
  · rcases k.1 g hg with h1 | h1
    · exact h.1 g h1
    · exact .inr (Nat.le_trans hs h1)
  · rcases k.2 r hr g hg with ⟨r1, h1, h2⟩ | h1
    · exact h.2 r1 h1 g h2
    · exact .inr (Nat.le_trans hs h1)
theorem chs_frm0 {S : Nat → Prop} {w w1 : World} {A : Option Addr} {n : Nat} {l : List Chg} (h : HasChs w w.heap.size A n l) (hf : Frm S w w1) (ha : n ≠ 0 → ∀ a, A = some a → ¬ S a.block) : HasChs w1 w1.heap.size A n l := by
  rcases Nat.eq_zero_or_pos n with h0 | h0
  · subst h0
    obtain rfl := List.eq_nil_of_length_eq_zero h.1
    exact ⟨rfl, by simpa [chgCells] using Has.nil _ _ _⟩
  · exact chs_frm h hf (ha (by omega))
set_option maxRecDepth 100000 in
set_option maxHeartbeats 3200000 in
theorem batch_any {w : World} {e H : Nat} {lim pairs : Int} {tv rv : Value} {T : List Chg} {rs : Crs} (h : EngAt w e lim pairs tv rv T rs) (hp : EngP H lim pairs T (crLists rs)) (A : Option Addr) (n c : Nat) (l : List Chg) (hx : HasChs w w.heap.size A n l)
    (hA : n ≠ 0 → ∀ a, A = some a → a.block ≠ e ∧ tv.ownBlock ≠ some a.block) (hH : H + n ≤ 8000) (hs : ∀ x ∈ l, x.k.size ≤ 4000 ∧ x.v.size ≤ 4000) :
    Calls Try.prog 23 #[.pointer (some ⟨e, 0, none⟩), .slice A n c] w (BatchPost e H lim tv rv T rs l w) := by
  have Hl := Lib.hid hx.1
  have HX := Lib.hid (fun wx (hf : Frm (fun i => i = e ∨ tv.ownBlock = some i) w wx) => chs_frm0 hx hf fun hn a ea h' => h'.elim (hA hn a ea).1 (hA hn a ea).2)
  have H0 := Lib.hid h
  have HP0 := Lib.hid hp
  have Hs := Lib.hid hs
  clear h hp hx hA hs
  go_enter Try.func23, Try.ntmps23
  go_wp2
  go_loopw [5, 8] (fun _ iv wr => ∃ (k : Nat) (pairs' : Int) (tv' rv' : Value) (T' : List Chg) (rs' : Crs), k ≤ n ∧ iv = .int .i64 (k : Int) ∧ EngAt wr e lim pairs' tv' rv' T' rs' ∧ Hid (EngP (H + k) lim pairs' T' (crLists rs') ∧ absL (T' :: crLists rs') = mapAll (l.take k) (absL (T :: crLists rs)) ∧
    (tv'.ownBlock = tv.ownBlock ∨ ∀ g, tv'.ownBlock = some g → w.heap.size ≤ g) ∧ (((T.length + k : Nat) : Int) ≤ lim → rv' = rv ∧ rs' = rs ∧ T' = overL T (l.take k)) ∧ NewB w rv rv' rs rs') ∧ Frm (fun i => i = e ∨ tv.ownBlock = some i) w wr) (fun _ iv _ => n - (intOf iv).toNat)
  case atStart => exact ⟨0, pairs, tv, rv, T, rs, by omega, rfl, H0.out, Lib.hid ⟨HP0.out, rfl, .inl rfl, fun _ => ⟨rfl, rfl, rfl⟩, NewB.same _ _ _⟩, Frm.refl _ _⟩
  case round =>
    obtain ⟨k, pairs', tv', rv', T', rs', hk, rfl, hE, Hp, hF⟩ := hrel
    have HE := Lib.hid hE
    have HF := Lib.hid hF
    have hszF := hF.size
    clear hE hF
    by_cases hlt : k < n
    · obtain ⟨a, y, rfl, hab, hy, c0, c1, c2⟩ := (HX.out wr HF.out).at_ hlt
      have Hy := Lib.hid hy
      have hys := Hs.out y (List.mem_of_getElem? hy)
      have hk0 : (0 : Int) ≤ (k : Int) := by omega
      have hk1 : (k : Int) < (n : Int) := by omega
      obtain ⟨yk, yv, yg⟩ := y
      simp only at c0 c1 c2
      have Hput := Lib.hid (put_any (HE.out.below (below_box (Obj.cells #[.string yk, .string yv, .bool yg] 38))) Hp.out.1 (by omega) ⟨yk, yv, yg⟩ hys)
      unfold cagg at Hput
      clear hy hys
      go_wp2_with fail
      refine Hput.out.mono ?_
      rintro e' w2 ⟨rfl, pairs2, tv2, rv2, T2, rs2, hE2, hP2, ha2, hF2, ht2, hn2, hN2⟩
      have hbx := below_box (w := wr) (Obj.cells #[.string yk, .string yv, .bool yg] 38)
      have HE2 := Lib.hid hE2
      have Hp2 : Hid (EngP (H + (k + 1)) lim pairs2 T2 (crLists rs2) ∧ absL (T2 :: crLists rs2) = mapAll (l.take (k + 1)) (absL (T :: crLists rs)) ∧
          (tv2.ownBlock = tv.ownBlock ∨ ∀ g, tv2.ownBlock = some g → w.heap.size ≤ g) ∧ (((T.length + (k + 1) : Nat) : Int) ≤ lim → rv2 = rv ∧ rs2 = rs ∧ T2 = overL T (l.take (k + 1))) ∧ NewB w rv rv2 rs rs2) := Lib.hid ⟨hP2, by rw [ha2, Hp.out.2.1, mapAll_take Hy.out], by
            rcases ht2 with h1 | h1
            · rcases Hp.out.2.2.1 with h3 | h3
              · exact .inl (h1.trans h3)
              · exact .inr fun g hg => h3 g (h1 ▸ hg)
            · exact .inr fun g hg => Nat.le_trans hszF (Nat.le_trans hbx.size (h1 g hg)), fun hlm => by
            obtain ⟨h1, h3, h4⟩ := Hp.out.2.2.2.1 (by omega)
            have h5 := len_over (l.take k) T
            rw [List.length_take] at h5
            obtain ⟨g1, g2, g3⟩ := hn2 (by rw [h4]; omega)
            exact ⟨g1.trans h1, g2.trans h3, by rw [g3, h4, over_take Hy.out]⟩, Hp.out.2.2.2.2.trans hN2 (Nat.le_trans hszF hbx.size)⟩
      have HF2 : Hid (Frm (fun i => i = e ∨ tv.ownBlock = some i) w w2) := Lib.hid ((HF.out.then hbx).trans hF2 fun i hi => by
        rcases hi with hi | hi
        · exact .inl (.inl hi)
        · rcases Hp.out.2.2.1 with h3 | h3
          · exact .inl (.inr (h3 ▸ hi))
          · exact .inr (h3 i hi))
      clear hE2 hP2 ha2 hF2 ht2 hn2 hN2 hbx
      go_wp2
      go_roundw
      case rel => exact ⟨k + 1, pairs2, tv2, rv2, T2, rs2, by omega, by go_num, HE2.out, Hp2, HF2.out⟩
      case measure => simp [intOf]; omega
    · obtain rfl : k = n := by omega
      have HQ : Hid (l.take k = l ∧ l.length = k) := Lib.hid ⟨List.take_of_length_le (by have := Hl.out; omega), Hl.out⟩
      rw [HQ.out.1] at Hp
      go_wp2
      go_end0
      exact ⟨rfl, pairs', tv', rv', T', rs', HE.out, by rw [HQ.out.2]; exact Hp.out.1, Hp.out.2.1, HF.out, Hp.out.2.2.1, by rw [HQ.out.2]; exact Hp.out.2.2.2.1, Hp.out.2.2.2.2⟩
end Go.Proofs.Yteioopcacpihpaa

namespace Go.Proofs.Yteioopcacpihpaa
open Go.RowKit
open Go.Lib (strCells compareBytes)

def chB2 : Chg := ⟨⟨#[98]⟩, ⟨#[50]⟩, false⟩
def chBg : Chg := ⟨⟨#[98]⟩, ⟨#[]⟩, true⟩
theorem pack_eng : packL [chA1, chC3] = [2, 1, 97, 0, 1, 49, 1, 99, 0, 1, 51] := by
  have h1 : numForm 1 = [1] := numForm_lo (by omega)
  have h0 : numForm 0 = [0] := numForm_lo (by omega)
  have h2 : numForm 2 = [2] := numForm_lo (by omega)
  simp [packL, bodyL, chgForm, textForm, chA1, chC3, goneN, h0, h1, h2]
theorem map_ex1 : mapAll [chA1, chB2] (absL [[]]) = [chA1, chB2] := by decide +kernel
theorem map_ex2 : mapAll [chC3] [chA1, chB2] = [chA1, chB2, chC3] := by decide +kernel
theorem map_ex3 : mapAll [chBg] [chA1, chB2, chC3] = [chA1, chC3] := by decide +kernel
theorem abs_ex (v : Value) : absL ([] :: crLists (aloneR v [chA1, chC3])) = [chA1, chC3] := by
  have : crLists (aloneR v [chA1, chC3]) = [[chA1, chC3]] := rfl
  rw [this]
  decide +kernel
theorem chg_small : ∀ x ∈ [chA1, chB2, chC3, chBg], x.k.size ≤ 4000 ∧ x.v.size ≤ 4000 := by
  intro x hx
  simp only [List.mem_cons, List.not_mem_nil, or_false] at hx
  rcases hx with rfl | rfl | rfl | rfl <;> exact ⟨by decide, by decide⟩
/-- a literal of changes is put: what stands behind -/
theorem lit1 (w : World) (c : Chg) : HasChs (w.alloc (.cells #[.string c.k, .string c.v, .bool c.g] 38)) (w.heap.size + 1) (some ⟨w.heap.size, 0, none⟩) 1 [c] := ⟨rfl, chg_lit w c⟩
theorem lit2 (w : World) (c d : Chg) : HasChs (w.alloc (.cells #[.string c.k, .string c.v, .bool c.g, .string d.k, .string d.v, .bool d.g] 38)) (w.heap.size + 1) (some ⟨w.heap.size, 0, none⟩) 2 [c, d] := ⟨rfl, chg_lit2 w c d⟩
/-- a literal is not of an engine's blocks -/
theorem lit_apart {w : World} {e : Nat} {lim p : Int} {tv rv : Value} {T : List Chg} {rs : Crs} (h : EngAt w e lim p tv rv T rs) : ∀ a, (some (⟨w.heap.size, 0, none⟩ : Addr)) = some a → a.block ≠ e ∧ tv.ownBlock ≠ some a.block := fun a ha => by
  injection ha with ha
  subst ha
  refine ⟨fun e1 => ?_, fun e1 => ?_⟩
  · have h1 := h.box.lt
    have h2 : w.heap.size = e := e1
    omega
  · have h1 := (h.tab.lt _ e1).2
    have h2 : (w.heap.size) < w.heap.size := h1
    omega
/-- an engine made since w, with the pairs M -/
def EngS (w : World) (e H : Nat) (lim : Int) (M : List Chg) (W : World) : Prop :=
  ∃ pairs tv rv T rs, EngAt W e lim pairs tv rv T rs ∧ EngP H lim pairs T (crLists rs) ∧ absL (T :: crLists rs) = M ∧ w.heap.size ≤ e ∧ (∀ g, tv.ownBlock = some g → w.heap.size ≤ g) ∧ Below w.heap.size w W
theorem EngS.put {w W : World} {e H : Nat} {lim : Int} {M : List Chg} (h : EngS w e H lim M W) (o : Obj) (n c : Nat) (l : List Chg) (hx : HasChs (W.alloc o) (W.heap.size + 1) (some ⟨W.heap.size, 0, none⟩) n l) (hH : H + n ≤ 8000) (hs : ∀ x ∈ l, x.k.size ≤ 4000 ∧ x.v.size ≤ 4000) :
    Calls Try.prog 23 #[.pointer (some ⟨e, 0, none⟩), .slice (some ⟨W.heap.size, 0, none⟩) n c] (W.alloc o) fun e' w' => e' = .returned (.tuple #[]) ∧ EngS w e (H + n) lim (mapAll l M) w' := by
  obtain ⟨pairs, tv, rv, T, rs, hE, hP, hM, he, ht, hb⟩ := h
  refine (batch_any (hE.below (below_box o)) hP _ n c l (by simpa using hx) (fun _ => lit_apart hE) hH hs).mono ?_
  rintro e' w2 ⟨h1, p2, tv2, rv2, T2, rs2, hE2, hP2, ha2, hF2, ht2, -, -⟩
  have hl : l.length = n := hx.1
  refine ⟨h1, p2, tv2, rv2, T2, rs2, hE2, by rw [← hl]; exact hP2, by rw [ha2, hM], he, fun g hg => ?_, ?_⟩
  · rcases ht2 with h3 | h3
    · exact ht g (h3 ▸ hg)
    · have h4 := h3 g hg
      have h5 := hb.size
      simp only [World.size_alloc] at h4
      omega
  · refine (hb.trans ((below_box o).mono hb.size)).trans (hF2.below (fun i hi => ?_) (by have := hb.size; simp only [World.size_alloc]; omega))
    rcases hi with rfl | hi
    · exact he
    · exact ht i hi
theorem EngS.compact {w W : World} {e H : Nat} {lim : Int} {M : List Chg} (h : EngS w e H lim M W) (hH : H ≤ 9000) :
    Calls Try.prog 25 #[.pointer (some ⟨e, 0, none⟩)] W fun e' w' => e' = .returned (.tuple #[]) ∧ EngS w e H lim M w' ∧ ∃ rv v, EngAt w' e lim (M.length : Int) (.slice none 0 0) rv [] (aloneR v M) ∧ EngP H lim (M.length : Int) [] (crLists (aloneR v M)) := by
  obtain ⟨pairs, tv, rv, T, rs, hE, hP, hM, he, ht, hb⟩ := h
  refine (compact_any hE hP hH).mono ?_
  rintro e' w2 ⟨h1, v', rv', hE2, hF2, -⟩
  rw [hM] at hE2
  have hpp : PairsP H M := hM ▸ PairsP.of hP
  have hPm : EngP H lim (M.length : Int) [] (aloneL M) := hpp.eng hP.lim1
  rw [← aloneR_lists v' M] at hPm
  have hpl : pairs = (M.length : Int) := by rw [hP.num, hM]
  rw [hpl] at hE2
  refine ⟨h1, ⟨_, _, _, _, _, hE2, hPm, ?_, he, fun g hg => (by cases hg), hb.trans (hF2.below (fun i hi => hi ▸ he) hb.size)⟩, rv', v', hE2, hPm⟩
  rw [aloneR_lists, abs_alone hpp.run hpp.live]
theorem EngS.next {w W W' : World} {e H : Nat} {lim : Int} {M : List Chg} (h : EngS w e H lim M W) (hb' : Below W.heap.size W W') : EngS w e H lim M W' := by
  obtain ⟨pairs, tv, rv, T, rs, hE, hP, hM, he, ht, hb⟩ := h
  exact ⟨pairs, tv, rv, T, rs, hE.below hb', hP, hM, he, ht, hb.trans (hb'.mono hb.size)⟩
theorem EngS.made {w w1 : World} {e : Nat} {lim : Int} {rv : Value} (hwe : w.heap.size ≤ e) (h : EngAt w1 e lim (([] : List Chg).length : Int) (.slice none 0 0) rv [] (aloneR (.slice none 0 0) [])) (hl : 1 ≤ lim) (hb : Below w.heap.size w w1) : EngS w e 0 lim [] w1 :=
  ⟨_, _, _, _, _, h, (PairsP.eng (l := []) (H := 0) ⟨Run.nil, by simp, by simp, by simp⟩ hl : EngP 0 lim (([] : List Chg).length : Int) [] (aloneL [])), rfl, hwe, fun g hg => (by cases hg), hb⟩
set_option maxRecDepth 100000 in
set_option maxHeartbeats 3200000 in
theorem engAwake_any (w : World) : Calls Try.prog 20 #[] w fun e w' => e = .returned (.bool true) ∧ Below w.heap.size w w' := by
  go_enter Try.func20, Try.ntmps20
  go_wp2_with fail
  refine (new_any 2 2 w rfl).mono ?_
  rintro e' w1 ⟨e, rv, rfl, hwe, hE, hrv, hb1⟩
  have he1 := hE.box.lt
  have hbx1 := below_box (w := w1) (Obj.cells #[.string chA1.k, .string chA1.v, .bool chA1.g, .string chB2.k, .string chB2.v, .bool chB2.g] 38)
  have hP0 : EngP 0 2 ((0 : Nat) : Int) [] (crLists (aloneR (.slice none 0 0) [])) := (PairsP.eng (l := []) (H := 0) ⟨Run.nil, by simp, by simp, by simp⟩ (by omega) : EngP 0 2 ((0 : Nat) : Int) [] (aloneL []))
  have Hp1 := Lib.hid (batch_any (hE.below hbx1) hP0 (some ⟨w1.heap.size, 0, none⟩) 2 2 [chA1, chB2] (by simpa using lit2 w1 chA1 chB2) (fun _ => lit_apart hE) (by omega) fun x hx => chg_small x (by simp at hx; rcases hx with rfl | rfl <;> simp))
  have Hb1 := Lib.hid (hb1.trans (hbx1.mono hb1.size))
  have Hwe := Lib.hid hwe
  have Hsz1 := Lib.hid hb1.size
  clear hE hrv hb1 hbx1 hP0 hwe he1
  go_wp2_with fail
  refine Hp1.out.mono ?_
  rintro e' w2 ⟨rfl, p2, tv2, rv2, T2, rs2, hE2, hP2, ha2, hF2, ht2, hn2, -⟩
  obtain rfl : rs2 = [] := (hn2 (by decide)).2.1
  have Hr2 := Lib.hid (runs_any hE2)
  have HS2 : Hid (EngS w e 2 2 [chA1, chB2] w2) := Lib.hid ⟨_, _, _, _, _, hE2, hP2, ha2.trans map_ex1, Hwe.out, fun g hg => by
      rcases ht2 with h3 | h3
      · rw [h3] at hg; cases hg
      · have h4 := h3 g hg
        have h5 := Hsz1.out
        simp only [World.size_alloc] at h4
        omega, Hb1.out.trans (hF2.below (fun i hi => by rcases hi with rfl | hi; exact Hwe.out; cases hi) Hb1.out.size)⟩
  clear hE2 hP2 ha2 hF2 ht2 hn2 Hp1 Hb1
  go_wp2_with fail
  refine Hr2.out.mono ?_
  rintro e' w3 ⟨rfl, hb3⟩
  have HS3 := Lib.hid (HS2.out.next hb3)
  have Hq3 := Lib.hid (HS3.out.put (Obj.cells #[.string chC3.k, .string chC3.v, .bool chC3.g] 38) 1 1 [chC3] (lit1 w3 chC3) (by omega) fun x hx => chg_small x (by simp at hx; rcases hx with rfl; simp))
  rw [map_ex2] at Hq3
  clear hb3 Hr2 HS2 HS3
  go_wp2_with fail
  refine Hq3.out.mono ?_
  rintro e' w4 ⟨rfl, hS4⟩
  have Hq4 := Lib.hid (hS4.put (Obj.cells #[.string chBg.k, .string chBg.v, .bool chBg.g] 38) 1 1 [chBg] (lit1 w4 chBg) (by omega) fun x hx => chg_small x (by simp at hx; rcases hx with rfl; simp))
  rw [map_ex3] at Hq4
  clear hS4 Hq3
  go_wp2_with fail
  refine Hq4.out.mono ?_
  rintro e' w5 ⟨rfl, hS5⟩
  have Hq5 := Lib.hid (hS5.compact (by omega))
  clear hS5 Hq4
  go_wp2_with fail
  refine Hq5.out.mono ?_
  rintro e' w6 ⟨rfl, ⟨-, -, -, -, -, -, -, -, -, -, hb6⟩, rv6, v6, hE6, hP6⟩
  have Hr6 := Lib.hid (runs_any hE6)
  have hH6 := Lib.hid (fun wx (hx : Below w6.heap.size w6 wx) => held_any (hE6.below hx) hP6 (by omega))
  have hX6 := Lib.hid (fun wx (hx : Below w6.heap.size w6 wx) => export_any (hE6.below hx) hP6 (by omega))
  rw [abs_ex] at hX6
  have Hb6 := Lib.hid hb6
  clear hb6 hE6 hP6 Hq5
  go_wp2_with fail
  refine Hr6.out.mono ?_
  rintro e' w7 ⟨rfl, hb7⟩
  have Hh7 := Lib.hid (hH6.out w7 hb7)
  have Hb7 := Lib.hid hb7
  clear hb7 Hr6 hH6
  go_wp2_with fail
  refine Hh7.out.mono ?_
  rintro e' w8 ⟨rfl, hb8⟩
  have Hb8 := Lib.hid (Hb7.out.trans (hb8.mono Hb7.out.size))
  have Hx8 := Lib.hid (hX6.out w8 Hb8.out)
  rw [pack_eng] at Hx8
  clear hb8 Hh7 hX6
  go_wp2_with fail
  refine Hx8.out.mono ?_
  rintro e' w9 ⟨v9, rfl, ho9, hb9⟩
  obtain ⟨A9, c9, rfl, -, -, hh9⟩ := own_slice ho9
  have hcv : (convert 63 9 (.slice A9 11 c9)).run Try.prog w9 = .ok (.string ⟨#[2, 1, 97, 0, 1, 49, 1, 99, 0, 1, 51]⟩) w9 := string_run (w := w9) (l := [2, 1, 97, 0, 1, 49, 1, 99, 0, 1, 51]) hh9 c9
  have Hb9 := Lib.hid (Hb6.out.trans ((Hb8.out.trans (hb9.mono Hb8.out.size)).mono Hb6.out.size))
  clear ho9 hb9 hh9 Hx8
  go_wp2
  go_ret
  exact ⟨rfl, Hb9.out⟩
end Go.Proofs.Yteioopcacpihpaa
