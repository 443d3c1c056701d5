/- An end of the program and one of the document side by side. No condition. -/
import Derived.Test.YtaljojjpgkmiiaaMWalk
import Derived.Test.YtaljojjpgkmiiaaMSpec
import Derived.Test.YtaljojjpgkmiiaaMSesF
import Derived.Deep.RegionHeld3
namespace Go.Proofs.Ytaljojjpgkmiiaa
open Go.RowKit
open Go.Lib (strCells)

theorem ownBelow {w w' : World} {B C n : Nat} {e : TypeId} {v : Value} {xs : List Value} (h : w.ownsRow B e 1 v n xs) (hb : Below C w w') (hC : w.heap.size ≤ C) : w'.ownsRow B e 1 v n xs :=
  h.kept (row := none) ⟨hb.os, hb.tape, hb.output, hb.size, fun i hi _ => hb.block i (by omega)⟩ (by cases v.ownBlock <;> simp)

set_option maxRecDepth 100000 in
set_option maxHeartbeats 800000 in
theorem refPutNum_in (k : Nat) : ∀ (w : World), k < 9223372036854775808 →
    Calls Try.prog 69 #[.int .i64 (k : Int)] w (Gives w.heap.size (numForm k).length (byteCells (numForm k)) w) := by
  induction k using Nat.strongRecOn with
  | _ k ih =>
    intro w hk
    have hneg : ¬ (k : Int) < 0 := by omega
    have Ih := Lib.hid ih
    clear ih
    by_cases hs : k < 128
    · go_enter Try.func69, Try.ntmps69
      go_wp2_with fail
      go_ret
      have hn : numForm k = [UInt8.ofNat k] := numForm_small hs
      have ho := World.ownsRow_lit (base := w.heap.size) (e := 5) (size := 1) w #[.int .u8 (k : Int)] 1 (Nat.le_refl _) (by simp [maxLen]) rfl
      refine ret_own rfl ho ?_ ?_ ((Below.refl _ _).alloc (Nat.le_refl _) _)
      · rw [hn]; rfl
      · rw [hn, byte_cell _ (by omega)]
    · have hlen := numForm_len9 (k := k / 128) (by omega)
      have hn : Hid (numForm k = UInt8.ofNat (k % 128 + 128) :: numForm (k / 128)) := Lib.hid (numForm_big (by omega))
      have hdiv : Hid (∀ W : World, Calls Try.prog 69 #[.int .i64 ((k : Int) / 128)] W (Gives W.heap.size (numForm (k / 128)).length (byteCells (numForm (k / 128))) W)) :=
        Lib.hid fun W => Ih.out (k / 128) (by omega) W (by omega)
      clear Ih
      go_enter Try.func69, Try.ntmps69
      go_wp2_with fail
      refine (hdiv.out _).mono ?_
      rintro e w1 ⟨v1, rfl, hown1, hb1⟩
      obtain ⟨A1, c1, rfl, hc1, hm1, hh1⟩ := own_slice hown1
      have Ho : Hid (w1.ownsRow w.heap.size 5 1 (.slice (some ⟨w.heap.size, 0, none⟩) 1 1) 1 [.int .u8 (128 + (k : Int) % 128)]) :=
        Lib.hid (ownBelow (World.ownsRow_lit (base := w.heap.size) (e := 5) (size := 1) w #[.int .u8 (128 + (k : Int) % 128)] 1 (Nat.le_refl _) (by simp [maxLen]) rfl) hb1 (Nat.le_refl _))
      have Hh1 := Lib.hid hh1
      have hsz : w.heap.size ≤ w1.heap.size := Nat.le_trans (le_alloc (Nat.le_refl _) _) hb1.size
      have Hb1 := Lib.hid (((Below.refl _ w).alloc (Nat.le_refl _) _).trans (hb1.mono (le_alloc (Nat.le_refl _) _)))
      clear hown1 hc1 hm1 hh1 hb1
      go_wp2_with (at_builtin; refine wpList_append_has rfl (.tmp 14) (.tmp 17) _ rfl 5 u8_elem Try.underlying76 rfl Ho.out rfl Hh1.out (byteCells_one _) (by simp only [maxLen]; omega) (by omega) hsz ?_; intro v2 w2 hown2 hg2 _)
      have Hb2 := Lib.hid (below_own Hb1.out Ho.out hg2 hsz)
      go_ret
      refine ret_own rfl hown2 ?_ ?_ Hb2.out
      · rw [hn.out, List.length_cons, Nat.add_comm]
      · rw [hn.out, byteCells_cons, ofNat_small (by omega)]
        have e : (128 : Int) + (k : Int) % 128 = ((k % 128 + 128 : Nat) : Int) := by omega
        rw [e]
        rfl

/-- the document's Num -/
theorem refPutNum_any (k : Int) (w : World) (hk : k < 9223372036854775808) :
    Calls Try.prog 69 #[.int .i64 k] w (Gives w.heap.size (if k < 0 then [] else numForm k.toNat).length (byteCells (if k < 0 then [] else numForm k.toNat)) w) := by
  by_cases h : k < 0
  · rw [if_pos h]
    go_enter Try.func69, Try.ntmps69
    go_wp2
    go_ret
    exact ⟨_, rfl, World.ownsRow_nil _ _ _ _, Below.refl _ _⟩
  · rw [if_neg h]
    obtain ⟨q, rfl⟩ : ∃ q : Nat, k = q := ⟨k.toNat, by omega⟩
    rw [Int.toNat_natCast]
    exact refPutNum_in q w (by omega)

set_option maxRecDepth 100000 in
set_option maxHeartbeats 800000 in
/-- the document's Text -/
theorem refPutText_any (s : ByteArray) (w : World) (hs : s.size ≤ 1000000) :
    Calls Try.prog 86 #[.string s] w (Gives w.heap.size (textForm s.data.toList).length (byteCells (textForm s.data.toList)) w) := by
  obtain ⟨i0, hi, hz, hs1, hb1⟩ := u8_elem.get
  have hlen := numForm_len9 (k := s.size) (by omega)
  go_enter Try.func86, Try.ntmps86
  go_wp2_with fail
  refine (refPutNum_in s.size w (by omega)).mono ?_
  rintro e w1 ⟨v1, rfl, hown1, hbel1⟩
  have hB1 : w.heap.size ≤ w1.heap.size := hbel1.size
  go_wp2_with (at_builtin; refine Lib.wpList_append_own_string w1 rfl (.tmp 5) (.tmp 6) _ _ rfl w.heap.size 5 i0 Try.underlying76 Try.underlying9 hi hz hs1 hb1 v1 _ _ rfl hown1 s rfl (by simp only [maxLen]; omega) (by omega) hB1 ?_; intro v2 w2 hown2 hg2 _)
  have hb2 : Below w.heap.size w w2 := below_own hbel1 hown1 hg2 hB1
  go_ret
  refine ret_own rfl hown2 ?_ ?_ hb2
  · rw [textForm_len, size_bytes]
  · rw [textForm, byteCells_app, size_bytes]; rfl

end Go.Proofs.Ytaljojjpgkmiiaa

namespace Go.Proofs.Ytaljojjpgkmiiaa
open Go.RowKit
open Go.Lib (strCells)

set_option maxRecDepth 100000 in
set_option maxHeartbeats 800000 in
/-- the document's Texts -/
theorem refPutTexts_any (A : Option Addr) (n c C : Nat) (ss : List ByteArray) (w : World) (h : HasTexts w C A n ss) (hC : C ≤ w.heap.size) (hs : (textsBody (raw ss)).length ≤ 1000000) (hn : n ≤ 1000000) :
    Calls Try.prog 70 #[.slice A n c] w (Gives w.heap.size (textsForm (raw ss)).length (byteCells (textsForm (raw ss))) w) := by
  have hlen := numForm_len9 (k := n) (by omega)
  have Hl := Lib.hid h.len
  go_enter Try.func70, Try.ntmps70
  go_wp2_with fail
  refine (refPutNum_in n w (by omega)).mono ?_
  rintro e w1 ⟨v1, rfl, hown1, hbel1⟩
  go_wp2
  go_loopw [3, 4] (fun v i wr => ∃ k : Nat, k ≤ n ∧ i = .int .i64 (k : Int) ∧ wr.ownsRow w.heap.size 5 1 v ((numForm n).length + (textsBody (raw (ss.take k))).length) (byteCells (numForm n ++ textsBody (raw (ss.take k)))) ∧ Below w.heap.size w wr) (fun _ i _ => n - (intOf i).toNat)
  case atStart => exact ⟨0, by omega, rfl, by simpa [raw, textsBody] using hown1, hbel1⟩
  case round =>
    obtain ⟨k, hk, rfl, hown', hb⟩ := hrel
    have hBr : w.heap.size ≤ wr.heap.size := hb.size
    have hle := body_take_le ss k
    by_cases hlt : k < n
    · obtain ⟨a, rfl, hab, hc0⟩ := h.text hlt
      have hc : wr.cell? (a.add k) = some (.string (ss[k]?.getD ByteArray.empty)) := by
        rw [hb.cell (by rw [addr_block]; omega), hc0]
        simp
      clear hc0
      have hsz := body_mem (ss := ss) (k := k) (by have := Hl.out; omega)
      have hle2 := body_take_le ss (k + 1)
      have hs0 := body_take_succ (ss := ss) (k := k) (by have := Hl.out; omega)
      have hle3 : (textsBody (raw (ss.take k))).length + (textForm (ss[k]?.getD ByteArray.empty).data.toList).length ≤ 1000000 := by
        rw [hs0, List.length_append] at hle2
        simp only [List.getD_eq_getElem?_getD] at hle2
        omega
      have Hs := Lib.hid hs0
      clear hs0 hle2
      simp only [List.getD_eq_getElem?_getD] at hsz Hs
      have Hown' := Lib.hid hown'
      have Hb := Lib.hid hb
      clear hown' hb
      go_wp2_with fail
      refine (refPutText_any (ss[k]?.getD ByteArray.empty) wr (by omega)).mono ?_
      rintro e w2 ⟨v2, rfl, hown2, hbel2⟩
      obtain ⟨A2, c2, rfl, hc2, hm2, hh2⟩ := own_slice hown2
      have Hh2 := Lib.hid hh2
      have Ho2 := Lib.hid (ownBelow Hown'.out hbel2 (Nat.le_refl _))
      have Hb2 := Lib.hid (Hb.out.trans (hbel2.mono hBr))
      have hsz2 := Nat.le_trans hBr hbel2.size
      clear hown2 hbel2 hc2 hm2 hh2
      go_wp2_with (at_builtin; refine wpList_append_has rfl (.tmp 14) (.tmp 19) _ rfl 5 u8_elem Try.underlying76 rfl Ho2.out rfl Hh2.out (byteCells_one _) (by simp only [maxLen]; omega) (by omega) hsz2 ?_; intro v3 w3 hown3 hg3 _)
      have Hb3 := Lib.hid (below_own Hb2.out Ho2.out hg3 hsz2)
      go_roundw
      case rel =>
        refine ⟨k + 1, by omega, by go_num, ?_, Hb3.out⟩
        rw [Hs.out, ← List.append_assoc, byteCells_app, List.length_append, ← Nat.add_assoc]
        exact hown3
      case measure => simp [intOf]; omega
    · go_wp2
      go_ret
      have e1 : ss.take k = ss := List.take_of_length_le (by have := Hl.out; omega)
      have e2 : (raw ss).length = n := by rw [raw, List.length_map, Hl.out]
      rw [e1] at hown'
      refine ret_own rfl hown' ?_ ?_ hb
      · rw [textsForm, e2, List.length_append]
      · rw [textsForm, e2]

end Go.Proofs.Ytaljojjpgkmiiaa

namespace Go.Proofs.Ytaljojjpgkmiiaa
open Go.RowKit

section
variable {w : World} {B g : Nat} {v : Value} {E : SE}
theorem box_set_kept {w2 : World} {i : Nat} {u v : Value} : KeptE g v w2 (w2.setCell ⟨g, i, none⟩ u) :=
  KeptE.grown (i := some g) ⟨rfl, rfl, rfl, by simp [World.setCell], fun k _ hk => Below.heap_setCell w2 ⟨g, i, none⟩ _ k fun e => hk (by rw [e])⟩ (.inl rfl)
theorem own_set_kept {w2 : World} {i C m size : Nat} {e : TypeId} {u v : Value} {xs : List Value} (o : w2.ownsRow C e size v m xs) (h : v.ownBlock ≠ some g) : (w2.setCell ⟨g, i, none⟩ u).ownsRow C e size v m xs :=
  own_keepN o fun k hk => Below.heap_setCell w2 ⟨g, i, none⟩ _ k fun e => h (by rw [hk, e])
theorem RefAt.store0 (h : RefAt w B g v E) (k : Nat) (hk : k ≤ 1099511627776) : RefAt (w.setCell ⟨g, 0, none⟩ (.int .i64 k)) B g v ⟨k, E.s, E.l⟩ ∧ KeptE g v w (w.setCell ⟨g, 0, none⟩ (.int .i64 k)) :=
  ⟨⟨h.gB, by have h8 := h.box.set_ 0 (.int .i64 k); simpa using h8, own_set_kept h.own h.apart, ⟨hk, h.good.sl, h.good.ll, h.good.le, h.good.tx⟩⟩, box_set_kept⟩
set_option maxRecDepth 100000 in
set_option maxHeartbeats 800000 in
theorem refTake_any (h : RefAt w B g v E) (k : Int) : Calls Try.prog 23 #[.pointer (some ⟨g, 0, none⟩), .int .i64 k] w fun e w' =>
    e = .returned (.bool (E.take k).2) ∧ RefAt w' B g v (E.take k).1 ∧ KeptE g v w w' := by
  have c0 : w.cell? ⟨g, 0, none⟩ = some (.int .i64 E.m) := h.box.cell 0
  have f0 := h.box.frozen 0
  have HE : Hid (RefAt w B g v E ∧ KeptE g v w w) := Lib.hid ⟨h, KeptE.of (Below.refl _ _)⟩
  by_cases h1 : k < 1
  · have ht : E.take k = (E, false) := by unfold SE.take; rw [if_neg fun h => by omega]
    rw [ht]
    have e1 : decide (k < 1) = true := decide_eq_true h1
    clear h ht
    go_enter Try.func23, Try.ntmps23
    go_wp2
    go_ret
    exact ⟨rfl, HE.out⟩
  · have e1 : ¬ k < 1 := h1
    by_cases h2 : 1099511627776 < k
    · have ht : E.take k = (E, false) := by unfold SE.take; rw [if_neg fun h => by omega]
      rw [ht]
      clear h ht
      go_enter Try.func23, Try.ntmps23
      go_wp2
      go_ret
      exact ⟨rfl, HE.out⟩
    · have e2 : ¬ (1099511627776 : Int) < k := h2
      obtain ⟨q, rfl⟩ : ∃ q : Nat, k = ((q + 1 : Nat) : Int) := ⟨(k - 1).toNat, by omega⟩
      have hw : IntKind.i64.wrap (((q + 1 : Nat) : Int) - 1) = (q : Int) := by rw [show ((q + 1 : Nat) : Int) - 1 = (q : Int) from by omega]; exact IntWalk.i64_in _ (by omega)
      obtain ⟨Q, hQ⟩ : ∃ Q : Nat, q + 1 = Q := ⟨_, rfl⟩
      have HQ := Lib.hid hQ
      rw [hQ] at hw e1 e2 h1 h2 ⊢
      by_cases h3 : q = E.m
      · have ht : E.take (Q : Int) = (⟨Q, E.s, E.l⟩, true) := by unfold SE.take; rw [if_pos (by omega)]; rfl
        rw [ht]
        have Hs := Lib.hid (h.store0 Q (by omega))
        have e3 : ((q : Int) != (E.m : Int)) = false := by simp; omega
        clear h ht hQ h1 h2 h3
        go_enter Try.func23, Try.ntmps23
        go_wp2
        go_ret
        exact ⟨rfl, Hs.out⟩
      · have ht : E.take (Q : Int) = (E, false) := by unfold SE.take; rw [if_neg fun h => by omega]
        rw [ht]
        have e3 : ((q : Int) != (E.m : Int)) = true := by simp; omega
        clear h ht hQ h1 h2 h3
        go_enter Try.func23, Try.ntmps23
        go_wp2
        go_ret
        exact ⟨rfl, HE.out⟩
end
/-- what the document's Send leaves -/
def RSendP (B g : Nat) (v : Value) (E : SE) (x : ByteArray) (w : World) (e : Ending) (w' : World) : Prop :=
  ∃ v', e = .returned (.tuple #[.int .i64 (E.send x).2.1, .int .i64 (E.send x).2.2]) ∧ RefAt w' B g v' (E.send x).1 ∧ KeptE g v w w' ∧ NewV w v v'
section
variable {w : World} {B g : Nat} {v : Value} {E : SE}
theorem rsend_end {w5 wA : World} {v7 : Value} {x : ByteArray} (h : RefAt w B g v E) (hx : ¬ 65536 < x.size ∧ ¬ (256 ≤ E.l.length ∨ 1099511627776 ≤ E.s)) (hb : Below w.heap.size w w5)
    (o7 : wA.ownsRow B 9 1 v7 (E.l.length + 1) (E.l.map Value.string ++ [.string x])) (g7 : w5.grownBy wA v.ownBlock) (z7 : v7.ownBlock = v.ownBlock ∨ v7.ownBlock = some w5.heap.size) :
    RefAt (wA.setCell ⟨g, 2, none⟩ v7) B g v7 ⟨E.m, E.s + 1, E.l ++ [x]⟩ ∧ KeptE g v w (wA.setCell ⟨g, 2, none⟩ v7) ∧ NewV w v v7 := by
  have hn7 : NewV w v v7 := z7.imp id fun e => ⟨_, by have := hb.size; omega, e⟩
  have hng : v7.ownBlock ≠ some g := by
    rcases z7 with z | z
    · rw [z]; exact h.apart
    · rw [z]
      intro e
      injection e with e
      have := h.lt
      have := hb.size
      omega
  have hbA : Box wA g 29 #[.int .i64 E.m, .int .i64 (E.s - E.l.length : Nat), v] := (h.box.below hb h.lt).grown g7 fun e => h.apart e.symm
  have hle := h.good.le
  refine ⟨⟨h.gB, ?_, ?_, ?_⟩, ?_, hn7⟩
  · have h8 := hbA.set_ 2 v7
    rw [show (E.l ++ [x]).length = E.l.length + 1 from by simp, show E.s + 1 - (E.l.length + 1) = E.s - E.l.length from by omega]
    simpa using h8
  · unfold OwnTx
    rw [List.length_append, List.length_singleton, List.map_append]
    exact own_set_kept o7 hng
  · have h9 := h.good.send x
    unfold SE.send at h9
    rw [if_neg hx.1, if_neg hx.2] at h9
    exact h9
  · exact ((KeptE.of hb).trans (.inl rfl) (KeptE.grown g7 (.inr rfl))).trans (.inl rfl) box_set_kept
set_option maxRecDepth 100000 in
set_option maxHeartbeats 3200000 in
theorem refSend_any (h : RefAt w B g v E) (hB : B ≤ w.heap.size) (x : ByteArray) : Calls Try.prog 18 #[.pointer (some ⟨g, 0, none⟩), .string x] w (RSendP B g v E x w) := by
  obtain ⟨D, hD⟩ : ∃ D : Nat, E.s - E.l.length = D := ⟨_, rfl⟩
  have hbx := h.box
  rw [hD] at hbx
  have hle := h.good.le
  have hsl := h.good.sl
  have hll := h.good.ll
  obtain ⟨A, c, rfl, -⟩ := h.own.slice
  have Hh := Lib.hid h
  have c1 : w.cell? ⟨g, 1, none⟩ = some (.int .i64 D) := hbx.cell 1
  have c2 : w.cell? ⟨g, 2, none⟩ = some (.slice A E.l.length c) := hbx.cell 2
  have HBx := Lib.hid hbx
  have hw : IntKind.i64.wrap ((D : Int) + (E.l.length : Int)) = (E.s : Int) := by rw [show (D : Int) + (E.l.length : Int) = (E.s : Int) from by omega]; exact IntWalk.i64_in _ (by omega)
  by_cases hx : 65536 < x.size
  · have ht : E.send x = (E, 0, 4) := if_pos hx
    have HT := Lib.hid ht
    have e1 : (65536 : Int) < (x.size : Int) := by omega
    clear h ht hx hD hbx
    go_enter Try.func18, Try.ntmps18
    go_wp2
    go_ret2
    exact ⟨_, by rw [HT.out]; rfl, by rw [HT.out]; exact ⟨Hh.out, KeptE.of (Below.refl _ _), .inl rfl⟩⟩
  · have e1 : ¬ (65536 : Int) < (x.size : Int) := by omega
    by_cases h2 : 256 ≤ E.l.length ∨ 1099511627776 ≤ E.s
    · have ht : E.send x = (E, 0, 17) := by unfold SE.send; rw [if_neg hx, if_pos h2]
      have HT := Lib.hid ht
      by_cases h3 : 256 ≤ E.l.length
      · have e2 : (256 : Int) ≤ (E.l.length : Int) := by omega
        clear h ht hx h2 h3 hD hbx hw
        go_enter Try.func18, Try.ntmps18
        go_wp2
        go_quiet (fail)
        go_wp2
        go_ret2
        exact ⟨_, by rw [HT.out]; rfl, by rw [HT.out]; exact ⟨Hh.out.below (below_nq w _), KeptE.of (below_nq w _), .inl rfl⟩⟩
      · have e2 : ¬ (256 : Int) ≤ (E.l.length : Int) := by omega
        have e3 : (1099511627776 : Int) ≤ (E.s : Int) := by omega
        clear h ht hx h2 h3 hD hbx
        go_enter Try.func18, Try.ntmps18
        go_wp2
        go_quiet (fail)
        go_wp2
        go_ret2
        exact ⟨_, by rw [HT.out]; rfl, by rw [HT.out]; exact ⟨Hh.out.below (below_nq w _), KeptE.of (below_nq w _), .inl rfl⟩⟩
    · have ht : E.send x = (⟨E.m, E.s + 1, E.l ++ [x]⟩, E.s + 1, 0) := by unfold SE.send; rw [if_neg hx, if_neg h2]
      have HT := Lib.hid ht
      have e2 : decide ((256 : Int) ≤ (E.l.length : Int)) = false := decide_eq_false (by omega)
      have e3 : decide ((1099511627776 : Int) ≤ (E.s : Int)) = false := decide_eq_false (by omega)
      have HX := Lib.hid (And.intro hx h2)
      have hw2 : IntKind.i64.wrap ((D : Int) + ((E.l.length + 1 : Nat) : Int)) = ((E.s + 1 : Nat) : Int) := by rw [show (D : Int) + ((E.l.length + 1 : Nat) : Int) = ((E.s + 1 : Nat) : Int) from by omega]; exact IntWalk.i64_in _ (by omega)
      have HN : Hid (E.l.length < 256) := Lib.hid (by omega)
      have HB := Lib.hid hB
      clear h ht hx h2 hD hbx
      go_enter Try.func18, Try.ntmps18
      go_wp2
      go_quiet (fail)
      have Hq := Lib.hid (below_nq w nq)
      generalize World.drewN w nq = w5 at Hq ⊢
      have h5 := Hh.out.below Hq.out
      have hbx5 := HBx.out.below Hq.out HBx.out.lt
      have d2 : w5.cell? ⟨g, 2, none⟩ = some (.slice A E.l.length c) := hbx5.cell 2
      have H5 := Lib.hid (And.intro h5 hbx5)
      clear h5 hbx5
      have HW2 := Lib.hid hw2
      clear hw hw2 e1 c1 c2 hle hsl hll
      go_wp2_with (at_builtin; refine wpList_append_hasN rfl (.tmp 32) (.tmp 34) _ rfl 9 tx_elem (by omega) Try.underlying27 rfl (own_belowN H5.out.1.own (below_box (.cells #[.string x] 9))) rfl (Has.lit w5 #[.string x] 9) (fun u hu => by simp at hu; subst hu; rfl) (by have := HN.out; simp only [maxLen]; omega) (by have := HN.out; omega) (by have := HB.out; have := Hq.out.size; simp; omega) ?_; intro v7 w7 o7 g7 z7; obtain ⟨A7, c7, rfl, -, -, -⟩ := own_sliceN o7; have hbA := (H5.out.2.below (below_box (.cells #[.string x] 9)) H5.out.2.lt).grown g7 (fun e => H5.out.1.apart e.symm); have x2 := hbA.cell 2; have f2 := hbA.frozen 2; simp at x2; have h8 := hbA.set_ 2 (.slice A7 (E.l.length + 1) c7); have HF := Lib.hid (rsend_end Hh.out HX.out (Hq.out.trans ((below_box (w := w5) (.cells #[.string x] 9)).mono Hq.out.size)) o7 g7 z7); have H8 := Lib.hid h8; clear h8 hbA o7 g7 z7)
      have HQ := Lib.hid (below_nq (w7.setCell ⟨g, 2, none⟩ (.slice A7 (E.l.length + 1) c7)))
      have hb9 : Box (w7.setCell ⟨g, 2, none⟩ (.slice A7 (E.l.length + 1) c7)) g 29 #[.int .i64 E.m, .int .i64 D, .slice A7 (E.l.length + 1) c7] := H8.out
      have y1 : (w7.setCell ⟨g, 2, none⟩ (.slice A7 (E.l.length + 1) c7)).cell? ⟨g, 1, none⟩ = some (.int .i64 D) := hb9.cell 1
      have y2 : (w7.setCell ⟨g, 2, none⟩ (.slice A7 (E.l.length + 1) c7)).cell? ⟨g, 2, none⟩ = some (.slice A7 (E.l.length + 1) c7) := hb9.cell 2
      clear hb9 H8 H5 d2 x2 f2 e2 e3
      generalize w7.setCell ⟨g, 2, none⟩ (.slice A7 (E.l.length + 1) c7) = w8 at HF HQ y1 y2 ⊢
      have hw2 := HW2.out
      obtain ⟨N1, hN1⟩ : ∃ N1, E.l.length + 1 = N1 := ⟨_, rfl⟩
      obtain ⟨S1, hS1⟩ : ∃ S1, E.s + 1 = S1 := ⟨_, rfl⟩
      have HS1 := Lib.hid hS1
      rw [hN1] at y2 HF
      rw [hN1, hS1] at hw2
      clear hN1 hS1 HW2
      go_quiet (fail)
      go_wp2
      go_ret2
      exact ⟨_, by rw [HT.out, HS1.out]; rfl, by rw [HT.out]; exact ⟨HF.out.1.below (HQ.out _), HF.out.2.1.trans HF.out.2.2 (KeptE.of (HQ.out _)), HF.out.2.2⟩⟩
end
end Go.Proofs.Ytaljojjpgkmiiaa

namespace Go.Proofs.Ytaljojjpgkmiiaa
open Go.RowKit

/-- the row is where it was, or in new memory, or nowhere -/
def NewW (w : World) (v v' : Value) : Prop := ∀ i, v'.ownBlock = some i → v.ownBlock = some i ∨ w.heap.size ≤ i
section
variable {w w1 w2 : World} {g : Nat} {v v1 v2 : Value}
theorem NewV.toW (h : NewV w v v1) : NewW w v v1 := by
  intro i hi
  rcases h with h | ⟨k, hk, h⟩
  · exact .inl (h ▸ hi)
  · rw [h] at hi
    injection hi with hi
    exact .inr (by omega)
theorem NewW.refl (w : World) (v : Value) : NewW w v v := fun _ h => .inl h
theorem NewW.trans (h : NewW w v v1) (hs : w.heap.size ≤ w1.heap.size) (k : NewW w1 v1 v2) : NewW w v v2 := by
  intro i hi
  rcases k i hi with h1 | h1
  · exact h i h1
  · exact .inr (Nat.le_trans hs h1)
theorem KeptE.transW (h : KeptE g v w w1) (hv : NewW w v v1) (k : KeptE g v1 w1 w2) : KeptE g v w w2 :=
  ⟨k.os.trans h.os, k.tape.trans h.tape, k.output.trans h.output, Nat.le_trans h.size k.size, fun i hi h1 h2 => (k.block i (Nat.lt_of_lt_of_le hi h.size) h1 fun e => by
    rcases hv i e with hv | hv
    · exact h2 hv
    · omega).trans (h.block i hi h1 h2)⟩
end
/-- what the document's Acked leaves -/
def RAckP (B g : Nat) (v : Value) (E : SE) (k : Int) (w : World) (e : Ending) (w' : World) : Prop :=
  ∃ v', e = .returned (.int .i64 (E.acked k).2) ∧ RefAt w' B g v' (E.acked k).1 ∧ KeptE g v w w' ∧ NewW w v v'
section
variable {w : World} {B g : Nat} {v : Value} {E : SE}
theorem rack_end {w5 wA : World} {v7 : Value} {j q : Nat} (h : RefAt w B g v E) (hB : B ≤ w.heap.size) (hj : j ≤ E.l.length) (hq : q = E.s - E.l.length + j) (hb : Below w.heap.size w w5)
    (o7 : wA.ownsRow w5.heap.size 9 1 v7 (E.l.length - j) ((E.l.drop j).map Value.string)) (g7 : w5.grownBy wA none) :
    RefAt ((wA.setCell ⟨g, 2, none⟩ v7).setCell ⟨g, 1, none⟩ (.int .i64 q)) B g v7 ⟨E.m, E.s, E.l.drop j⟩ ∧ KeptE g v w ((wA.setCell ⟨g, 2, none⟩ v7).setCell ⟨g, 1, none⟩ (.int .i64 q)) ∧ NewW w v v7 := by
  have hng : v7.ownBlock ≠ some g := fun e => by
    have := (o7.lt g e).1
    have := h.lt
    have := hb.size
    omega
  have hbA : Box wA g 29 #[.int .i64 E.m, .int .i64 (E.s - E.l.length : Nat), v] := (h.box.below hb h.lt).grown g7 (by simp)
  have hle := h.good.le
  refine ⟨⟨h.gB, ?_, ?_, ?_⟩, ?_, ?_⟩
  · have h8 := (hbA.set_ 2 v7).set_ 1 (.int .i64 q)
    rw [List.length_drop, show E.s - (E.l.length - j) = q from by omega]
    simpa using h8
  · unfold OwnTx
    rw [List.length_drop]
    exact own_baseN (own_set_kept (own_set_kept o7 hng) hng) (Nat.le_trans hB hb.size)
  · refine ⟨h.good.ml, h.good.sl, ?_, ?_, fun y hy => h.good.tx y (List.mem_of_mem_drop hy)⟩
    · have := h.good.ll; simp; omega
    · simp; omega
  · have b7 : Below w5.heap.size w5 wA := ⟨g7.os, g7.tape, g7.output, g7.size, fun i hi => g7.block i hi (by simp)⟩
    exact (((KeptE.of hb).trans (.inl rfl) (KeptE.of b7)).trans (.inl rfl) box_set_kept).trans (.inl rfl) box_set_kept
  · intro i hi
    exact .inr (Nat.le_trans hb.size (o7.lt i hi).1)
set_option maxRecDepth 100000 in
set_option maxHeartbeats 3200000 in
theorem refAcked_any (h : RefAt w B g v E) (hB : B ≤ w.heap.size) (k : Int) : Calls Try.prog 25 #[.pointer (some ⟨g, 0, none⟩), .int .i64 k] w (RAckP B g v E k w) := by
  obtain ⟨D, hD⟩ : ∃ D : Nat, E.s - E.l.length = D := ⟨_, rfl⟩
  have hbx := h.box
  rw [hD] at hbx
  have hle := h.good.le
  have hsl := h.good.sl
  have hll := h.good.ll
  have Hh := Lib.hid h
  have HB := Lib.hid hB
  have HD := Lib.hid hD
  obtain ⟨A, c, rfl, hnc, -, hh⟩ := h.own.slice
  have HBx := Lib.hid hbx
  obtain ⟨N, hN⟩ : ∃ N, E.l.length = N := ⟨_, rfl⟩
  have HN := Lib.hid hN
  obtain ⟨S, hS⟩ : ∃ S, E.s = S := ⟨_, rfl⟩
  have HS := Lib.hid hS
  have HH := Lib.hid hh
  rw [hN] at HBx hnc HH
  rw [hN] at Hh
  rw [hN, hS] at hD hle
  rw [hS] at hsl
  rw [hN] at hll
  have c1 : w.cell? ⟨g, 1, none⟩ = some (.int .i64 D) := HBx.out.cell 1
  have c2 : w.cell? ⟨g, 2, none⟩ = some (.slice A N c) := HBx.out.cell 2
  have hw : IntKind.i64.wrap ((D : Int) + (N : Int)) = (S : Int) := by rw [show (D : Int) + (N : Int) = (S : Int) from by omega]; exact IntWalk.i64_in _ (by omega)
  rw [hN]
  by_cases h1 : k ≤ (D : Int)
  · have ht : E.acked k = (E, 0) := by unfold SE.acked; rw [hN, hS, if_neg fun h => by omega]
    have HT := Lib.hid ht
    have e1 : decide (k ≤ (D : Int)) = true := decide_eq_true h1
    clear h ht hD hbx hN hS hh hle hsl hll hw h1
    go_enter Try.func25, Try.ntmps25
    go_wp2
    go_quiet (fail)
    go_wp2
    go_ret
    exact ⟨_, by rw [HT.out]; rfl, by rw [HT.out]; exact ⟨Hh.out.below (below_nq w _), KeptE.of (below_nq w _), NewW.refl _ _⟩⟩
  · have e1 : decide (k ≤ (D : Int)) = false := decide_eq_false h1
    by_cases h2 : (S : Int) < k
    · have ht : E.acked k = (E, 0) := by unfold SE.acked; rw [hN, hS, if_neg fun h => by omega]
      have HT := Lib.hid ht
      have e2 : decide ((S : Int) < k) = true := decide_eq_true h2
      clear h ht hD hbx hN hS hh hle hsl hll h1 h2
      go_enter Try.func25, Try.ntmps25
      go_wp2
      go_quiet (fail)
      go_wp2
      go_ret
      exact ⟨_, by rw [HT.out]; rfl, by rw [HT.out]; exact ⟨Hh.out.below (below_nq w _), KeptE.of (below_nq w _), NewW.refl _ _⟩⟩
    · obtain ⟨q, rfl⟩ : ∃ q : Nat, k = q := ⟨k.toNat, by omega⟩
      obtain ⟨j, hj⟩ : ∃ j, q - D = j := ⟨_, rfl⟩
      have ht : E.acked (q : Int) = (⟨E.m, E.s, E.l.drop j⟩, j) := by unfold SE.acked; rw [hN, hS, if_pos ⟨by omega, by omega⟩, Int.toNat_natCast, hD, hj]
      have HT := Lib.hid ht
      have e2 : decide (S < q) = false := decide_eq_false (by omega)
      have e3 : decide (q ≤ D) = false := decide_eq_false (by omega)
      have hw1 : IntKind.i64.wrap ((q : Int) - (D : Int)) = (j : Int) := by rw [show (q : Int) - (D : Int) = (j : Int) from by omega]; exact IntWalk.i64_in _ (by omega)
      have hjN : j ≤ N := by omega
      have hj0 : 0 < j := by omega
      obtain ⟨ga, rfl, hga⟩ : ∃ ga, A = some ⟨ga, 0, none⟩ ∧ B ≤ ga := by
        have h9 := Hh.out.own
        unfold OwnTx at h9
        rw [hN] at h9
        exact own_head h9 (by omega)
      have hjc : j ≤ c := by omega
      have Hc : Hid (j ≤ N ∧ 0 < j ∧ N ≤ 256 ∧ N ≤ c ∧ q = D + j) := Lib.hid ⟨hjN, hj0, hll, hnc, by omega⟩
      obtain ⟨A2, hA2, hr2⟩ : ∃ A2 : Option Addr, (if c = j then (some ⟨ga, 0, none⟩ : Option Addr) else some ⟨ga, j, none⟩) = A2 ∧ Has w w.heap.size A2 (N - j) ((E.l.drop j).map Value.string) := by
        refine ⟨_, rfl, ?_⟩
        have h9 := Has.cut HH.out hjN hnc
        simp only [Option.map_some, row_add] at h9
        rw [List.map_drop]
        exact h9
      have Hr2 := Lib.hid hr2
      obtain ⟨M, hM⟩ : ∃ M, N - j = M := ⟨_, rfl⟩
      have HM := Lib.hid hM
      rw [hM] at Hr2
      clear h ht hD hbx hN hS hh hle hsl hll h1 h2 hj hr2 hj0 hnc
      go_enter Try.func25, Try.ntmps25
      go_wp2
      go_quiet (fail)
      have Hq := Lib.hid (below_nq w nq)
      generalize World.drewN w nq = w5 at Hq ⊢
      have hbx5 := HBx.out.below Hq.out HBx.out.lt
      have d1 : w5.cell? ⟨g, 1, none⟩ = some (.int .i64 D) := hbx5.cell 1
      have d2 : w5.cell? ⟨g, 2, none⟩ = some (.slice (some ⟨ga, 0, none⟩) N c) := hbx5.cell 2
      have Hr5 := Lib.hid (Has.below Hr2.out Hq.out)
      have Hs5 := Lib.hid (Nat.le_trans HB.out Hq.out.size)
      have Hb5 := Lib.hid hbx5
      clear hbx5 c1 c2
      go_wp2_with (at_builtin; refine wpList_append_hasN rfl (.tmp 34) (.tmp 40) _ rfl 9 tx_elem (by omega) Try.underlying27 rfl (World.ownsRow_nil w5 w5.heap.size 9 1) rfl (by rw [Nat.mul_one]; exact Hr5.out) (tx_one _) (by have := Hc.out; have := HM.out; simp only [maxLen]; omega) (by have := Hc.out; have := HM.out; omega) (Nat.le_refl _) ?_; intro v7 w7 o7 g7 z7; rw [List.nil_append, Nat.zero_add] at o7; obtain ⟨A7, c7, rfl, -, -, -⟩ := own_sliceN o7; have g8 : w5.grownBy w7 none := g7; have hbA := Hb5.out.grown g8 (by simp); have x2 := hbA.cell 2; have f2 := hbA.frozen 2; have hb8 := hbA.set_ 2 (.slice A7 M c7); have y1 := hb8.cell 1; have g1 := hb8.frozen 1; simp at x2 y1; have HF := Lib.hid (rack_end (q := q) Hh.out HB.out (by rw [HN.out]; exact Hc.out.1) (by have := Hc.out.2.2.2.2; have := HD.out; omega) Hq.out (by rw [HN.out, HM.out]; exact o7) g8); clear g7 z7 o7 g8 hbA hb8)
      go_wp2
      go_ret
      exact ⟨_, by rw [HT.out]; rfl, by rw [HT.out]; exact HF.out⟩
end
end Go.Proofs.Ytaljojjpgkmiiaa

namespace Go.Proofs.Ytaljojjpgkmiiaa
open Go.RowKit
open Go.Lib (strCells)

section
variable {w : World} {B g : Nat} {v : Value} {E : SE}
set_option maxRecDepth 100000 in
set_option maxHeartbeats 6400000 in
theorem refSave_any (h : RefAt w B g v E) (hb : (textsBody (raw E.l)).length ≤ 1000000) : Calls Try.prog 28 #[.pointer (some ⟨g, 0, none⟩)] w fun e w' => e = .returned (.string ⟨E.save.toArray⟩) ∧ Below w.heap.size w w' := by
  have Hln := Lib.hid (save_len E h.good hb)
  obtain ⟨A, c, rfl, hnc, -, hh⟩ := h.own.slice
  obtain ⟨D, hD⟩ : ∃ D : Nat, E.s - E.l.length = D := ⟨_, rfl⟩
  obtain ⟨m, hm⟩ : ∃ m : Nat, E.m = m := ⟨_, rfl⟩
  obtain ⟨s, hs⟩ : ∃ s : Nat, E.s = s := ⟨_, rfl⟩
  obtain ⟨N, hN⟩ : ∃ N, E.l.length = N := ⟨_, rfl⟩
  have hms : m < 9223372036854775808 := by have := h.good.ml; omega
  have hss : s < 9223372036854775808 := by have := h.good.sl; omega
  have Hms := Lib.hid (And.intro hms hss)
  have HK : Hid (∀ wx, Below w.heap.size w wx → (wx.cell? ⟨g, 0, none⟩ = some (.int .i64 m) ∧ wx.cell? ⟨g, 1, none⟩ = some (.int .i64 D) ∧ wx.cell? ⟨g, 2, none⟩ = some (.slice A N c)) ∧ Below w.heap.size w wx) := Lib.hid fun wx hx => by
    have hc := (h.below hx).box
    rw [hD, hm, hN] at hc
    exact ⟨⟨hc.cell 0, hc.cell 1, hc.cell 2⟩, hx⟩
  have hw : IntKind.i64.wrap ((D : Int) + (N : Int)) = (s : Int) := by rw [show (D : Int) + (N : Int) = (s : Int) from by have := h.good.le; omega]; exact IntWalk.i64_in _ (by have := h.good.sl; omega)
  have HT : Hid (∀ wx, Below w.heap.size w wx → Calls Try.prog 70 #[.slice A N c] wx (Gives wx.heap.size (textsForm (raw E.l)).length (byteCells (textsForm (raw E.l))) wx)) := Lib.hid fun wx hx => refPutTexts_any A N c w.heap.size E.l wx (by have h9 := hh.below hx; rwa [hN] at h9) hx.size hb (by have := h.good.ll; omega)
  have HS : Hid (E.save = numForm m ++ (numForm s ++ textsForm (raw E.l))) := Lib.hid (by unfold SE.save; rw [hm, hs])
  obtain ⟨F, hF⟩ : ∃ F, E.save = F := ⟨_, rfl⟩
  obtain ⟨T, hT⟩ : ∃ T, textsForm (raw E.l) = T := ⟨_, rfl⟩
  rw [hF] at HS ⊢
  rw [hT] at HS HT Hln
  rw [hm, hs] at Hln
  have hl9 := Hln.out.1
  have hl9n := Hln.out.2.1
  obtain ⟨⟨p0, p1, p2⟩, -⟩ := HK.out w (Below.refl _ _)
  clear h hb hh hm hs hN hF hT hms hss hnc hD
  go_enter Try.func28, Try.ntmps28
  go_wp2
  go_region_held3 (fun wx => (wx.cell? ⟨g, 0, none⟩ = some (.int .i64 m) ∧ wx.cell? ⟨g, 1, none⟩ = some (.int .i64 D) ∧ wx.cell? ⟨g, 2, none⟩ = some (.slice A N c)) ∧ Below w.heap.size w wx)
    (first | exact HK.out _ (Below.refl _ _).drew | exact HK.out _ (below_thn (And.right (by assumption)) b1 (And.right (by assumption) : Below w.heap.size w _).size) | exact HK.out _ (below_thn (And.right (by assumption)) b2 (And.right (by assumption) : Below w.heap.size w _).size) | exact HK.out _ hbA)
    (first
      | (go_at_call_of 69 (Value.int IntKind.i64 (m : Int)); refine (refPutNum_any (m : Int) _ (by have := Hms.out.1; omega)).mono ?_; rintro e w3 ⟨v3, rfl, o3, b1⟩; rw [if_neg (by omega), Int.toNat_natCast] at o3; obtain ⟨A3, m3, rfl, -, -, -⟩ := own_slice o3)
      | (go_at_call_of 69 (Value.int IntKind.i64 (s : Int)); refine (refPutNum_any (s : Int) _ (by have := Hms.out.2; omega)).mono ?_; rintro e w4 ⟨v4, rfl, o4, b2⟩; rw [if_neg (by omega), Int.toNat_natCast] at o4; obtain ⟨A4, m4, rfl, -, -, x4⟩ := own_slice o4; have b12 : Below w.heap.size w w4 := (((Below.refl w.heap.size w).drew).trans b1).trans (b2.mono b1.size); have o34 := own_belowN o3 b2)
      | (refine step_append_hasN (by rfl) _ _ _ (by rfl) 5 u8_elemN (by omega) Try.underlying76 (by rfl) o34 (by rfl) (by rw [Nat.mul_one]; exact x4) (byteCells_one _) (by simp only [maxLen]; omega) (by omega) (Nat.le_trans b1.size b2.size) ?_; intro vA wA oA gA zA; have hbA : Below w.heap.size w wA := b12.grown gA b12.size (fun g e => (o3.lt g e).1)))
  obtain ⟨A5, c5, rfl, -, -, -⟩ := own_sliceN oA
  have HoA : Hid (wA.ownsRow w.heap.size 5 1 (.slice A5 ((numForm m).length + (numForm s).length) c5) ((numForm m).length + (numForm s).length) (byteCells (numForm m) ++ byteCells (numForm s))) := Lib.hid oA
  have HBA := Lib.hid hbA
  clear ‹_ ∧ Below w.heap.size w wA› o3 o4 b1 b2 b12 x4 o34 oA gA zA hbA p0 p1 p2
  obtain ⟨⟨p0, p1, p2⟩, -⟩ := HK.out _ HBA.out
  go_wp2_with fail
  refine (HT.out wA HBA.out).mono ?_
  rintro e w5 ⟨v5, rfl, o5, b5⟩
  obtain ⟨A6, m6, rfl, -, -, x5⟩ := own_slice o5
  have HB5 := Lib.hid (And.intro (HBA.out.trans (b5.mono HBA.out.size)) (own_belowN HoA.out b5))
  have X5 := Lib.hid x5
  have HTl : Hid (T.length ≤ 1000009) := Lib.hid Hln.out.2.2
  have HFl : Hid (byteCells (numForm m) ++ byteCells (numForm s) ++ byteCells T = byteCells F ∧ (numForm m).length + (numForm s).length + T.length = F.length) := Lib.hid (by rw [HS.out, byteCells_app, byteCells_app, List.append_assoc, List.length_append, List.length_append]; exact ⟨rfl, by omega⟩)
  clear o5 b5 x5
  go_wp2_with (at_builtin; refine wpList_append_hasN rfl (.tmp 21) (.tmp 26) _ rfl 5 u8_elemN (by omega) Try.underlying76 rfl HB5.out.2 rfl (by rw [Nat.mul_one]; exact X5.out) (byteCells_one _) (by have := HTl.out; simp only [maxLen]; omega) (by have := HTl.out; omega) HB5.out.1.size ?_; intro v7 w7 o7 g7 z7; obtain ⟨A7, c7, rfl, -, -, x7⟩ := own_slice o7; rw [HFl.out.1, HFl.out.2] at x7; have hcv : (convert 76 9 (.slice A7 ((numForm m).length + (numForm s).length + T.length) c7)).run Try.prog w7 = .ok (.string ⟨F.toArray⟩) w7 := (by rw [HFl.out.2]; exact string_run (w := w7) x7 c7); have HB7 := Lib.hid (HB5.out.1.grown g7 HB5.out.1.size fun k hk => (HB5.out.2.lt k hk).1); clear o7 g7 z7 x7)
  go_wp2
  go_ret
  exact ⟨rfl, HB7.out⟩
end
end Go.Proofs.Ytaljojjpgkmiiaa

namespace Go.Proofs.Ytaljojjpgkmiiaa
open Go.RowKit
open Go.Lib (strCells)

/-- what Load answers -/
def LoadP (b : List UInt8) (w : World) (e : Ending) (w' : World) : Prop :=
  ((loadT b).2 ≠ 0 ∧ e = .returned (.tuple #[.pointer none, .int .i64 (loadT b).2]) ∧ Below w.heap.size w w') ∨
  ((loadT b).2 = 0 ∧ ∃ g v, e = .returned (.tuple #[.pointer (some ⟨g, 0, none⟩), .int .i64 0]) ∧ EndAt w' w.heap.size g v (loadT b).1 ∧ Below w.heap.size w w')
set_option maxRecDepth 100000 in
set_option maxHeartbeats 6400000 in
theorem sesLoad_any (s : ByteArray) (w : World) (hs : s.size ≤ 1000000) : Calls Try.prog 27 #[.string s] w (LoadP s.data.toList w) := by
  obtain ⟨b, hbb⟩ : ∃ b, s.data.toList = b := ⟨_, rfl⟩
  obtain ⟨w1, c, hcv, hsc, hz1, hb1, hby⟩ := conv_bytes Try.prog w 9 76 5 s Try.underlying9 Try.underlying76 Try.underlying5
  rw [hbb] at hby ⊢
  have hbl : b.length = s.size := by rw [← hbb]; exact (Lib.size_eq s).symm
  have hH := hby.has
  rw [hbl] at hH
  have hC1 : w.heap.size + 1 ≤ w1.heap.size := by omega
  obtain ⟨⟨n1, p1, e1⟩, h1⟩ : ∃ r, getNum b 0 = r := ⟨_, rfl⟩
  obtain ⟨⟨n2, p2, e2⟩, h2⟩ : ∃ r, getNum b (p1 : Nat) = r := ⟨_, rfl⟩
  obtain ⟨⟨T, p3, e3⟩, h3⟩ : ∃ r, getTexts b (p2 : Nat) 256 65536 = r := ⟨_, rfl⟩
  have HLT : Hid (loadT b = if e1 ≠ 0 then (⟨0, 0, []⟩, e1) else if e2 ≠ 0 then (⟨0, 0, []⟩, e2) else if 1099511627776 < n1 ∨ 1099511627776 < n2 then (⟨0, 0, []⟩, 3) else if e3 ≠ 0 then (⟨0, 0, []⟩, e3) else if n2 < T.length ∨ p3 < b.length then (⟨0, 0, []⟩, 3) else (⟨n1, n2, T.map txOf⟩, 0)) := Lib.hid (by
    unfold loadT
    rw [h1]
    simp only
    rw [h2]
    simp only
    rw [h3])
  have HN1 := Lib.hid (getNum_any (some ⟨w.heap.size, 0, none⟩) s.size c (w.heap.size + 1) 0 b w1 hH (by simp only [maxLen]; omega) hsc)
  have HN2 := Lib.hid (getNum_any (some ⟨w.heap.size, 0, none⟩) s.size c (w.heap.size + 1) (p1 : Nat) b w1 hH (by simp only [maxLen]; omega) hsc)
  have HN3 := Lib.hid (getTexts_any (some ⟨w.heap.size, 0, none⟩) s.size c (w.heap.size + 1) (p2 : Nat) 256 65536 b w1 hH hC1 (by omega) hsc)
  rw [h1] at HN1
  rw [h2] at HN2
  rw [h3] at HN3
  have HB := Lib.hid hb1
  have Hbl := Lib.hid hbl
  have HGd : Hid ((loadT b).2 = 0 → (loadT b).1.Good) := Lib.hid loadT_good
  have hs2 : Hid (s.size ≤ 1000000) := Lib.hid hs
  have HP3 : Hid (p3 ≤ 1000000) := Lib.hid (by
    by_cases h9 : e3 = 0
    · have h8 := getTexts_one (l := b) (p := (p2 : Nat)) (count := 256) (most := 65536) (by rw [h3]; exact h9)
      rw [h3] at h8
      have := h8.2.2.1
      simp only at this
      omega
    · have h8 := getTexts_err (l := b) (p := (p2 : Nat)) (count := 256) (most := 65536) (by rw [h3]; exact h9)
      rw [h3] at h8
      injection h8 with _ h8
      injection h8 with h8 _
      omega)
  clear hbb hby hbl hH h1 h2 h3 hb1 hC1 hs hz1
  by_cases he1 : e1 = 0
  · subst he1
    by_cases he2 : e2 = 0
    · subst he2
      by_cases hbig : 1099511627776 < n1 ∨ 1099511627776 < n2
      · have HL : Hid (loadT b = (⟨0, 0, []⟩, 3)) := Lib.hid (by rw [HLT.out, if_neg (by simp), if_neg (by simp), if_pos hbig])
        by_cases hb1 : 1099511627776 < n1
        · have g1 : (1099511627776 : Int) < (n1 : Int) := by omega
          clear HLT HGd HN3 hbig hb1
          go_enter Try.func27, Try.ntmps27
          go_wp2_with fail
          refine HN1.out.mono ?_
          rintro e w9 ⟨rfl, rfl⟩
          go_wp2_with fail
          refine HN2.out.mono ?_
          rintro e w9 ⟨rfl, rfl⟩
          go_wp2
          go_ret2
          exact .inl ⟨by rw [HL.out]; simp, by rw [HL.out]; rfl, HB.out⟩
        · have g1 : ¬ (1099511627776 : Int) < (n1 : Int) := by omega
          have g2 : (1099511627776 : Int) < (n2 : Int) := by omega
          clear HLT HGd HN3 hbig hb1
          go_enter Try.func27, Try.ntmps27
          go_wp2_with fail
          refine HN1.out.mono ?_
          rintro e w9 ⟨rfl, rfl⟩
          go_wp2_with fail
          refine HN2.out.mono ?_
          rintro e w9 ⟨rfl, rfl⟩
          go_wp2
          go_ret2
          exact .inl ⟨by rw [HL.out]; simp, by rw [HL.out]; rfl, HB.out⟩
      · have g1 : ¬ (1099511627776 : Int) < (n1 : Int) := by omega
        have g2 : ¬ (1099511627776 : Int) < (n2 : Int) := by omega
        have HL0 : Hid (loadT b = if e3 ≠ 0 then (⟨0, 0, []⟩, e3) else if n2 < T.length ∨ p3 < b.length then (⟨0, 0, []⟩, 3) else (⟨n1, n2, T.map txOf⟩, 0)) := Lib.hid (by rw [HLT.out, if_neg (by simp), if_neg (by simp), if_neg hbig])
        clear HLT hbig
        by_cases he3 : e3 = 0
        · subst he3
          obtain ⟨NT, hNT⟩ : ∃ NT, T.length = NT := ⟨_, rfl⟩
          have HNT := Lib.hid hNT
          by_cases hbad : n2 < T.length ∨ p3 < b.length
          · have HL : Hid (loadT b = (⟨0, 0, []⟩, 3)) := Lib.hid (by rw [HL0.out, if_neg (by simp), if_pos hbad])
            rw [hNT, Hbl.out] at hbad
            clear hNT
            by_cases hb1 : n2 < NT
            · have g3 : (n2 : Int) < (NT : Int) := by omega
              clear hbad hb1 HL0 HGd
              go_enter Try.func27, Try.ntmps27
              go_wp2_with fail
              refine HN1.out.mono ?_
              rintro e w9 ⟨rfl, rfl⟩
              go_wp2_with fail
              refine HN2.out.mono ?_
              rintro e w9 ⟨rfl, rfl⟩
              go_wp2_with fail
              refine HN3.out.mono ?_
              rintro e w4 ⟨v4, rfl, o4, b4⟩
              simp only [HNT.out] at o4
              obtain ⟨A4, c4, rfl, -⟩ := own_sliceN o4
              have HB4 := Lib.hid (HB.out.trans (b4.mono HB.out.size))
              clear o4 b4
              go_wp2
              go_ret2
              exact .inl ⟨by rw [HL.out]; simp, by rw [HL.out]; rfl, HB4.out⟩
            · have g3 : ¬ (n2 : Int) < (NT : Int) := by omega
              have g4 : (p3 : Int) < (s.size : Int) := by omega
              clear hbad hb1 HL0 HGd
              go_enter Try.func27, Try.ntmps27
              go_wp2_with fail
              refine HN1.out.mono ?_
              rintro e w9 ⟨rfl, rfl⟩
              go_wp2_with fail
              refine HN2.out.mono ?_
              rintro e w9 ⟨rfl, rfl⟩
              go_wp2_with fail
              refine HN3.out.mono ?_
              rintro e w4 ⟨v4, rfl, o4, b4⟩
              simp only [HNT.out] at o4
              obtain ⟨A4, c4, rfl, -⟩ := own_sliceN o4
              have HB4 := Lib.hid (HB.out.trans (b4.mono HB.out.size))
              clear o4 b4
              go_wp2
              go_ret2
              exact .inl ⟨by rw [HL.out]; simp, by rw [HL.out]; rfl, HB4.out⟩
          · have HL : Hid (loadT b = (⟨n1, n2, T.map txOf⟩, 0)) := Lib.hid (by rw [HL0.out, if_neg (by simp), if_neg hbad])
            have HGn : Hid (SE.Good ⟨n1, n2, T.map txOf⟩) := Lib.hid (by have h9 := HGd.out; rw [HL.out] at h9; exact h9 rfl)
            rw [hNT, Hbl.out] at hbad
            have g3 : ¬ (n2 : Int) < (NT : Int) := by omega
            have g4 : ¬ (p3 : Int) < (s.size : Int) := by omega
            clear hNT hbad HL0 HGd
            go_enter Try.func27, Try.ntmps27
            go_wp2_with fail
            refine HN1.out.mono ?_
            rintro e w9 ⟨rfl, rfl⟩
            go_wp2_with fail
            refine HN2.out.mono ?_
            rintro e w9 ⟨rfl, rfl⟩
            go_wp2_with fail
            refine HN3.out.mono ?_
            rintro e w4 ⟨v4, rfl, o4, b4⟩
            simp only [HNT.out] at o4
            obtain ⟨A4, c4, rfl, -⟩ := own_sliceN o4
            have HB4 := Lib.hid (HB.out.trans (b4.mono HB.out.size))
            have HE4 : Hid (EndAt (w4.alloc (.cells #[.int .i64 n1, .int .i64 n2, .slice A4 NT c4] 107)) w.heap.size w4.heap.size (.slice A4 NT c4) ⟨n1, n2, T.map txOf⟩ ∧ Below w.heap.size w (w4.alloc (.cells #[.int .i64 n1, .int .i64 n2, .slice A4 NT c4] 107))) := Lib.hid
              ⟨⟨HB4.out.size, Box.made _ _ _, by unfold OwnTx; rw [List.length_map, HNT.out, strVals_txOf]; exact own_baseN (own_belowN o4 (below_box _)) HB.out.size, HGn.out⟩, HB4.out.alloc HB4.out.size _⟩
            clear o4 b4
            go_wp2
            go_ret2
            exact .inr ⟨by rw [HL.out], _, _, rfl, by rw [HL.out]; exact HE4.out.1, HE4.out.2⟩
        · have HL : Hid (loadT b = (⟨0, 0, []⟩, e3)) := Lib.hid (by rw [HL0.out, if_pos he3])
          have g3 : ((e3 : Int) != 0) = true := by simpa using he3
          have He := Lib.hid he3
          clear HL0 HGd he3
          go_enter Try.func27, Try.ntmps27
          go_wp2_with fail
          refine HN1.out.mono ?_
          rintro e w9 ⟨rfl, rfl⟩
          go_wp2_with fail
          refine HN2.out.mono ?_
          rintro e w9 ⟨rfl, rfl⟩
          go_wp2_with fail
          refine HN3.out.mono ?_
          rintro e w4 ⟨v4, rfl, o4, b4⟩
          have HB4 := Lib.hid (HB.out.trans (b4.mono HB.out.size))
          clear o4 b4
          go_wp2
          go_ret2
          exact .inl ⟨by rw [HL.out]; exact He.out, by rw [HL.out]; rfl, HB4.out⟩
    · have HL : Hid (loadT b = (⟨0, 0, []⟩, e2)) := Lib.hid (by rw [HLT.out, if_neg (by simp), if_pos he2])
      have g3 : ((e2 : Int) != 0) = true := by simpa using he2
      have He := Lib.hid he2
      clear HLT HGd he2 HN3
      go_enter Try.func27, Try.ntmps27
      go_wp2_with fail
      refine HN1.out.mono ?_
      rintro e w9 ⟨rfl, rfl⟩
      go_wp2_with fail
      refine HN2.out.mono ?_
      rintro e w9 ⟨rfl, rfl⟩
      go_wp2
      go_ret2
      exact .inl ⟨by rw [HL.out]; exact He.out, by rw [HL.out]; rfl, HB.out⟩
  · have HL : Hid (loadT b = (⟨0, 0, []⟩, e1)) := Lib.hid (by rw [HLT.out, if_pos he1])
    have g3 : ((e1 : Int) != 0) = true := by simpa using he1
    have He := Lib.hid he1
    clear HLT HGd he1 HN3 HN2
    go_enter Try.func27, Try.ntmps27
    go_wp2_with fail
    refine HN1.out.mono ?_
    rintro e w9 ⟨rfl, rfl⟩
    go_wp2
    go_ret2
    exact .inl ⟨by rw [HL.out]; exact He.out, by rw [HL.out]; rfl, HB.out⟩
end Go.Proofs.Ytaljojjpgkmiiaa

namespace Go.Proofs.Ytaljojjpgkmiiaa
open Go.RowKit

/-- rows that are in different blocks -/
def Far (v u : Value) : Prop := ∀ i, v.ownBlock = some i → u.ownBlock ≠ some i
/-- the program's end at g and the document's end at rg, both with the texts of E or F, their rows in different blocks -/
structure PStE (w : World) (B g : Nat) (v : Value) (E : SE) (rg : Nat) (rv : Value) (F : SE) : Prop where
  e : EndAt w B g v E
  r : RefAt w B rg rv F
  far : Far v rv
section
variable {w w' : World} {B g g' rg : Nat} {v v' rv rv' : Value} {E E' F F' : SE}
theorem box_box_ne {a b : Nat} {t u : TypeId} {cs ds : Array Value} (h : Box w a t cs) (k : Box w b u ds) (hne : t ≠ u) : a ≠ b := by
  intro e
  subst e
  unfold Box at h k
  rw [h] at k
  injection k with k
  injection k with _ k
  exact hne k
theorem PStE.lo (h : PStE w B g v E rg rv F) : B ≤ w.heap.size := Nat.le_of_lt (Nat.lt_of_le_of_lt h.e.gB h.e.lt)
theorem PStE.below (h : PStE w B g v E rg rv F) (hb : Below w.heap.size w w') : PStE w' B g v E rg rv F := ⟨h.e.below hb, h.r.below hb, h.far⟩
theorem PStE.prog (h : PStE w B g v E rg rv F) (e' : EndAt w' B g v' E') (k : KeptE g v w w') (n : NewW w v v') : PStE w' B g v' E' rg rv F := by
  refine ⟨e', h.r.keep (k.block rg h.r.lt (box_box_ne h.r.box h.e.box (by decide)) fun e => own_no_box h.e.own h.r.box (by decide) rg e rfl) fun i hi => ?_, fun i hi e => ?_⟩
  · exact k.block i (h.r.own.lt i hi).2 (own_no_box h.r.own h.e.box (by decide) i hi) fun e => h.far i e hi
  · rcases n i hi with h1 | h1
    · exact h.far i h1 e
    · have := (h.r.own.lt i e).2
      omega
theorem PStE.ref (h : PStE w B g v E rg rv F) (r' : RefAt w' B rg rv' F') (k : KeptE rg rv w w') (n : NewW w rv rv') : PStE w' B g v E rg rv' F' := by
  refine ⟨h.e.keep (k.block g h.e.lt (box_box_ne h.e.box h.r.box (by decide)) fun e => own_no_box h.r.own h.e.box (by decide) g e rfl) fun i hi => ?_, r', fun i hi e => ?_⟩
  · exact k.block i (h.e.own.lt i hi).2 (own_no_box h.e.own h.r.box (by decide) i hi) (h.far i hi)
  · rcases n i e with h1 | h1
    · exact h.far i hi h1
    · have := (h.e.own.lt i hi).2
      omega
/-- a new end in place of the program's -/
theorem PStE.fresh (h : PStE w B g v E rg rv F) (e' : EndAt w' w.heap.size g' v' E') (hb : Below w.heap.size w w') (hB : B ≤ w.heap.size) : PStE w' B g' v' E' rg rv F :=
  ⟨e'.base hB, h.r.below hb, fun i hi e => by have := (e'.own.lt i hi).1; have := (h.r.own.lt i e).2; omega⟩
theorem PStE.box (h : PStE w B g v E rg rv F) (k : KeptE g v w w') {b : Nat} {t : TypeId} {cs : Array Value} (hb : Box w b t cs) (h1 : t ≠ 107) (h2 : 9 ≠ t) : Box w' b t cs :=
  (k.block b hb.lt (box_box_ne hb h.e.box h1) fun e => own_no_box h.e.own hb h2 b e rfl).trans hb
theorem PStE.boxR (h : PStE w B g v E rg rv F) (k : KeptE rg rv w w') {b : Nat} {t : TypeId} {cs : Array Value} (hb : Box w b t cs) (h1 : t ≠ 29) (h2 : 9 ≠ t) : Box w' b t cs :=
  (k.block b hb.lt (box_box_ne hb h.r.box h1) fun e => own_no_box h.r.own hb h2 b e rfl).trans hb
end
/-- texts of at most 200 bytes -/
def Short (E : SE) : Prop := ∀ x ∈ E.l, x.size ≤ 200
theorem textsBody_short : ∀ (l : List ByteArray), (∀ x ∈ l, x.size ≤ 200) → (textsBody (raw l)).length ≤ l.length * 209
  | [], _ => by simp [raw, textsBody]
  | x :: l, h => by
    have ih := textsBody_short l fun y hy => h y (by simp [hy])
    have hx := h x (by simp)
    have h9 := numForm_len9 (k := x.size) (by omega)
    show (textForm x.data.toList ++ textsBody (raw l)).length ≤ _
    rw [List.length_append, textForm_len, size_bytes, List.length_cons]
    omega
theorem Short.body {E : SE} (h : Short E) (g : E.Good) : (textsBody (raw E.l)).length ≤ 1000000 := by
  have h1 := textsBody_short E.l h
  have := g.ll
  omega
theorem Short.save {E : SE} (h : Short E) (g : E.Good) : E.save.length ≤ 1000000 := by
  have h1 := textsBody_short E.l h
  have h2 := save_len E g (h.body g)
  have := g.ll
  have h3 := numForm_len9 (k := (raw E.l).length) (by unfold raw; rw [List.length_map]; omega)
  unfold SE.save textsForm
  simp only [List.length_append]
  omega
theorem Short.new : Short ⟨0, 0, []⟩ := by intro x hx; simp at hx
theorem Short.send {E : SE} (h : Short E) {x : ByteArray} (hx : x.size ≤ 200) : Short (E.send x).1 := by
  unfold SE.send
  split
  · exact h
  · split
    · exact h
    · intro y hy
      rcases List.mem_append.1 hy with hy | hy
      · exact h y hy
      · simp at hy; subst hy; exact hx
theorem Short.take {E : SE} (h : Short E) (k : Int) : Short (E.take k).1 := by
  unfold SE.take
  split
  · exact h
  · exact h
theorem Short.acked {E : SE} (h : Short E) (k : Int) : Short (E.acked k).1 := by
  unfold SE.acked
  split
  · exact fun y hy => h y (List.mem_of_mem_drop hy)
  · exact h
theorem save_size {E : SE} (h : Short E) (g : E.Good) : (⟨E.save.toArray⟩ : ByteArray).size ≤ 1000000 := by
  have := h.save g
  rw [Lib.size_eq]
  exact this
end Go.Proofs.Ytaljojjpgkmiiaa
