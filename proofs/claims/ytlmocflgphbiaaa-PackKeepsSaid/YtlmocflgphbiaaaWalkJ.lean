/- The document's Num, Text and Texts put the forms. Condition: a million bytes at most. -/
import Derived.Test.YtlmocflgphbiaaaWalkF
import Derived.Test.YtlmocflgphbiaaaSpecBack
namespace Go.Proofs.Ytlmocflgphbiaaa
open Go.RowKit
open Go.Lib (strCells)

theorem ownBelow {w w' : World} {B C n : Nat} {e : TypeId} {v : Value} {xs : List Value} (h : w.ownsRow B e 1 v n xs) (hb : Below C w w') (hC : w.heap.size ≤ C) : w'.ownsRow B e 1 v n xs :=
  h.kept (row := none) ⟨hb.os, hb.tape, hb.output, hb.size, fun i hi _ => hb.block i (by omega)⟩ (by cases v.ownBlock <;> simp)

set_option maxRecDepth 100000 in
set_option maxHeartbeats 800000 in
theorem refPutNum_in (k : Nat) : ∀ (w : World), k < 9223372036854775808 →
    Calls Try.prog 12 #[.int .i64 (k : Int)] w (Gives w.heap.size (numForm k).length (byteCells (numForm k)) w) := by
  induction k using Nat.strongRecOn with
  | _ k ih =>
    intro w hk
    have hneg : ¬ (k : Int) < 0 := by omega
    have Ih := Lib.hid ih
    clear ih
    by_cases hs : k < 128
    · go_enter Try.func12, Try.ntmps12
      go_wp2_with fail
      go_ret
      have hn : numForm k = [UInt8.ofNat k] := numForm_small hs
      have ho := World.ownsRow_lit (base := w.heap.size) (e := 5) (size := 1) w #[.int .u8 (k : Int)] 1 (Nat.le_refl _) (by simp [maxLen]) rfl
      refine ret_own rfl ho ?_ ?_ ((Below.refl _ _).alloc (Nat.le_refl _) _)
      · rw [hn]; rfl
      · rw [hn, byte_cell _ (by omega)]
    · have hlen := numForm_len9 (k := k / 128) (by omega)
      have hn : Hid (numForm k = UInt8.ofNat (k % 128 + 128) :: numForm (k / 128)) := Lib.hid (numForm_big (by omega))
      have hdiv : Hid (∀ W : World, Calls Try.prog 12 #[.int .i64 ((k : Int) / 128)] W (Gives W.heap.size (numForm (k / 128)).length (byteCells (numForm (k / 128))) W)) :=
        Lib.hid fun W => Ih.out (k / 128) (by omega) W (by omega)
      clear Ih
      go_enter Try.func12, Try.ntmps12
      go_wp2_with fail
      refine (hdiv.out _).mono ?_
      rintro e w1 ⟨v1, rfl, hown1, hb1⟩
      obtain ⟨A1, c1, rfl, hc1, hm1, hh1⟩ := own_slice hown1
      have Ho : Hid (w1.ownsRow w.heap.size 5 1 (.slice (some ⟨w.heap.size, 0, none⟩) 1 1) 1 [.int .u8 (128 + (k : Int) % 128)]) :=
        Lib.hid (ownBelow (World.ownsRow_lit (base := w.heap.size) (e := 5) (size := 1) w #[.int .u8 (128 + (k : Int) % 128)] 1 (Nat.le_refl _) (by simp [maxLen]) rfl) hb1 (Nat.le_refl _))
      have Hh1 := Lib.hid hh1
      have hsz : w.heap.size ≤ w1.heap.size := Nat.le_trans (le_alloc (Nat.le_refl _) _) hb1.size
      have Hb1 := Lib.hid (((Below.refl _ w).alloc (Nat.le_refl _) _).trans (hb1.mono (le_alloc (Nat.le_refl _) _)))
      clear hown1 hc1 hm1 hh1 hb1
      go_wp2_with (at_builtin; refine wpList_append_has rfl (.tmp 14) (.tmp 17) _ rfl 5 u8_elem Try.underlying25 rfl Ho.out rfl Hh1.out (byteCells_one _) (by simp only [maxLen]; omega) (by omega) hsz ?_; intro v2 w2 hown2 hg2 _)
      have Hb2 := Lib.hid (below_own Hb1.out Ho.out hg2 hsz)
      go_ret
      refine ret_own rfl hown2 ?_ ?_ Hb2.out
      · rw [hn.out, List.length_cons, Nat.add_comm]
      · rw [hn.out, byteCells_cons, ofNat_small (by omega)]
        have e : (128 : Int) + (k : Int) % 128 = ((k % 128 + 128 : Nat) : Int) := by omega
        rw [e]
        rfl

/-- the document's Num -/
theorem refPutNum_any (k : Int) (w : World) (hk : k < 9223372036854775808) :
    Calls Try.prog 12 #[.int .i64 k] w (Gives w.heap.size (if k < 0 then [] else numForm k.toNat).length (byteCells (if k < 0 then [] else numForm k.toNat)) w) := by
  by_cases h : k < 0
  · rw [if_pos h]
    go_enter Try.func12, Try.ntmps12
    go_wp2
    go_ret
    exact ⟨_, rfl, World.ownsRow_nil _ _ _ _, Below.refl _ _⟩
  · rw [if_neg h]
    obtain ⟨q, rfl⟩ : ∃ q : Nat, k = q := ⟨k.toNat, by omega⟩
    rw [Int.toNat_natCast]
    exact refPutNum_in q w (by omega)

set_option maxRecDepth 100000 in
set_option maxHeartbeats 800000 in
/-- the document's Text -/
theorem refPutText_any (s : ByteArray) (w : World) (hs : s.size ≤ 1000000) :
    Calls Try.prog 13 #[.string s] w (Gives w.heap.size (textForm s.data.toList).length (byteCells (textForm s.data.toList)) w) := by
  obtain ⟨i0, hi, hz, hs1, hb1⟩ := u8_elem.get
  have hlen := numForm_len9 (k := s.size) (by omega)
  go_enter Try.func13, Try.ntmps13
  go_wp2_with fail
  refine (refPutNum_in s.size w (by omega)).mono ?_
  rintro e w1 ⟨v1, rfl, hown1, hbel1⟩
  have hB1 : w.heap.size ≤ w1.heap.size := hbel1.size
  go_wp2_with (at_builtin; refine Lib.wpList_append_own_string w1 rfl (.tmp 5) (.tmp 6) _ _ rfl w.heap.size 5 i0 Try.underlying25 Try.underlying9 hi hz hs1 hb1 v1 _ _ rfl hown1 s rfl (by simp only [maxLen]; omega) (by omega) hB1 ?_; intro v2 w2 hown2 hg2 _)
  have hb2 : Below w.heap.size w w2 := below_own hbel1 hown1 hg2 hB1
  go_ret
  refine ret_own rfl hown2 ?_ ?_ hb2
  · rw [textForm_len, size_bytes]
  · rw [textForm, byteCells_app, size_bytes]; rfl

set_option maxRecDepth 100000 in
set_option maxHeartbeats 800000 in
/-- the document's Texts -/
theorem refPutTexts_any (A : Option Addr) (n c C : Nat) (ss : List ByteArray) (w : World) (h : HasTexts w C A n ss) (hC : C ≤ w.heap.size) (hs : (textsBody (raw ss)).length ≤ 1000000) (hn : n ≤ 1000000) :
    Calls Try.prog 14 #[.slice A n c] w (Gives w.heap.size (textsForm (raw ss)).length (byteCells (textsForm (raw ss))) w) := by
  have hlen := numForm_len9 (k := n) (by omega)
  have Hl := Lib.hid h.len
  go_enter Try.func14, Try.ntmps14
  go_wp2_with fail
  refine (refPutNum_in n w (by omega)).mono ?_
  rintro e w1 ⟨v1, rfl, hown1, hbel1⟩
  go_wp2
  go_loopw [3, 4] (fun v i wr => ∃ k : Nat, k ≤ n ∧ i = .int .i64 (k : Int) ∧ wr.ownsRow w.heap.size 5 1 v ((numForm n).length + (textsBody (raw (ss.take k))).length) (byteCells (numForm n ++ textsBody (raw (ss.take k)))) ∧ Below w.heap.size w wr) (fun _ i _ => n - (intOf i).toNat)
  case atStart => exact ⟨0, by omega, rfl, by simpa [raw, textsBody] using hown1, hbel1⟩
  case round =>
    obtain ⟨k, hk, rfl, hown', hb⟩ := hrel
    have hBr : w.heap.size ≤ wr.heap.size := hb.size
    have hle := body_take_le ss k
    by_cases hlt : k < n
    · obtain ⟨a, rfl, hab, hc0⟩ := h.text hlt
      have hc : wr.cell? (a.add k) = some (.string (ss[k]?.getD ByteArray.empty)) := by
        rw [hb.cell (by rw [addr_block]; omega), hc0]
        simp
      clear hc0
      have hsz := body_mem (ss := ss) (k := k) (by have := Hl.out; omega)
      have hle2 := body_take_le ss (k + 1)
      have hs0 := body_take_succ (ss := ss) (k := k) (by have := Hl.out; omega)
      have hle3 : (textsBody (raw (ss.take k))).length + (textForm (ss[k]?.getD ByteArray.empty).data.toList).length ≤ 1000000 := by
        rw [hs0, List.length_append] at hle2
        simp only [List.getD_eq_getElem?_getD] at hle2
        omega
      have Hs := Lib.hid hs0
      clear hs0 hle2
      simp only [List.getD_eq_getElem?_getD] at hsz Hs
      have Hown' := Lib.hid hown'
      have Hb := Lib.hid hb
      clear hown' hb
      go_wp2_with fail
      refine (refPutText_any (ss[k]?.getD ByteArray.empty) wr (by omega)).mono ?_
      rintro e w2 ⟨v2, rfl, hown2, hbel2⟩
      obtain ⟨A2, c2, rfl, hc2, hm2, hh2⟩ := own_slice hown2
      have Hh2 := Lib.hid hh2
      have Ho2 := Lib.hid (ownBelow Hown'.out hbel2 (Nat.le_refl _))
      have Hb2 := Lib.hid (Hb.out.trans (hbel2.mono hBr))
      have hsz2 := Nat.le_trans hBr hbel2.size
      clear hown2 hbel2 hc2 hm2 hh2
      go_wp2_with (at_builtin; refine wpList_append_has rfl (.tmp 14) (.tmp 19) _ rfl 5 u8_elem Try.underlying25 rfl Ho2.out rfl Hh2.out (byteCells_one _) (by simp only [maxLen]; omega) (by omega) hsz2 ?_; intro v3 w3 hown3 hg3 _)
      have Hb3 := Lib.hid (below_own Hb2.out Ho2.out hg3 hsz2)
      go_roundw
      case rel =>
        refine ⟨k + 1, by omega, by go_num, ?_, Hb3.out⟩
        rw [Hs.out, ← List.append_assoc, byteCells_app, List.length_append, ← Nat.add_assoc]
        exact hown3
      case measure => simp [intOf]; omega
    · go_wp2
      go_ret
      have e1 : ss.take k = ss := List.take_of_length_le (by have := Hl.out; omega)
      have e2 : (raw ss).length = n := by rw [raw, List.length_map, Hl.out]
      rw [e1] at hown'
      refine ret_own rfl hown' ?_ ?_ hb
      · rw [textsForm, e2, List.length_append]
      · rw [textsForm, e2]

end Go.Proofs.Ytlmocflgphbiaaa
