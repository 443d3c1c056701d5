/- The document's Num and Text put the forms. Condition: a million bytes at most. -/
import Derived.Test.YtaljojjpgkmiiaaPakD
import Derived.Test.YtaljojjpgkmiiaaSpecBack
namespace Go.Proofs.Ytaljojjpgkmiiaa
open Go.RowKit
open Go.Lib (strCells)

theorem ownBelow {w w' : World} {B C n : Nat} {e : TypeId} {v : Value} {xs : List Value} (h : w.ownsRow B e 1 v n xs) (hb : Below C w w') (hC : w.heap.size ≤ C) : w'.ownsRow B e 1 v n xs :=
  h.kept (row := none) ⟨hb.os, hb.tape, hb.output, hb.size, fun i hi _ => hb.block i (by omega)⟩ (by cases v.ownBlock <;> simp)

set_option maxRecDepth 100000 in
set_option maxHeartbeats 800000 in
theorem refPutNum_in (k : Nat) : ∀ (w : World), k < 9223372036854775808 →
    Calls Try.prog 69 #[.int .i64 (k : Int)] w (Gives w.heap.size (numForm k).length (byteCells (numForm k)) w) := by
  induction k using Nat.strongRecOn with
  | _ k ih =>
    intro w hk
    have hneg : ¬ (k : Int) < 0 := by omega
    have Ih := Lib.hid ih
    clear ih
    by_cases hs : k < 128
    · go_enter Try.func69, Try.ntmps69
      go_wp2_with fail
      go_ret
      have hn : numForm k = [UInt8.ofNat k] := numForm_small hs
      have ho := World.ownsRow_lit (base := w.heap.size) (e := 5) (size := 1) w #[.int .u8 (k : Int)] 1 (Nat.le_refl _) (by simp [maxLen]) rfl
      refine ret_own rfl ho ?_ ?_ ((Below.refl _ _).alloc (Nat.le_refl _) _)
      · rw [hn]; rfl
      · rw [hn, byte_cell _ (by omega)]
    · have hlen := numForm_len9 (k := k / 128) (by omega)
      have hn : Hid (numForm k = UInt8.ofNat (k % 128 + 128) :: numForm (k / 128)) := Lib.hid (numForm_big (by omega))
      have hdiv : Hid (∀ W : World, Calls Try.prog 69 #[.int .i64 ((k : Int) / 128)] W (Gives W.heap.size (numForm (k / 128)).length (byteCells (numForm (k / 128))) W)) :=
        Lib.hid fun W => Ih.out (k / 128) (by omega) W (by omega)
      clear Ih
      go_enter Try.func69, Try.ntmps69
      go_wp2_with fail
      refine (hdiv.out _).mono ?_
      rintro e w1 ⟨v1, rfl, hown1, hb1⟩
      obtain ⟨A1, c1, rfl, hc1, hm1, hh1⟩ := own_slice hown1
      have Ho : Hid (w1.ownsRow w.heap.size 5 1 (.slice (some ⟨w.heap.size, 0, none⟩) 1 1) 1 [.int .u8 (128 + (k : Int) % 128)]) :=
        Lib.hid (ownBelow (World.ownsRow_lit (base := w.heap.size) (e := 5) (size := 1) w #[.int .u8 (128 + (k : Int) % 128)] 1 (Nat.le_refl _) (by simp [maxLen]) rfl) hb1 (Nat.le_refl _))
      have Hh1 := Lib.hid hh1
      have hsz : w.heap.size ≤ w1.heap.size := Nat.le_trans (le_alloc (Nat.le_refl _) _) hb1.size
      have Hb1 := Lib.hid (((Below.refl _ w).alloc (Nat.le_refl _) _).trans (hb1.mono (le_alloc (Nat.le_refl _) _)))
      clear hown1 hc1 hm1 hh1 hb1
      go_wp2_with (at_builtin; refine wpList_append_has rfl (.tmp 14) (.tmp 17) _ rfl 5 u8_elem Try.underlying76 rfl Ho.out rfl Hh1.out (byteCells_one _) (by simp only [maxLen]; omega) (by omega) hsz ?_; intro v2 w2 hown2 hg2 _)
      have Hb2 := Lib.hid (below_own Hb1.out Ho.out hg2 hsz)
      go_ret
      refine ret_own rfl hown2 ?_ ?_ Hb2.out
      · rw [hn.out, List.length_cons, Nat.add_comm]
      · rw [hn.out, byteCells_cons, ofNat_small (by omega)]
        have e : (128 : Int) + (k : Int) % 128 = ((k % 128 + 128 : Nat) : Int) := by omega
        rw [e]
        rfl

/-- the document's Num -/
theorem refPutNum_any (k : Int) (w : World) (hk : k < 9223372036854775808) :
    Calls Try.prog 69 #[.int .i64 k] w (Gives w.heap.size (if k < 0 then [] else numForm k.toNat).length (byteCells (if k < 0 then [] else numForm k.toNat)) w) := by
  by_cases h : k < 0
  · rw [if_pos h]
    go_enter Try.func69, Try.ntmps69
    go_wp2
    go_ret
    exact ⟨_, rfl, World.ownsRow_nil _ _ _ _, Below.refl _ _⟩
  · rw [if_neg h]
    obtain ⟨q, rfl⟩ : ∃ q : Nat, k = q := ⟨k.toNat, by omega⟩
    rw [Int.toNat_natCast]
    exact refPutNum_in q w (by omega)

set_option maxRecDepth 100000 in
set_option maxHeartbeats 800000 in
/-- the document's Text -/
theorem refPutText_any (s : ByteArray) (w : World) (hs : s.size ≤ 1000000) :
    Calls Try.prog 86 #[.string s] w (Gives w.heap.size (textForm s.data.toList).length (byteCells (textForm s.data.toList)) w) := by
  obtain ⟨i0, hi, hz, hs1, hb1⟩ := u8_elem.get
  have hlen := numForm_len9 (k := s.size) (by omega)
  go_enter Try.func86, Try.ntmps86
  go_wp2_with fail
  refine (refPutNum_in s.size w (by omega)).mono ?_
  rintro e w1 ⟨v1, rfl, hown1, hbel1⟩
  have hB1 : w.heap.size ≤ w1.heap.size := hbel1.size
  go_wp2_with (at_builtin; refine Lib.wpList_append_own_string w1 rfl (.tmp 5) (.tmp 6) _ _ rfl w.heap.size 5 i0 Try.underlying76 Try.underlying9 hi hz hs1 hb1 v1 _ _ rfl hown1 s rfl (by simp only [maxLen]; omega) (by omega) hB1 ?_; intro v2 w2 hown2 hg2 _)
  have hb2 : Below w.heap.size w w2 := below_own hbel1 hown1 hg2 hB1
  go_ret
  refine ret_own rfl hown2 ?_ ?_ hb2
  · rw [textForm_len, size_bytes]
  · rw [textForm, byteCells_app, size_bytes]; rfl

end Go.Proofs.Ytaljojjpgkmiiaa
