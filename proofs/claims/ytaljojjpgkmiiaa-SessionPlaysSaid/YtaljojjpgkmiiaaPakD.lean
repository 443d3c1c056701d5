/- pack.addText and pack.Text put the form of a text. Condition: a million bytes at most. -/
import Derived.Test.YtaljojjpgkmiiaaWalkC
import Derived.Lib.AppendStr
namespace Go.Proofs.Ytaljojjpgkmiiaa
open Go.RowKit
open Go.Lib (strCells)

theorem size_bytes (s : ByteArray) : s.data.toList.length = s.size := Array.length_toList
theorem textForm_len (s : List UInt8) : (textForm s).length = (numForm s.length).length + s.length := by simp [textForm]

set_option maxHeartbeats 400000 in
theorem addText_any (B m : Nat) (v : Value) (xs : List Value) (s : ByteArray) (w : World) (hown : w.ownsRow B 5 1 v m xs) (hB : B ≤ w.heap.size) (hs : s.size ≤ 1000000) (hm : m ≤ 35184372088832) :
    Calls Try.prog 103 #[v, .string s] w (Gives B (m + (textForm s.data.toList).length) (xs ++ byteCells (textForm s.data.toList)) w) := by
  obtain ⟨i0, hi, hz, hs1, hb1⟩ := u8_elem.get
  have hlen := numForm_len9 (k := s.size) (by omega)
  go_enter Try.func103, Try.ntmps103
  go_wp2_with fail
  refine (addNum_any B m s.size v xs w hown hB (by omega) (by omega)).mono ?_
  rintro e w1 ⟨v1, rfl, hown1, hbel1⟩
  have hB1 : B ≤ w1.heap.size := Nat.le_trans hB hbel1.size
  go_wp2_with (at_builtin; refine Lib.wpList_append_own_string w1 rfl (.tmp 8) (.tmp 9) _ _ rfl B 5 i0 Try.underlying76 Try.underlying9 hi hz hs1 hb1 v1 _ _ rfl hown1 s rfl (by simp only [maxLen]; omega) (by omega) hB1 ?_; intro v2 w2 hown2 hg2 _)
  have hb2 : Below B w w2 := below_own hbel1 hown1 hg2 hB1
  go_ret
  refine ret_own rfl hown2 ?_ ?_ hb2
  · rw [textForm_len, size_bytes]; omega
  · rw [textForm, byteCells_app, size_bytes, List.append_assoc]; rfl

/-- Text -/
theorem text_any (s : ByteArray) (w : World) (hs : s.size ≤ 1000000) :
    Calls Try.prog 83 #[.string s] w (Gives w.heap.size (textForm s.data.toList).length (byteCells (textForm s.data.toList)) w) := by
  go_enter Try.func83, Try.ntmps83
  go_wp2_with fail
  refine (addText_any w.heap.size 0 (.slice none 0 0) [] s w (World.ownsRow_nil _ _ _ _) (Nat.le_refl _) hs (by omega)).mono ?_
  rintro e w' ⟨v', rfl, hown, hb⟩
  go_wp2
  go_ret
  exact ret_own rfl hown (by omega) rfl hb

end Go.Proofs.Ytaljojjpgkmiiaa
