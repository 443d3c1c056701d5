/- The document's Num, Text and Texts put the forms. Condition: a million bytes at most. -/
import Derived.Test.YtaljojjpgkmiiaaWalkT
import Derived.Test.YtaljojjpgkmiiaaPakJ
import Derived.Test.YtaljojjpgkmiiaaSpecBack
namespace Go.Proofs.Ytaljojjpgkmiiaa
open Go.RowKit
open Go.Lib (strCells)

set_option maxRecDepth 100000 in
set_option maxHeartbeats 800000 in
/-- the document's Texts -/
theorem refPutTexts_any (A : Option Addr) (n c C : Nat) (ss : List ByteArray) (w : World) (h : HasTexts w C A n ss) (hC : C ≤ w.heap.size) (hs : (textsBody (raw ss)).length ≤ 1000000) (hn : n ≤ 1000000) :
    Calls Try.prog 70 #[.slice A n c] w (Gives w.heap.size (textsForm (raw ss)).length (byteCells (textsForm (raw ss))) w) := by
  have hlen := numForm_len9 (k := n) (by omega)
  have Hl := Lib.hid h.len
  go_enter Try.func70, Try.ntmps70
  go_wp2_with fail
  refine (refPutNum_in n w (by omega)).mono ?_
  rintro e w1 ⟨v1, rfl, hown1, hbel1⟩
  go_wp2
  go_loopw [3, 4] (fun v i wr => ∃ k : Nat, k ≤ n ∧ i = .int .i64 (k : Int) ∧ wr.ownsRow w.heap.size 5 1 v ((numForm n).length + (textsBody (raw (ss.take k))).length) (byteCells (numForm n ++ textsBody (raw (ss.take k)))) ∧ Below w.heap.size w wr) (fun _ i _ => n - (intOf i).toNat)
  case atStart => exact ⟨0, by omega, rfl, by simpa [raw, textsBody] using hown1, hbel1⟩
  case round =>
    obtain ⟨k, hk, rfl, hown', hb⟩ := hrel
    have hBr : w.heap.size ≤ wr.heap.size := hb.size
    have hle := body_take_le ss k
    by_cases hlt : k < n
    · obtain ⟨a, rfl, hab, hc0⟩ := h.text hlt
      have hc : wr.cell? (a.add k) = some (.string (ss[k]?.getD ByteArray.empty)) := by
        rw [hb.cell (by rw [addr_block]; omega), hc0]
        simp
      clear hc0
      have hsz := body_mem (ss := ss) (k := k) (by have := Hl.out; omega)
      have hle2 := body_take_le ss (k + 1)
      have hs0 := body_take_succ (ss := ss) (k := k) (by have := Hl.out; omega)
      have hle3 : (textsBody (raw (ss.take k))).length + (textForm (ss[k]?.getD ByteArray.empty).data.toList).length ≤ 1000000 := by
        rw [hs0, List.length_append] at hle2
        simp only [List.getD_eq_getElem?_getD] at hle2
        omega
      have Hs := Lib.hid hs0
      clear hs0 hle2
      simp only [List.getD_eq_getElem?_getD] at hsz Hs
      have Hown' := Lib.hid hown'
      have Hb := Lib.hid hb
      clear hown' hb
      go_wp2_with fail
      refine (refPutText_any (ss[k]?.getD ByteArray.empty) wr (by omega)).mono ?_
      rintro e w2 ⟨v2, rfl, hown2, hbel2⟩
      obtain ⟨A2, c2, rfl, hc2, hm2, hh2⟩ := own_slice hown2
      have Hh2 := Lib.hid hh2
      have Ho2 := Lib.hid (ownBelow Hown'.out hbel2 (Nat.le_refl _))
      have Hb2 := Lib.hid (Hb.out.trans (hbel2.mono hBr))
      have hsz2 := Nat.le_trans hBr hbel2.size
      clear hown2 hbel2 hc2 hm2 hh2
      go_wp2_with (at_builtin; refine wpList_append_has rfl (.tmp 14) (.tmp 19) _ rfl 5 u8_elem Try.underlying76 rfl Ho2.out rfl Hh2.out (byteCells_one _) (by simp only [maxLen]; omega) (by omega) hsz2 ?_; intro v3 w3 hown3 hg3 _)
      have Hb3 := Lib.hid (below_own Hb2.out Ho2.out hg3 hsz2)
      go_roundw
      case rel =>
        refine ⟨k + 1, by omega, by go_num, ?_, Hb3.out⟩
        rw [Hs.out, ← List.append_assoc, byteCells_app, List.length_append, ← Nat.add_assoc]
        exact hown3
      case measure => simp [intOf]; omega
    · go_wp2
      go_ret
      have e1 : ss.take k = ss := List.take_of_length_le (by have := Hl.out; omega)
      have e2 : (raw ss).length = n := by rw [raw, List.length_map, Hl.out]
      rw [e1] at hown'
      refine ret_own rfl hown' ?_ ?_ hb
      · rw [textsForm, e2, List.length_append]
      · rw [textsForm, e2]

end Go.Proofs.Ytaljojjpgkmiiaa
