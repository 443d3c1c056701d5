/- pack.addText, pack.Text and pack.Texts put the forms of texts and lists. Condition: a million bytes at most. -/
import Derived.Test.YtaljojjpgkmiiaaWalkC
import Derived.Test.YtaljojjpgkmiiaaPakD
import Derived.Lib.AppendStr
namespace Go.Proofs.Ytaljojjpgkmiiaa
open Go.RowKit
open Go.Lib (strCells)

/-- the texts ss, in memory -/
abbrev HasTexts (w : World) (B : Nat) (A : Option Addr) (n : Nat) (ss : List ByteArray) : Prop := Has w B A n (ss.map Value.string)
theorem HasTexts.len {w : World} {B n : Nat} {A : Option Addr} {ss : List ByteArray} (h : HasTexts w B A n ss) : ss.length = n := by have := h.1; rwa [List.length_map] at this
theorem HasTexts.text {w : World} {B n : Nat} {A : Option Addr} {ss : List ByteArray} {k : Nat} (h : HasTexts w B A n ss) (hk : k < n) :
    ∃ a, A = some a ∧ a.block < B ∧ w.cell? (a.add k) = some (.string (ss.getD k ByteArray.empty)) := by
  obtain ⟨a, e, hb, hc⟩ := h.cell hk
  have hl : k < ss.length := by have := h.len; omega
  exact ⟨a, e, hb, by rw [hc]; simp [hl]⟩

/-- the texts as lists of bytes -/
def raw (ss : List ByteArray) : List (List UInt8) := ss.map (·.data.toList)
theorem textsBody_app (a b : List (List UInt8)) : textsBody (a ++ b) = textsBody a ++ textsBody b := by
  induction a with
  | nil => rfl
  | cons x a ih => simp [textsBody, ih]
theorem raw_take_succ {ss : List ByteArray} {k : Nat} (h : k < ss.length) : raw (ss.take (k + 1)) = raw (ss.take k) ++ [(ss.getD k ByteArray.empty).data.toList] := by
  rw [List.take_succ_eq_append_getElem h]
  simp only [raw, List.map_append, List.map_cons, List.map_nil, List.getD_eq_getElem?_getD, List.getElem?_eq_getElem h, Option.getD_some]
theorem body_take_succ {ss : List ByteArray} {k : Nat} (h : k < ss.length) : textsBody (raw (ss.take (k + 1))) = textsBody (raw (ss.take k)) ++ textForm (ss.getD k ByteArray.empty).data.toList := by
  rw [raw_take_succ h, textsBody_app]
  simp [textsBody]
theorem body_take_le (ss : List ByteArray) (k : Nat) : (textsBody (raw (ss.take k))).length ≤ (textsBody (raw ss)).length := by
  have h := List.take_append_drop k ss
  have : textsBody (raw ss) = textsBody (raw (ss.take k)) ++ textsBody (raw (ss.drop k)) := by
    rw [← textsBody_app]
    unfold raw
    rw [← List.map_append, h]
  rw [this, List.length_append]
  omega
theorem body_mem {ss : List ByteArray} {k : Nat} (h : k < ss.length) : (ss.getD k ByteArray.empty).size ≤ (textsBody (raw ss)).length := by
  have h1 := body_take_le ss (k + 1)
  rw [body_take_succ h, List.length_append, textForm_len, size_bytes] at h1
  omega

set_option maxHeartbeats 400000 in
/-- Texts -/
theorem texts_any (A : Option Addr) (n c C : Nat) (ss : List ByteArray) (w : World) (h : HasTexts w C A n ss) (hC : C ≤ w.heap.size) (hs : (textsBody (raw ss)).length ≤ 1000000) (hn : n ≤ 1000000) :
    Calls Try.prog 66 #[.slice A n c] w (Gives w.heap.size (textsForm (raw ss)).length (byteCells (textsForm (raw ss))) w) := by
  have hlen := numForm_len9 (k := n) (by omega)
  have Hl := Lib.hid h.len
  go_enter Try.func66, Try.ntmps66
  go_wp2_with fail
  refine (addNum_any w.heap.size 0 n (.slice none 0 0) [] w (World.ownsRow_nil _ _ _ _) (Nat.le_refl _) (by omega) (by omega)).mono ?_
  rintro e w1 ⟨v1, rfl, hown1, hbel1⟩
  go_wp2
  go_loopw [3, 5, 11] (fun v _ i wr => ∃ k : Nat, k ≤ n ∧ i = .int .i64 (k : Int) ∧ wr.ownsRow w.heap.size 5 1 v ((numForm n).length + (textsBody (raw (ss.take k))).length) (byteCells (numForm n ++ textsBody (raw (ss.take k)))) ∧ Below w.heap.size w wr) (fun _ _ i _ => n - (intOf i).toNat)
  case atStart => exact ⟨0, by omega, rfl, by simpa [raw, textsBody] using hown1, hbel1⟩
  case round =>
    obtain ⟨k, hk, rfl, hown', hb⟩ := hrel
    have hBr : w.heap.size ≤ wr.heap.size := hb.size
    have hle := body_take_le ss k
    by_cases hlt : k < n
    · obtain ⟨a, rfl, hab, hc0⟩ := h.text hlt
      have hc : wr.cell? (a.add k) = some (.string (ss[k]?.getD ByteArray.empty)) := by
        rw [hb.cell (by rw [addr_block]; omega), hc0]
        simp
      clear hc0
      have hsz := body_mem (ss := ss) (k := k) (by have := Hl.out; omega)
      have Hs := Lib.hid (body_take_succ (ss := ss) (k := k) (by have := Hl.out; omega))
      simp only [List.getD_eq_getElem?_getD] at hsz Hs
      go_wp2_with fail
      refine (addText_any w.heap.size _ _ _ (ss[k]?.getD ByteArray.empty) wr hown' hBr (by omega) (by omega)).mono ?_
      rintro e w2 ⟨v2, rfl, hown2, hbel2⟩
      go_wp2
      go_roundw
      case rel =>
        refine ⟨k + 1, by omega, by go_num, ?_, hb.trans hbel2⟩
        rw [Hs.out, ← List.append_assoc, byteCells_app, List.length_append, ← Nat.add_assoc]
        exact hown2
      case measure => simp [intOf]; omega
    · go_wp2
      go_ret
      have e1 : ss.take k = ss := List.take_of_length_le (by have := Hl.out; omega)
      have e2 : (raw ss).length = n := by rw [raw, List.length_map, Hl.out]
      rw [e1] at hown'
      refine ret_own rfl hown' ?_ ?_ hb
      · rw [textsForm, e2, List.length_append]
      · rw [textsForm, e2]

end Go.Proofs.Ytaljojjpgkmiiaa
