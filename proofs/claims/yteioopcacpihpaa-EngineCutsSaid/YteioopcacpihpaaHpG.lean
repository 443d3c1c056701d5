/- run.Merge gives what the plain text (SpecRun) gives. Condition: ten lists of sixty changes with short texts at most, in memory. -/
import Derived.Test.YteioopcacpihpaaHpF
namespace Go.Proofs.Yteioopcacpihpaa
open Go.RowKit
open Go.Lib (strCells compareBytes)

/-- few changes with short texts -/
def SmallL (r : List Chg) : Prop := r.length ≤ 60 ∧ ∀ x ∈ r, x.k.size ≤ 4000 ∧ x.v.size ≤ 4000
set_option maxRecDepth 100000 in
set_option maxHeartbeats 1600000 in
theorem merge_gen (A : Option Addr) (n c C : Nat) (rs : Crs) (w : World) (h : HasCrs w C A n rs) (hC : C ≤ w.heap.size) (hn : n ≤ 99000) (T : Nat) (hT : T ≤ 1000000) (ht : sumL (crLists rs) ≤ T) (hs : ∀ r ∈ crLists rs, ∀ x ∈ r, x.k.size ≤ 140737488355328 ∧ x.v.size ≤ 140737488355328) :
    Calls Try.prog 18 #[.slice A n c] w (MergePost w.heap.size (crLists rs) w) := by
  have Hw := Lib.hid (anyWrong_any A n c C rs w h (by unfold maxLen; omega) hC)
  by_cases hr : ∀ r ∈ crLists rs, Run r
  · have hall : (crLists rs).all runB = true := all_runB.2 hr
    rw [hall] at Hw
    have Hm := Lib.hid (fun wx (hx : Below w.heap.size w wx) => merged_any A n c C rs wx (h.belowOf hx hC) (Nat.le_trans hC hx.size) hn T hT hr ht hs)
    have Hr := Lib.hid hr
    clear h hs hall hr ht
    go_enter Try.func18, Try.ntmps18
    go_wp2_with fail
    refine Hw.out.mono ?_
    rintro e w1 ⟨rfl, hb1⟩
    have Hm1 := Lib.hid (Hm.out w1 hb1)
    have Hb1 := Lib.hid hb1
    clear hb1
    go_wp2_with fail
    refine Hm1.out.mono ?_
    rintro e w2 ⟨v, rfl, ho, hb2⟩
    have Ho := Lib.hid ho
    have Hb2 := Lib.hid (Hb1.out.trans (hb2.mono Hb1.out.size))
    clear ho hb2
    go_wp2
    go_ret2
    exact ⟨Hb2.out, .inl ⟨Hr.out, v, rfl, own_baseN Ho.out Hb1.out.size⟩⟩
  · have hall : (crLists rs).all runB = false := by
      rw [← Bool.not_eq_true]
      exact fun h => hr (all_runB.1 h)
    rw [hall] at Hw
    have Hr := Lib.hid hr
    clear h hs hall hr ht
    go_enter Try.func18, Try.ntmps18
    go_wp2_with fail
    refine Hw.out.mono ?_
    rintro e w1 ⟨rfl, hb1⟩
    have Hb1 := Lib.hid hb1
    clear hb1
    go_wp2
    go_ret2
    exact ⟨Hb1.out, .inr ⟨Hr.out, rfl⟩⟩
theorem merge_any (A : Option Addr) (n c C : Nat) (rs : Crs) (w : World) (h : HasCrs w C A n rs) (hC : C ≤ w.heap.size) (hn : n ≤ 10) (hs : ∀ r ∈ crLists rs, SmallL r) :
    Calls Try.prog 18 #[.slice A n c] w (MergePost w.heap.size (crLists rs) w) := by
  have h1 := sumL_le (L := crLists rs) (b := 60) fun l hl => (hs l hl).1
  rw [crLists_len, h.len] at h1
  exact merge_gen A n c C rs w h hC (by omega) 600 (by omega) (by omega) fun r hr x hx => by have := (hs r hr).2 x hx; omega
end Go.Proofs.Yteioopcacpihpaa
