/- Copy: a letter that is the same, in memory of its own. Condition: rows in memory, texts that fit. -/
import Derived.Test.YtabcoidjbigdbaaLetS
import Derived.Laws.EntriesVeiled
namespace Go.Proofs.Ytabcoidjbigdbaa
open Go.RowKit
open Go.Lib (strCells)

set_option maxRecDepth 100000 in
set_option maxHeartbeats 3200000 in
theorem copiesP_any (A : Option Addr) (n c B : Nat) (l : List LPr) (w : World) (h : HasLps w B A n l) (hn : n ≤ 1000000) (hw : B ≤ w.heap.size) (hs : ∀ p ∈ l, p.k.size ≤ 140737488355328 ∧ p.v.size ≤ 140737488355328) :
    Calls Try.prog 58 #[.slice A n c, .func (.func 59) #[] #[]] w fun e w' => ∃ v, e = .returned v ∧ OwnLps w' w.heap.size v l ∧ Below w.heap.size w w' := by
  have H := Lib.hid h
  have Hs := Lib.hid hs
  have Hl := Lib.hid h.1
  clear h hs
  go_enter Try.func58, Try.ntmps58
  go_wp2
  go_loopw [5, 7, 10] (fun cv _ i wr => ∃ k : Nat, k ≤ n ∧ i = .int .i64 (k : Int) ∧ wr.ownsRow w.heap.size 38 2 cv k (lpCells (l.take k)) ∧ Below w.heap.size w wr) (fun _ _ i _ => n - (intOf i).toNat)
  case atStart => exact ⟨0, by omega, rfl, World.ownsRow_nil _ _ _ _, Below.refl _ _⟩
  case round =>
    obtain ⟨k, hk, rfl, hown, hb⟩ := hrel
    have Hown := Lib.hid hown
    have Hb := Lib.hid hb
    have hsz := hb.size
    clear hown hb
    by_cases hlt : k < n
    · obtain ⟨a, v, rfl, hab, hv, c0, c1⟩ := (H.out.belowOf Hb.out hw).at_ hlt
      obtain ⟨vk, vv⟩ := v
      simp only at c0 c1
      have hvs := Hs.out _ (List.mem_of_getElem? hv)
      simp only at hvs
      obtain ⟨hv1, hv2⟩ := hvs
      have E : Hid (l.take (k + 1) = l.take k ++ [⟨vk, vv⟩]) := Lib.hid (by rw [List.take_add_one, hv]; rfl)
      have hk0 : (0 : Int) ≤ (k : Int) := by omega
      have hk1 : (k : Int) < (n : Int) := by omega
      clear hv
      go_wp2_with fail
      refine (copyPr_any vk vv _ hv1 hv2).mono ?_
      rintro e w2 ⟨rfl, hb2⟩
      have Hb3 : Hid (Below wr.heap.size wr w2) := Lib.hid ((below_box _).trans (hb2.mono (by simp)))
      have Hown3 := Lib.hid (own_belowN Hown.out Hb3.out)
      have Hb4 := Lib.hid (Hb.out.trans (Hb3.out.mono hsz))
      have hs3 := Hb4.out.size
      clear hb2 Hb3
      go_wp2_with (at_builtin; refine wpList_append_hasN rfl (.tmp 14) (.tmp 18) _ rfl 38 lp_elem (by omega) Try.underlying22 rfl (Hown3.out.alloc _) rfl (lp_lit w2 ⟨vk, vv⟩) (lpCells_one _) (by simp only [maxLen]; omega) (by omega) (le_alloc hs3 _) ?_; intro v4 w4 hown4 hg4 hz4; have Hb5 : Hid (Below w.heap.size w w4) := Lib.hid (below_ownN (Hb4.out.alloc hs3 _) (Hown3.out.alloc _) hg4 (le_alloc hs3 _)); clear hg4 hz4)
      go_roundw
      case rel =>
        refine ⟨k + 1, by omega, by go_num, ?_, Hb5.out⟩
        rw [E.out, lpCells_app]
        exact hown4
      case measure => simp [intOf]; omega
    · obtain rfl : k = n := by omega
      have E : Hid (l.take k = l) := Lib.hid (List.take_of_length_le (by have := Hl.out; omega))
      rw [E.out] at Hown
      go_wp2
      go_ret
      exact ⟨_, rfl, by unfold OwnLps; rw [Hl.out]; exact Hown.out, Hb.out⟩
set_option maxRecDepth 100000 in
set_option maxHeartbeats 3200000 in
theorem copiesI_any (A : Option Addr) (n c B : Nat) (l : List LIt) (w : World) (h : HasLis w B A n l) (hn : n ≤ 1000000) (hw : B ≤ w.heap.size) (hs : ∀ p ∈ l, p.e.size ≤ 140737488355328) :
    Calls Try.prog 60 #[.slice A n c, .func (.func 61) #[] #[]] w fun e w' => ∃ v, e = .returned v ∧ OwnLis w' w.heap.size v l ∧ Below w.heap.size w w' := by
  have H := Lib.hid h
  have Hs := Lib.hid hs
  have Hl := Lib.hid h.1
  clear h hs
  go_enter Try.func60, Try.ntmps60
  go_wp2
  go_loopw [5, 7, 10] (fun cv _ i wr => ∃ k : Nat, k ≤ n ∧ i = .int .i64 (k : Int) ∧ wr.ownsRow w.heap.size 40 3 cv k (liCells (l.take k)) ∧ Below w.heap.size w wr) (fun _ _ i _ => n - (intOf i).toNat)
  case atStart => exact ⟨0, by omega, rfl, World.ownsRow_nil _ _ _ _, Below.refl _ _⟩
  case round =>
    obtain ⟨k, hk, rfl, hown, hb⟩ := hrel
    have Hown := Lib.hid hown
    have Hb := Lib.hid hb
    have hsz := hb.size
    clear hown hb
    by_cases hlt : k < n
    · obtain ⟨a, v, rfl, hab, hv, c0, c1, c2⟩ := (H.out.belowOf Hb.out hw).at_ hlt
      obtain ⟨ve, vv, vg⟩ := v
      simp only at c0 c1 c2
      have hvs := Hs.out _ (List.mem_of_getElem? hv)
      simp only at hvs
      have E : Hid (l.take (k + 1) = l.take k ++ [⟨ve, vv, vg⟩]) := Lib.hid (by rw [List.take_add_one, hv]; rfl)
      have hk0 : (0 : Int) ≤ (k : Int) := by omega
      have hk1 : (k : Int) < (n : Int) := by omega
      clear hv
      go_wp2_with fail
      refine (copyIt_any ve vv vg _ hvs).mono ?_
      rintro e w2 ⟨rfl, hb2⟩
      have Hb3 : Hid (Below wr.heap.size wr w2) := Lib.hid ((below_box _).trans (hb2.mono (by simp)))
      have Hown3 := Lib.hid (own_belowN Hown.out Hb3.out)
      have Hb4 := Lib.hid (Hb.out.trans (Hb3.out.mono hsz))
      have hs3 := Hb4.out.size
      clear hb2 Hb3
      go_wp2_with (at_builtin; refine wpList_append_hasN rfl (.tmp 14) (.tmp 18) _ rfl 40 li_elem (by omega) Try.underlying23 rfl (Hown3.out.alloc _) rfl (li_lit w2 ⟨ve, vv, vg⟩) (liCells_one _) (by simp only [maxLen]; omega) (by omega) (le_alloc hs3 _) ?_; intro v4 w4 hown4 hg4 hz4; have Hb5 : Hid (Below w.heap.size w w4) := Lib.hid (below_ownN (Hb4.out.alloc hs3 _) (Hown3.out.alloc _) hg4 (le_alloc hs3 _)); clear hg4 hz4)
      go_roundw
      case rel =>
        refine ⟨k + 1, by omega, by go_num, ?_, Hb5.out⟩
        rw [E.out, liCells_app]
        exact hown4
      case measure => simp [intOf]; omega
    · obtain rfl : k = n := by omega
      have E : Hid (l.take k = l) := Lib.hid (List.take_of_length_le (by have := Hl.out; omega))
      rw [E.out] at Hown
      go_wp2
      go_ret
      exact ⟨_, rfl, by unfold OwnLis; rw [Hl.out]; exact Hown.out, Hb.out⟩
end Go.Proofs.Ytabcoidjbigdbaa
