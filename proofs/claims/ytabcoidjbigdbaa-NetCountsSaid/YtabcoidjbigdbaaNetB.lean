/- Package net: New, Len, Under. Condition: the net is in memory. -/
import Derived.Test.YtabcoidjbigdbaaNetA
import Derived.Test.YtabcoidjbigdbaaShelf
namespace Go.Proofs.Ytabcoidjbigdbaa
open Go.RowKit

theorem netNew_any (w : World) : Calls Try.prog 21 #[] w fun e w' => ∃ sb mb, e = .returned (.pointer (some ⟨sb, 0, none⟩)) ∧ NetAt w' w.heap.size sb mb [] 0 ∧ Below w.heap.size w w' := by
  obtain ⟨w1, hw1⟩ : ∃ w1, (w.alloc (.map #[] 0)).alloc (.cells #[.map (some w.heap.size), .int .i64 0] 102) = w1 := ⟨_, rfl⟩
  have hbox : Box w1 (w.heap.size + 1) 102 #[.map (some w.heap.size), .int .i64 ((0 : Nat) : Int)] := by
    have := Box.made (w.alloc (.map #[] 0)) 102 #[.map (some w.heap.size), .int .i64 0]
    rw [World.size_alloc, hw1] at this
    exact this
  have hown : w1.ownsMap Try.prog 3 Rn w.heap.size 0 (nmap []) := hw1 ▸ (World.ownsMap_made w Try.prog 3 Rn).alloc _
  have H : Hid (NetAt w1 w.heap.size (w.heap.size + 1) w.heap.size [] 0) := Lib.hid ⟨by omega, Nat.le_refl _, hbox, hown, List.Pairwise.nil, by simp, by simp, by simp⟩
  have HB : Hid (Below w.heap.size w w1) := Lib.hid (hw1 ▸ ((Below.refl _ w).alloc (Nat.le_refl _) _).alloc (by simp) _)
  clear hbox hown
  have hmk := run_makeMap (P := Try.prog) 100 w
  go_enter Try.func21, Try.ntmps21
  go_wp2
  go_ret
  exact ⟨_, _, rfl, H.out, HB.out⟩
section
variable {w : World} {B sb mb d : Nat} {E : List NEn}
theorem netLen_any (h : NetAt w B sb mb E d) : Calls Try.prog 34 #[.pointer (some ⟨sb, 0, none⟩)] w fun e w' => e = .returned (.int .i64 E.length) ∧ Below w.heap.size w w' := by
  obtain ⟨q0, -, -, -⟩ := h.cells
  have hl := h.own.len (ty := 3) Try.underlying100
  rw [nmap_size] at hl
  clear h
  go_enter Try.func34, Try.ntmps34
  go_wp2
  go_ret
  exact ⟨rfl, Below.refl _ _⟩
theorem sorts_int (m : Nat) : AnyZI.SortsIn Try.prog Try.sorted64_ren Fence.wide m :=
  ⟨fun blk off cap ss W hH hblk hsz => callsIn_wide.2 (AnyM.slices_Sort_int Try.sort85 blk off cap ss W hH hblk hsz),
   fun p cap W => callsIn_wide.2 (AnyM.slices_Sort_int_none Try.sort85 p cap W)⟩
theorem mapsKeysI_any (mb : Option Nat) (W : World) : Calls Try.prog 65 #[.map mb] W fun e w' => e = .returned (.func (.func 86) #[] #[.pointer (some ⟨W.heap.size, 0, none⟩)]) ∧ w' = W.alloc (.cells #[.map mb] 100) :=
  callsIn_wide.1 (AnyZI.keys_in Try.keys65 Fence.wide 5 trivial rfl mb W)
set_option maxHeartbeats 1000000 in
theorem sortedKeysI_any (b nn : Nat) (D0 : DataW Value) (w : World) (hown : w.ownsMap Try.prog 3 Rn b nn D0) (hmax : Maps.size D0 ≤ maxLen) (hbytes : Maps.size D0 * 8 ≤ 140737488355328) :
    Calls Try.prog 64 #[.func (.func 86) #[] #[.pointer (some ⟨w.heap.size, 0, none⟩)]] (w.alloc (.cells #[.map (some b)] 100)) fun e w' => ∃ (v : Value) (ss : List Int), e = .returned v ∧ ss.Perm (intKeys D0) ∧
      w'.ownsRow (w.alloc (.cells #[.map (some b)] 100)).heap.size 3 1 v ss.length ((ss.mergeSort (fun x y => decide (x ≤ y))).map encZ) ∧ (v = .slice none 0 0 ↔ ss = []) ∧ Below (w.alloc (.cells #[.map (some b)] 100)).heap.size (w.alloc (.cells #[.map (some b)] 100)) w' := by
  have hbl := hown.lt
  have hseq : SeqGives Fence.wide 2 Try.prog 86 #[.pointer (some ⟨w.heap.size, 0, none⟩)] encZ (fun ss => ss.Perm (intKeys D0)) (Maps.size D0) (w.alloc (.cells #[.map (some b)] 100)) :=
    AnyZI.keys_gives (ρ := Try.keys65_ren) { Try.keys65 with } Fence.wide _ trivial rfl (by omega) w.heap.size b nn D0 _ (by simp) (by simp) (by
      obtain ⟨es, clock, hb, Ft, hs, hD⟩ := hown
      exact ⟨es, clock, (Below.heap_alloc _ _ b hbl).trans hb, Ft, hs, hD⟩)
  exact callsIn_wide.1 (AnyZI.sorted_in Try.sorted64 Fence.wide 5 trivial trivial trivial trivial rfl (by omega) (sorts_int _) (enters_of Try.func85 (by kernel_rfl) rfl) 86 #[.pointer (some ⟨w.heap.size, 0, none⟩)] trivial (enters_of Try.func86 (by kernel_rfl) rfl) _ _ hmax hbytes _ hseq)
theorem nums_pair {E : List NEn} (h : E.Pairwise fun p q => p.n < q.n) : (E.map (·.n)).Pairwise (· < ·) := by
  rw [List.pairwise_map]
  exact h
set_option maxRecDepth 100000 in
theorem netUnder_any (h : NetAt w B sb mb E d) (hE : E.length ≤ 100000) : Calls Try.prog 32 #[.pointer (some ⟨sb, 0, none⟩)] w fun e w' => ∃ v, e = .returned v ∧ w'.ownsRow w.heap.size 3 1 v E.length ((E.map (·.n)).map encZ) ∧ Below w.heap.size w w' := by
  obtain ⟨q0, -, -, -⟩ := h.cells
  have Hs := Lib.hid (sortedKeysI_any mb E.length _ w h.own (by rw [nmap_size]; simp only [maxLen]; omega) (by rw [nmap_size]; omega))
  have Hr := Lib.hid (nums_pair h.rise)
  clear h
  go_enter Try.func32, Try.ntmps32
  go_wp2_with fail
  refine (mapsKeysI_any (some mb) _).mono ?_
  rintro e w1 ⟨rfl, rfl⟩
  go_wp2_with fail
  refine Hs.out.mono ?_
  rintro e w2 ⟨v, ss, rfl, hp, hrow, -, hb⟩
  have hb2 := Lib.hid ((below_box (w := w) (.cells #[.map (some mb)] 100)).trans (hb.mono (by simp)))
  rw [nmap_keys] at hp
  have hsort := sort_ints hp Hr.out
  have hlen : ss.length = E.length := by rw [hp.length_eq, List.length_map]
  rw [hsort, hlen] at hrow
  have Hrow := Lib.hid (own_base hrow (by simp : w.heap.size ≤ _))
  clear hb hsort hlen hrow hp
  go_wp2
  go_ret
  exact ⟨_, rfl, Hrow.out, hb2.out⟩
end
end Go.Proofs.Ytabcoidjbigdbaa
