/- Package once: the numbers of a past's answers; a map's keys, sorted. Condition: the past is in memory. -/
import Derived.Test.YtdfhnjocpfjagaaOnB
import Derived.Test.YtdfhnjocpfjagaaShelf
namespace Go.Proofs.Ytdfhnjocpfjagaa
open Go.RowKit

theorem sorts_int (m : Nat) : AnyZI.SortsIn Try.prog Try.sorted101_ren Fence.wide m :=
  ⟨fun blk off cap ss W hH hblk hsz => callsIn_wide.2 (AnyM.slices_Sort_int Try.sort119 blk off cap ss W hH hblk hsz),
   fun p cap W => callsIn_wide.2 (AnyM.slices_Sort_int_none Try.sort119 p cap W)⟩
theorem mapsKeysR_any (mb : Option Nat) (W : World) : Calls Try.prog 116 #[.map mb] W fun e w' => e = .returned (.func (.func 126) #[] #[.pointer (some ⟨W.heap.size, 0, none⟩)]) ∧ w' = W.alloc (.cells #[.map mb] 126) :=
  callsIn_wide.1 (AnyZI.keys_in Try.keys116 Fence.wide 5 trivial rfl mb W)
set_option maxHeartbeats 1000000 in
theorem sortedKeysR_any (b nn : Nat) (D0 : DataW Value) (w : World) (hown : w.ownsMap Try.prog 3 Rn b nn D0) (hmax : Maps.size D0 ≤ maxLen) (hbytes : Maps.size D0 * 8 ≤ 140737488355328) :
    Calls Try.prog 101 #[.func (.func 126) #[] #[.pointer (some ⟨w.heap.size, 0, none⟩)]] (w.alloc (.cells #[.map (some b)] 126)) fun e w' => ∃ (v : Value) (ss : List Int), e = .returned v ∧ ss.Perm (intKeys D0) ∧
      w'.ownsRow (w.alloc (.cells #[.map (some b)] 126)).heap.size 3 1 v ss.length ((ss.mergeSort (fun x y => decide (x ≤ y))).map encZ) ∧ (v = .slice none 0 0 ↔ ss = []) ∧ Below (w.alloc (.cells #[.map (some b)] 126)).heap.size (w.alloc (.cells #[.map (some b)] 126)) w' := by
  have hbl := hown.lt
  have hseq : SeqGives Fence.wide 2 Try.prog 126 #[.pointer (some ⟨w.heap.size, 0, none⟩)] encZ (fun ss => ss.Perm (intKeys D0)) (Maps.size D0) (w.alloc (.cells #[.map (some b)] 126)) :=
    AnyZI.keys_gives (ρ := Try.keys116_ren) { Try.keys116 with } Fence.wide _ trivial rfl (by omega) w.heap.size b nn D0 _ (by simp) (by simp) (by
      obtain ⟨es, clock, hb, Ft, hs, hD⟩ := hown
      exact ⟨es, clock, (Below.heap_alloc _ _ b hbl).trans hb, Ft, hs, hD⟩)
  exact callsIn_wide.1 (AnyZI.sorted_in Try.sorted101 Fence.wide 5 trivial trivial trivial trivial rfl (by omega) (sorts_int _) (enters_of Try.func119 (by kernel_rfl) rfl) 126 #[.pointer (some ⟨w.heap.size, 0, none⟩)] trivial (enters_of Try.func126 (by kernel_rfl) rfl) _ _ hmax hbytes _ hseq)
theorem mapsKeysP_any (mb : Option Nat) (W : World) : Calls Try.prog 102 #[.map mb] W fun e w' => e = .returned (.func (.func 120) #[] #[.pointer (some ⟨W.heap.size, 0, none⟩)]) ∧ w' = W.alloc (.cells #[.map mb] 123) :=
  callsIn_wide.1 (AnyZI.keys_in Try.keys102 Fence.wide 5 trivial rfl mb W)
set_option maxHeartbeats 1000000 in
theorem sortedKeysP_any (b nn : Nat) (D0 : DataW Value) (w : World) (hown : w.ownsMap Try.prog 3 Rn b nn D0) (hmax : Maps.size D0 ≤ maxLen) (hbytes : Maps.size D0 * 8 ≤ 140737488355328) :
    Calls Try.prog 101 #[.func (.func 120) #[] #[.pointer (some ⟨w.heap.size, 0, none⟩)]] (w.alloc (.cells #[.map (some b)] 123)) fun e w' => ∃ (v : Value) (ss : List Int), e = .returned v ∧ ss.Perm (intKeys D0) ∧
      w'.ownsRow (w.alloc (.cells #[.map (some b)] 123)).heap.size 3 1 v ss.length ((ss.mergeSort (fun x y => decide (x ≤ y))).map encZ) ∧ (v = .slice none 0 0 ↔ ss = []) ∧ Below (w.alloc (.cells #[.map (some b)] 123)).heap.size (w.alloc (.cells #[.map (some b)] 123)) w' := by
  have hbl := hown.lt
  have hseq : SeqGives Fence.wide 2 Try.prog 120 #[.pointer (some ⟨w.heap.size, 0, none⟩)] encZ (fun ss => ss.Perm (intKeys D0)) (Maps.size D0) (w.alloc (.cells #[.map (some b)] 123)) :=
    AnyZI.keys_gives (ρ := Try.keys102_ren) { Try.keys102 with } Fence.wide _ trivial rfl (by omega) w.heap.size b nn D0 _ (by simp) (by simp) (by
      obtain ⟨es, clock, hb, Ft, hs, hD⟩ := hown
      exact ⟨es, clock, (Below.heap_alloc _ _ b hbl).trans hb, Ft, hs, hD⟩)
  exact callsIn_wide.1 (AnyZI.sorted_in Try.sorted101 Fence.wide 5 trivial trivial trivial trivial rfl (by omega) (sorts_int _) (enters_of Try.func119 (by kernel_rfl) rfl) 120 #[.pointer (some ⟨w.heap.size, 0, none⟩)] trivial (enters_of Try.func120 (by kernel_rfl) rfl) _ _ hmax hbytes _ hseq)
set_option maxHeartbeats 1000000 in
theorem sortedKeysRnil_any (w : World) :
    Calls Try.prog 101 #[.func (.func 126) #[] #[.pointer (some ⟨w.heap.size, 0, none⟩)]] (w.alloc (.cells #[.map none] 126)) fun e w' => e = .returned (.slice none 0 0) ∧ Below (w.alloc (.cells #[.map none] 126)).heap.size (w.alloc (.cells #[.map none] 126)) w' := by
  have hseq : SeqGives Fence.wide 2 Try.prog 126 #[.pointer (some ⟨w.heap.size, 0, none⟩)] encZ (fun ss : List Int => ss = []) 0 (w.alloc (.cells #[.map none] 126)) :=
    AnyZI.keys_gives_nil (ρ := Try.keys116_ren) { Try.keys116 with } Fence.wide _ trivial rfl w.heap.size _ (by simp) (by simp)
  refine (callsIn_wide.1 (AnyZI.sorted_in Try.sorted101 Fence.wide 5 trivial trivial trivial trivial rfl (by omega) (sorts_int _) (enters_of Try.func119 (by kernel_rfl) rfl) 126 #[.pointer (some ⟨w.heap.size, 0, none⟩)] trivial (enters_of Try.func126 (by kernel_rfl) rfl) _ _ (Nat.zero_le _) (by omega) _ hseq)).mono ?_
  rintro e w' ⟨v, ss, rfl, rfl, -, hnil, hb⟩
  obtain rfl : v = .slice none 0 0 := hnil.2 rfl
  exact ⟨rfl, hb⟩

set_option maxRecDepth 100000 in
theorem numbers_any {F : Nat → Prop} {w : World} {pb ab : Nat} {fl : Int} {E : List (Int × AV)} (hb : Box w pb 128 #[.int .i64 fl, .map (some ab)]) (h : AnsAt w F ab E) (hl : E.length ≤ 100000) :
    Calls Try.prog 98 #[.pointer (some ⟨pb, 0, none⟩)] w fun e w' => ∃ v, e = .returned v ∧ w'.ownsRow w.heap.size 3 1 v E.length ((numsG E).map encZ) ∧ Below w.heap.size w w' := by
  have q1 : w.cell? ⟨pb, 1, none⟩ = some (.map (some ab)) := hb.cell 1
  have Hs := Lib.hid (sortedKeysR_any ab E.length _ w h.own (by rw [gmap_size]; simp only [maxLen]; omega) (by rw [gmap_size]; omega))
  have Hr := Lib.hid (riseG_nums h.rise)
  clear h hb
  go_enter Try.func98, Try.ntmps98
  go_wp2_with fail
  refine (mapsKeysR_any (some ab) _).mono ?_
  rintro e w1 ⟨rfl, rfl⟩
  go_wp2_with fail
  refine Hs.out.mono ?_
  rintro e w2 ⟨v, ss, rfl, hp, hrow, -, hb⟩
  have hb2 := Lib.hid ((below_box (w := w) (.cells #[.map (some ab)] 126)).trans (hb.mono (by simp)))
  rw [gmap_keys] at hp
  have hsort := sort_ints hp Hr.out
  have hlen : ss.length = E.length := by rw [hp.length_eq]; simp [numsG]
  rw [hsort, hlen] at hrow
  have Hrow := Lib.hid (own_base hrow (by simp : w.heap.size ≤ _))
  clear hb hsort hlen hrow hp
  go_wp2
  go_ret
  exact ⟨_, rfl, Hrow.out, hb2.out⟩
set_option maxRecDepth 100000 in
theorem numbersNil_any {w : World} {pb : Nat} {fl : Int} (hb : Box w pb 128 #[.int .i64 fl, .map none]) :
    Calls Try.prog 98 #[.pointer (some ⟨pb, 0, none⟩)] w fun e w' => e = .returned (.slice none 0 0) ∧ Below w.heap.size w w' := by
  have q1 : w.cell? ⟨pb, 1, none⟩ = some (.map none) := hb.cell 1
  have Hs := Lib.hid (sortedKeysRnil_any w)
  clear hb
  go_enter Try.func98, Try.ntmps98
  go_wp2_with fail
  refine (mapsKeysR_any none _).mono ?_
  rintro e w1 ⟨rfl, rfl⟩
  go_wp2_with fail
  refine Hs.out.mono ?_
  rintro e w2 ⟨rfl, hb⟩
  have hb2 := Lib.hid ((below_box (w := w) (.cells #[.map none] 126)).trans (hb.mono (by simp)))
  clear hb
  go_wp2
  go_ret
  exact ⟨rfl, hb2.out⟩
end Go.Proofs.Ytdfhnjocpfjagaa
