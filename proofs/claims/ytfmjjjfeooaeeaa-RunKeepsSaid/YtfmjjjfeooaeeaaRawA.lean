/- The example that each law of layer 9 begins with holds. No condition. -/
import Derived.Test.YtfmjjjfeooaeeaaHpG
import Derived.Test.YtfmjjjfeooaeeaaPckB
namespace Go.Proofs.Ytfmjjjfeooaeeaa
open Go.RowKit
open Go.Lib (strCells compareBytes)

def chA : Chg := ⟨⟨#[97]⟩, ⟨#[]⟩, true⟩
def chA1 : Chg := ⟨⟨#[97]⟩, ⟨#[49]⟩, false⟩
def chC3 : Chg := ⟨⟨#[99]⟩, ⟨#[51]⟩, false⟩
theorem runs_ex : ∀ r ∈ [[chA], [chA1, chC3]], Run r := by
  intro r hr
  simp only [List.mem_cons, List.not_mem_nil, or_false] at hr
  rcases hr with rfl | rfl
  · refine ⟨fun c hc => ?_, List.pairwise_singleton _ _⟩
    simp at hc
    subst hc
    intro _
    rfl
  · refine ⟨fun c hc => ?_, ?_⟩
    · simp at hc
      rcases hc with rfl | rfl
      · intro h; exact absurd h (by decide)
      · intro h; exact absurd h (by decide)
    · unfold Srt
      simp only [List.pairwise_cons, List.mem_cons, List.not_mem_nil, or_false, forall_eq, false_implies, implies_true, List.Pairwise.nil, and_true]
      decide
theorem merge_ex : mergeL [[chA], [chA1, chC3]] = [chA, chC3] := by decide +kernel
theorem pack_ex : packL [chA, chC3] = [2, 1, 97, 1, 0, 1, 99, 0, 1, 51] := by
  have h1 : numForm 1 = [1] := numForm_lo (by omega)
  have h0 : numForm 0 = [0] := numForm_lo (by omega)
  have h2 : numForm 2 = [2] := numForm_lo (by omega)
  simp [packL, bodyL, chgForm, textForm, chA, chC3, goneN, h0, h1, h2]
theorem small_ex : ∀ r ∈ [[chA], [chA1, chC3]], SmallL r := by
  intro r hr
  simp only [List.mem_cons, List.not_mem_nil, or_false] at hr
  rcases hr with rfl | rfl
  · refine ⟨by simp, fun c hc => ?_⟩
    simp at hc
    subst hc
    exact ⟨by decide, by decide⟩
  · refine ⟨by simp, fun c hc => ?_⟩
    simp at hc
    rcases hc with rfl | rfl
    · exact ⟨by decide, by decide⟩
    · exact ⟨by decide, by decide⟩
theorem chg_lit2 (w : World) (c d : Chg) : Has (w.alloc (.cells #[.string c.k, .string c.v, .bool c.g, .string d.k, .string d.v, .bool d.g] 38)) (w.heap.size + 1) (some ⟨w.heap.size, 0, none⟩) (2 * 3) (chgCells [c, d]) :=
  Has.lit w #[.string c.k, .string c.v, .bool c.g, .string d.k, .string d.v, .bool d.g] 38

set_option maxRecDepth 100000 in
set_option maxHeartbeats 1600000 in
theorem awake_any (w : World) : Calls Try.prog 11 #[] w fun e w' => e = .returned (.bool true) ∧ Below w.heap.size w w' := by
  obtain ⟨W1, hW1⟩ : ∃ W1, w.alloc (.cells #[.string ⟨#[97]⟩, .string ⟨#[]⟩, .bool true] 38) = W1 := ⟨_, rfl⟩
  obtain ⟨W2, hW2⟩ : ∃ W2, W1.alloc (.cells #[.string ⟨#[97]⟩, .string ⟨#[49]⟩, .bool false, .string ⟨#[99]⟩, .string ⟨#[51]⟩, .bool false] 38) = W2 := ⟨_, rfl⟩
  obtain ⟨W3, hW3⟩ : ∃ W3, W2.alloc (.cells #[.slice (some ⟨w.heap.size, 0, none⟩) 1 1, .slice (some ⟨w.heap.size + 1, 0, none⟩) 2 2] 22) = W3 := ⟨_, rfl⟩
  have s1 : W1.heap.size = w.heap.size + 1 := by rw [← hW1]; simp
  have s2 : W2.heap.size = w.heap.size + 2 := by rw [← hW2]; simp [s1]
  have s3 : W3.heap.size = w.heap.size + 3 := by rw [← hW3]; simp [s2]
  have b2 : Below W1.heap.size W1 W2 := hW2 ▸ below_box _
  have b3 : Below W2.heap.size W2 W3 := hW3 ▸ below_box _
  have b1 : Below w.heap.size w W1 := hW1 ▸ below_box _
  have Hcr : Hid (HasCrs W3 W3.heap.size (some ⟨w.heap.size + 2, 0, none⟩) 2 [(.slice (some ⟨w.heap.size, 0, none⟩) 1 1, [chA]), (.slice (some ⟨w.heap.size + 1, 0, none⟩) 2 2, [chA1, chC3])]) := Lib.hid (by
    refine ⟨?_, fun r hr => ?_⟩
    · have h := Has.lit W2 #[.slice (some ⟨w.heap.size, 0, none⟩) 1 1, .slice (some ⟨w.heap.size + 1, 0, none⟩) 2 2] 22
      rw [hW3, s2] at h
      exact h.more (by omega)
    · simp only [List.mem_cons, List.not_mem_nil, or_false] at hr
      rcases hr with rfl | rfl
      · have h := chg_lit w chA
        have hW1' : w.alloc (.cells #[.string chA.k, .string chA.v, .bool chA.g] 38) = W1 := hW1
        rw [hW1'] at h
        exact ⟨_, 1, 1, rfl, Nat.le_refl _, by simp [maxLen], rfl, ((h.more (by omega)).belowOf (b2.trans (b3.mono (by omega))) (by omega : W1.heap.size ≤ W1.heap.size)).more (by omega)⟩
      · have h := chg_lit2 W1 chA1 chC3
        have hW2' : W1.alloc (.cells #[.string chA1.k, .string chA1.v, .bool chA1.g, .string chC3.k, .string chC3.v, .bool chC3.g] 38) = W2 := hW2
        rw [hW2', s1] at h
        exact ⟨_, 2, 2, rfl, Nat.le_refl _, by simp [maxLen], rfl, ((h.more (by omega)).belowOf b3 (by omega : W2.heap.size ≤ W2.heap.size)).more (by omega)⟩)
  have Hm := Lib.hid (merge_any (some ⟨w.heap.size + 2, 0, none⟩) 2 2 W3.heap.size _ W3 Hcr.out (Nat.le_refl _) (by omega) small_ex)
  have Hb3 : Hid (Below w.heap.size w W3) := Lib.hid ((b1.trans (b2.mono (by omega))).trans (b3.mono (by omega)))
  have hz3 : w.heap.size ≤ W3.heap.size := by omega
  subst hW3
  subst hW2
  subst hW1
  simp only [World.size_alloc] at Hm Hb3 hz3
  clear b1 b2 b3 s1 s2 s3 Hcr
  go_enter Try.func11, Try.ntmps11
  go_wp2_with fail
  refine Hm.out.mono ?_
  rintro e w4 ⟨hb4, hp4⟩
  have hcl : crLists [((.slice (some ⟨w.heap.size, 0, none⟩) 1 1 : Value), [chA]), (.slice (some ⟨w.heap.size + 1, 0, none⟩) 2 2, [chA1, chC3])] = [[chA], [chA1, chC3]] := rfl
  rw [hcl, merge_ex] at hp4
  obtain ⟨v4, rfl, ho4⟩ : ∃ v, e = .returned (.tuple #[v, .int .i64 0]) ∧ OwnChs w4 _ v [chA, chC3] := by
    rcases hp4 with ⟨-, v, e1, e2⟩ | ⟨h1, -⟩
    · exact ⟨v, e1, e2⟩
    · exact absurd runs_ex h1
  clear hp4 hcl Hm
  obtain ⟨A4, c4, rfl, -, -, hv4⟩ := ho4.slice
  have Hb4 := Lib.hid (Hb3.out.trans (hb4.mono hz3))
  have hz4 : w.heap.size ≤ w4.heap.size := Hb4.out.size
  have Hv4 := Lib.hid hv4
  have Hpk := Lib.hid (pack_any A4 2 c4 w4.heap.size [chA, chC3] w4 hv4 (Nat.le_refl _) (by omega) (by
    intro x hx
    simp at hx
    rcases hx with rfl | rfl
    · exact ⟨by decide, by decide⟩
    · exact ⟨by decide, by decide⟩))
  clear hb4 ho4 hv4
  go_wp2_with fail
  refine Hpk.out.mono ?_
  rintro e w5 ⟨hb5, hp5⟩
  rw [pack_ex] at hp5
  obtain ⟨v5, rfl, ho5⟩ : ∃ v, e = .returned (.tuple #[v, .int .i64 0]) ∧ w5.ownsRow w4.heap.size 5 1 v 10 (byteCells [2, 1, 97, 1, 0, 1, 99, 0, 1, 51]) := by
    rcases hp5 with ⟨-, v, e1, e2⟩ | ⟨h1, -⟩
    · exact ⟨v, e1, e2⟩
    · refine absurd ?_ h1
      rw [← merge_ex]
      exact run_merge _
  obtain ⟨A5, c5, rfl, -, -, hh5⟩ := own_slice ho5
  have hcv := string_run (w := w5) (l := [2, 1, 97, 1, 0, 1, 99, 0, 1, 51]) hh5 c5
  obtain ⟨a4, x4, rfl, ha4, hx4, -, -, q2⟩ := (Hv4.out.belowOf hb5 (Nat.le_refl _)).at_ (i := 0) (by decide)
  simp at hx4
  subst hx4
  have ea : a4.add (0 * 3) = a4 := by simp [Addr.add]
  rw [ea] at q2
  have Hb5 := Lib.hid (Hb4.out.trans (hb5.mono hz4))
  clear hp5 ho5 hh5 hb5 Hpk ea
  have q3 : w5.cell? ⟨a4.block, a4.off + 2, none⟩ = some (.bool true) := q2
  clear q2
  go_wp2
  go_ret
  exact ⟨rfl, Hb5.out⟩
end Go.Proofs.Ytfmjjjfeooaeeaa
