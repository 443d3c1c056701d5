/- Letters that have but a number; nets whose letters are numbered through. No condition. -/
import Derived.Test.YtabcoidjbigdbaaNetG
namespace Go.Proofs.Ytabcoidjbigdbaa
open Go.RowKit

def lA (i : Int) : Let := ⟨0, 0, 0, i, 0, 0, 0, ⟨#[]⟩, ⟨#[]⟩, [], [], 0, false, ⟨#[]⟩⟩
theorem lA_err (i : Int) (h : 0 ≤ i ∧ i ≤ 1000000) : (lA i).err = 0 := by
  have hi : okNum i := ⟨h.1, by omega⟩
  refine err_zero.2 ⟨⟨by show (0 : Int) ≤ 255; omega, ?_, by intro x hx; simp [lA] at hx⟩, by simp [lA], by simp [lA], ?_⟩
  · intro n hn
    simp [Let.nums, lA] at hn
    rcases hn with rfl | rfl | rfl
    · exact ⟨by omega, by omega⟩
    · exact hi
    · exact ⟨by omega, by omega⟩
  · have h1 := form_small i hi
    have h0 := form_small 0 ⟨by omega, by omega⟩
    have ht : (tokForm (.t ⟨#[]⟩)).length = 1 := by
      have : numForm 0 = [0] := numForm_lo (by omega)
      show (numForm 0 ++ []).length = 1
      rw [this]; rfl
    show (formsOf [.n 0, .n 0, .n 0, .n i, .n 0, .n 0, .n 0, .n 0, .n 0, .t ⟨#[]⟩, .t ⟨#[]⟩, .t ⟨#[]⟩, .n 0, .n 0]).length ≤ 65536
    simp only [formsOf, List.map_cons, List.map_nil, List.flatten_cons, List.flatten_nil, List.length_append, List.length_nil]
    omega
section
variable {w : World} {B sb mb d : Nat} {E : List NEn}
/-- Send of a letter that has but a number -/
theorem sendA_any (h : NetAt w B sb mb E d) (hB : B ≤ w.heap.size) (hd : d ≤ 100000000000) (i : Int) :
    Calls Try.prog 22 #[.pointer (some ⟨sb, 0, none⟩), .agg #[.int .i64 0, .int .i64 0, .int .i64 0, .int .i64 i, .int .i64 0, .int .i64 0, .int .i64 0, .string ⟨#[]⟩, .string ⟨#[]⟩, .slice none 0 0, .slice none 0 0, .int .i64 0, .bool false, .string ⟨#[]⟩]] w (SendPost B sb mb E d (lA i) w) :=
  netSend_any h hB hd (lA i) none 0 0 none 0 0 (fun wx _ => ⟨HasLps.nil _ _ _, HasLis.nil _ _ _⟩) ⟨by simp [maxLen], by simp [maxLen]⟩ (by intro s hs; simp [Let.txts, lA] at hs; subst hs; exact Nat.zero_le _) (by intro p hp; simp [lA] at hp) (by intro p hp; simp [lA] at hp)
theorem SendPost.many {L : Let} {w' : World} {e : Ending} (h : SendPost B sb mb E d L w e w') (hL : L.err = 0) (hE : 4096 ≤ E.length) : e = .returned (.tuple #[.int .i64 0, .int .i64 17]) ∧ NetAt w' B sb mb E d ∧ Below w.heap.size w w' := by
  rcases h with ⟨h1, -⟩ | ⟨-, h⟩
  · exact absurd hL h1
  · rcases h with ⟨h1, h2, h3, h4⟩ | ⟨h1, -⟩
    · exact ⟨h2, h3, h4⟩
    · omega
end
/-- the letters are numbered through, and each has its number -/
structure Numd (E : List NEn) (d : Nat) : Prop where
  len : E.length = d
  is : ∀ k, (getN k E).isSome = decide (1 ≤ k ∧ k ≤ (d : Int))
  a : ∀ k e, getN k E = some e → e.L.a = k
theorem getN_app (k : Int) (E : List NEn) (en : NEn) : getN k (E ++ [en]) = (getN k E).or (if en.n = k then some en else none) := by
  unfold getN
  rw [List.find?_append]
  congr 1
  by_cases h : en.n = k <;> simp [h]
theorem Numd.nil : Numd [] 0 := ⟨rfl, fun k => by simp [getN]; omega, fun k e h => by simp [getN] at h⟩
theorem Numd.add {E : List NEn} {d : Nat} {en : NEn} (h : Numd E d) (hn : en.n = ((d + 1 : Nat) : Int)) (hL : en.L = lA ((d : Int) + 1)) : Numd (E ++ [en]) (d + 1) := by
  refine ⟨by rw [List.length_append, h.len]; rfl, fun k => ?_, fun k e he => ?_⟩
  · rw [getN_app, Option.isSome_or, h.is k]
    by_cases e : en.n = k
    · rw [if_pos e]
      have : 1 ≤ k ∧ k ≤ ((d + 1 : Nat) : Int) := by omega
      simp [this]
      omega
    · rw [if_neg e]
      simp only [Option.isSome_none, Bool.or_false]
      exact decide_eq_decide.2 ⟨fun h => by omega, fun h => by omega⟩
  · rw [getN_app] at he
    cases hg : getN k E with
    | some e1 =>
      rw [hg] at he
      simp at he
      subst he
      exact h.a k e1 hg
    | none =>
      rw [hg] at he
      by_cases e1 : en.n = k
      · rw [if_pos e1] at he
        simp at he
        subst he
        rw [hL]
        show (d : Int) + 1 = k
        omega
      · rw [if_neg e1] at he
        simp at he
theorem delN_lt {k : Int} {E : List NEn} {e : NEn} (h : getN k E = some e) : (delN k E).length < E.length := by
  unfold delN
  refine List.length_filter_lt_length_iff_exists.2 ⟨e, (getN_some h).1, ?_⟩
  simp [(getN_some h).2]
end Go.Proofs.Ytabcoidjbigdbaa
