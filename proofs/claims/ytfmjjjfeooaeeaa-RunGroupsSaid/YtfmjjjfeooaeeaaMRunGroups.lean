/- RunGroups: however runs are put together they come to the same; what is cut and merged again is what it was. No condition. -/
import Derived.Test.YtfmjjjfeooaeeaaSpecMerge
import Derived.Test.YtfmjjjfeooaeeaaRawB
import Derived.Test.YtfmjjjfeooaeeaaMSrtD
import Derived.Test.YtfmjjjfeooaeeaaFndA
import Derived.Test.YtfmjjjfeooaeeaaOpenChs
namespace Go.Proofs.Ytfmjjjfeooaeeaa

theorem mlook_nil (k : List UInt8) : mlook k [] = none := rfl
theorem mlook_some {k : List UInt8} {c : Chg} : ∀ {rs : List (List Chg)}, mlook k rs = some c → ∃ r ∈ rs, look k r = some c
  | [], h => by simp [mlook] at h
  | r :: rs, h => by
    rw [mlook_cons] at h
    cases e : look k r with
    | some d =>
      rw [e] at h
      exact ⟨r, by simp, e.trans h⟩
    | none =>
      rw [e] at h
      obtain ⟨x, hx, e2⟩ := mlook_some (rs := rs) h
      exact ⟨x, List.mem_cons_of_mem _ hx, e2⟩
theorem merge_mem {rs : List (List Chg)} (h : ∀ r ∈ rs, Run r) {c : Chg} (hc : c ∈ mergeL rs) : ∃ r ∈ rs, c ∈ r := by
  have h1 := look_of (srt_merge rs) hc
  rw [look_merge _ h] at h1
  obtain ⟨r, hr, e⟩ := mlook_some h1
  exact ⟨r, hr, look_mem e⟩
theorem make_mem {l : List Chg} {c : Chg} (hc : c ∈ makeL l) : ∃ d ∈ l, c = tidy d := by
  have h1 := look_of (srt_make l) hc
  rw [look_make] at h1
  cases e : lastOf c.kb l with
  | none => rw [e] at h1; cases h1
  | some d =>
    rw [e] at h1
    injection h1 with h1
    exact ⟨d, (List.mem_filter.1 (List.mem_of_getLast? e)).1, h1.symm⟩
theorem runs2 {a b : List Chg} (ha : Run a) (hb : Run b) : ∀ r ∈ [a, b], Run r := fun r hr => by
  rcases List.mem_cons.1 hr with rfl | hr
  · exact ha
  · simp at hr; subst hr; exact hb
theorem runs3 {a b c : List Chg} (ha : Run a) (hb : Run b) (hc : Run c) : ∀ r ∈ [a, b, c], Run r := fun r hr => by
  rcases List.mem_cons.1 hr with rfl | hr
  · exact ha
  · exact runs2 hb hc r hr
theorem merge_left {a b c : List Chg} (ha : Run a) (hb : Run b) (hc : Run c) : mergeL [mergeL [a, b], c] = mergeL [a, b, c] := by
  refine srt_ext (srt_merge _) (srt_merge _) fun k => ?_
  rw [look_merge k (runs2 (run_merge _) hc), look_merge k (runs3 ha hb hc), mlook_cons, look_merge k (runs2 ha hb)]
  simp only [mlook_cons, mlook_nil, Option.or_none, Option.or_assoc]
theorem merge_right {a b c : List Chg} (ha : Run a) (hb : Run b) (hc : Run c) : mergeL [a, mergeL [b, c]] = mergeL [a, b, c] := by
  refine srt_ext (srt_merge _) (srt_merge _) fun k => ?_
  rw [look_merge k (runs2 ha (run_merge _)), look_merge k (runs3 ha hb hc), mlook_cons, mlook_cons, look_merge k (runs2 hb hc)]
  simp only [mlook_cons, mlook_nil, Option.or_none]
/-- does a range have a key? -/
def inK (lo hi k : List UInt8) : Bool := !decide (k < lo) && (hi.isEmpty || decide (k < hi))
theorem inR_key (lo hi : List UInt8) (c : Chg) : inR lo hi c = inK lo hi c.kb := rfl
theorem look_filter (p : Chg → Bool) (q : List UInt8 → Bool) (hp : ∀ c, p c = q c.kb) (k : List UInt8) : ∀ l : List Chg, look k (l.filter p) = if q k then look k l else none
  | [] => by simp [look_nil]
  | c :: l => by
    have ih := look_filter p q hp k l
    rw [List.filter_cons]
    by_cases h1 : p c = true
    · rw [if_pos h1, look_cons, look_cons, ih]
      by_cases h2 : c.kb = k
      · have : q k = true := by rw [← h2, ← hp]; exact h1
        simp [h2, this]
      · simp [h2]
    · rw [if_neg h1, look_cons, ih]
      by_cases h2 : c.kb = k
      · have : q k = false := by rw [← h2, ← hp]; simpa using h1
        simp [this]
      · simp [h2]
theorem look_slice (lo hi k : List UInt8) (l : List Chg) : look k (sliceL lo hi l) = if inK lo hi k then look k l else none := look_filter _ _ (inR_key lo hi) k l
theorem not_lt_nil (k : List UInt8) : ¬ k < [] := by intro h; cases h
theorem cut_merge {l : List Chg} (h : Run l) (hi : List UInt8) (hne : hi ≠ []) : mergeL [sliceL hi [] l, sliceL [] hi l] = l := by
  refine srt_ext (srt_merge _) h.2 fun k => ?_
  rw [look_merge k (runs2 (run_slice h) (run_slice h)), mlook_cons, mlook_cons, mlook_nil, look_slice, look_slice, Option.or_none]
  have e : hi.isEmpty = false := by cases hi <;> simp_all
  by_cases hk : k < hi
  · simp [inK, hk, e]
  · simp [inK, hk, e]
theorem cut_len (l : List Chg) (hi : List UInt8) (hne : hi ≠ []) : (sliceL [] hi l).length + (sliceL hi [] l).length = l.length := by
  have e : hi.isEmpty = false := by cases hi <;> simp_all
  induction l with
  | nil => rfl
  | cons c l ih =>
    unfold sliceL at ih ⊢
    rw [List.filter_cons, List.filter_cons]
    by_cases hk : c.kb < hi
    · have h1 : inR [] hi c = true := by simp [inR, hk]
      have h2 : inR hi [] c = false := by simp [inR, hk]
      rw [if_pos h1, if_neg (by simp [h2])]
      simp only [List.length_cons]
      omega
    · have h1 : inR [] hi c = false := by simp [inR, hk, e]
      have h2 : inR hi [] c = true := by simp [inR, hk]
      rw [if_neg (by simp [h1]), if_pos h2]
      simp only [List.length_cons]
      omega
end Go.Proofs.Ytfmjjjfeooaeeaa

namespace Go.Proofs.Ytfmjjjfeooaeeaa
open Go.RowKit
open Go.Lib (strCells compareBytes)

/-- a slice of changes that lies in memory, wherever -/
def Rw (w : World) (A : Option Addr) (n c : Nat) (l : List Chg) : Prop := n ≤ c ∧ c ≤ maxLen ∧ HasChs w w.heap.size A n l
theorem Rw.next {w w' : World} {A : Option Addr} {n c : Nat} {l : List Chg} (h : Rw w A n c l) (hb : Below w.heap.size w w') : Rw w' A n c l := ⟨h.1, h.2.1, (h.2.2.belowOf hb (Nat.le_refl _)).more hb.size⟩
theorem OwnChs.rw {w : World} {B N : Nat} {v : Value} {l : List Chg} (h : OwnChs w B v l) (hN : l.length = N) : ∃ A c, v = .slice A N c ∧ Rw w A N c l := by
  obtain ⟨A, c, rfl, h1, h2, h3⟩ := h.slice
  rw [hN] at h1 h3 ⊢
  exact ⟨A, c, rfl, h1, h2, h3⟩
theorem Rw.cr {w : World} {A : Option Addr} {n c : Nat} {l : List Chg} (h : Rw w A n c l) (o : Obj) : ∃ A' m c', (Value.slice A n c, l).1 = .slice A' m c' ∧ m ≤ c' ∧ c' ≤ maxLen ∧ HasChs (w.alloc o) (w.heap.size + 1) A' m (Value.slice A n c, l).2 :=
  ⟨A, n, c, rfl, h.1, h.2.1, (h.2.2.alloc (Nat.le_refl _) o).more (by omega)⟩
theorem crs1 {w : World} {A1 : Option Addr} {n1 c1 : Nat} {l1 : List Chg} (h1 : Rw w A1 n1 c1 l1) :
    HasCrs (w.alloc (.cells #[.slice A1 n1 c1] 22)) (w.heap.size + 1) (some ⟨w.heap.size, 0, none⟩) 1 [(.slice A1 n1 c1, l1)] := by
  refine ⟨Has.lit w #[.slice A1 n1 c1] 22, fun r hr => ?_⟩
  simp only [List.mem_cons, List.not_mem_nil, or_false] at hr
  subst hr
  exact h1.cr _
theorem crs2 {w : World} {A1 A2 : Option Addr} {n1 c1 n2 c2 : Nat} {l1 l2 : List Chg} (h1 : Rw w A1 n1 c1 l1) (h2 : Rw w A2 n2 c2 l2) :
    HasCrs (w.alloc (.cells #[.slice A1 n1 c1, .slice A2 n2 c2] 22)) (w.heap.size + 1) (some ⟨w.heap.size, 0, none⟩) 2 [(.slice A1 n1 c1, l1), (.slice A2 n2 c2, l2)] := by
  refine ⟨Has.lit w #[.slice A1 n1 c1, .slice A2 n2 c2] 22, fun r hr => ?_⟩
  simp only [List.mem_cons, List.not_mem_nil, or_false] at hr
  rcases hr with rfl | rfl
  · exact h1.cr _
  · exact h2.cr _
theorem crs3 {w : World} {A1 A2 A3 : Option Addr} {n1 c1 n2 c2 n3 c3 : Nat} {l1 l2 l3 : List Chg} (h1 : Rw w A1 n1 c1 l1) (h2 : Rw w A2 n2 c2 l2) (h3 : Rw w A3 n3 c3 l3) :
    HasCrs (w.alloc (.cells #[.slice A1 n1 c1, .slice A2 n2 c2, .slice A3 n3 c3] 22)) (w.heap.size + 1) (some ⟨w.heap.size, 0, none⟩) 3 [(.slice A1 n1 c1, l1), (.slice A2 n2 c2, l2), (.slice A3 n3 c3, l3)] := by
  refine ⟨Has.lit w #[.slice A1 n1 c1, .slice A2 n2 c2, .slice A3 n3 c3] 22, fun r hr => ?_⟩
  simp only [List.mem_cons, List.not_mem_nil, or_false] at hr
  rcases hr with rfl | rfl | rfl
  · exact h1.cr _
  · exact h2.cr _
  · exact h3.cr _
def Sm (l : List Chg) : Prop := l.length ≤ 1000 ∧ ∀ x ∈ l, x.k.size ≤ 4000 ∧ x.v.size ≤ 4000
theorem sm_merge {rs : List (List Chg)} (hr : ∀ r ∈ rs, Run r) (h : ∀ r ∈ rs, Sm r) (hl : (mergeL rs).length ≤ 1000) : Sm (mergeL rs) :=
  ⟨hl, fun x hx => by
    obtain ⟨r, h1, h2⟩ := merge_mem hr hx
    exact (h r h1).2 x h2⟩
theorem len_mergeS : ∀ (rs : List (List Chg)), (mergeL rs).length ≤ sumL rs
  | [] => by simp [mergeL]
  | r :: rs => by
    have h1 := len_mergeS rs
    have h2 := len_over r (mergeL rs)
    simp only [mergeL, List.foldr_cons, sumL, List.map_cons, List.sum_cons] at h1 h2 ⊢
    omega
def MrgPost (M : List Chg) (N : Nat) (w : World) (e : Ending) (w' : World) : Prop := ∃ A c, e = .returned (.tuple #[.slice A N c, .int .i64 0]) ∧ Rw w' A N c M ∧ Below w.heap.size w w'
theorem mrg_post {w w' : World} {o : Obj} {e : Ending} {rs : List (List Chg)} {M : List Chg} {N : Nat} (hr : ∀ r ∈ rs, Run r) (hM : mergeL rs = M) (hN : M.length = N) (h : MergePost (w.alloc o).heap.size rs (w.alloc o) e w') : MrgPost M N w e w' := by
  obtain ⟨hb, ⟨-, v, rfl, ho⟩ | ⟨h1, -⟩⟩ := h
  · rw [hM] at ho
    obtain ⟨A, c, rfl, hw⟩ := ho.rw hN
    exact ⟨A, c, rfl, hw, (below_box o).trans (hb.mono (by simp))⟩
  · exact absurd hr h1
theorem mrg2_any {w : World} {A1 A2 : Option Addr} {n1 c1 n2 c2 : Nat} {l1 l2 : List Chg} (h1 : Rw w A1 n1 c1 l1) (h2 : Rw w A2 n2 c2 l2) (r1 : Run l1) (r2 : Run l2) (s1 : Sm l1) (s2 : Sm l2) (M : List Chg) (hM : mergeL [l1, l2] = M) (N : Nat) (hN : M.length = N) :
    Calls Try.prog 19 #[.slice (some ⟨w.heap.size, 0, none⟩) 2 2] (w.alloc (.cells #[.slice A1 n1 c1, .slice A2 n2 c2] 22)) (MrgPost M N w) := by
  refine (merge_gen _ 2 2 _ _ _ (crs2 h1 h2) (by simp) (by omega) 1000000 (Nat.le_refl _) ?_ ?_).mono fun e w' h => mrg_post (runs2 r1 r2) hM hN h
  · have := s1.1; have := s2.1; simp [crLists, sumL]; omega
  · intro r hr x hx
    simp [crLists] at hr
    rcases hr with rfl | rfl
    · have := s1.2 x hx; omega
    · have := s2.2 x hx; omega
theorem mrg3_any {w : World} {A1 A2 A3 : Option Addr} {n1 c1 n2 c2 n3 c3 : Nat} {l1 l2 l3 : List Chg} (h1 : Rw w A1 n1 c1 l1) (h2 : Rw w A2 n2 c2 l2) (h3 : Rw w A3 n3 c3 l3) (r1 : Run l1) (r2 : Run l2) (r3 : Run l3) (s1 : Sm l1) (s2 : Sm l2) (s3 : Sm l3) (M : List Chg) (hM : mergeL [l1, l2, l3] = M) (N : Nat) (hN : M.length = N) :
    Calls Try.prog 19 #[.slice (some ⟨w.heap.size, 0, none⟩) 3 3] (w.alloc (.cells #[.slice A1 n1 c1, .slice A2 n2 c2, .slice A3 n3 c3] 22)) (MrgPost M N w) := by
  refine (merge_gen _ 3 3 _ _ _ (crs3 h1 h2 h3) (by simp) (by omega) 1000000 (Nat.le_refl _) ?_ ?_).mono fun e w' h => mrg_post (runs3 r1 r2 r3) hM hN h
  · have := s1.1; have := s2.1; have := s3.1; simp [crLists, sumL]; omega
  · intro r hr x hx
    simp [crLists] at hr
    rcases hr with rfl | rfl | rfl
    · have := s1.2 x hx; omega
    · have := s2.2 x hx; omega
    · have := s3.2 x hx; omega
theorem mrg1_any {w : World} {A1 : Option Addr} {n1 c1 : Nat} {l1 : List Chg} (h1 : Rw w A1 n1 c1 l1) (r1 : Run l1) (s1 : Sm l1) (N : Nat) (hN : l1.length = N) :
    Calls Try.prog 19 #[.slice (some ⟨w.heap.size, 0, none⟩) 1 1] (w.alloc (.cells #[.slice A1 n1 c1] 22)) fun e w' => ∃ v, e = .returned (.tuple #[v, .int .i64 0]) ∧ OwnChs w' (w.heap.size + 1) v l1 ∧ Below w.heap.size w w' := by
  have hr : ∀ r ∈ [l1], Run r := fun r hr => by simp at hr; subst hr; exact r1
  refine (merge_gen _ 1 1 _ _ _ (crs1 h1) (by simp) (by omega) 1000000 (Nat.le_refl _) ?_ ?_).mono ?_
  · have := s1.1; simp [crLists, sumL]; omega
  · intro r hr x hx
    simp [crLists] at hr
    subst hr
    have := s1.2 x hx; omega
  · rintro e w' ⟨hb, ⟨-, v, rfl, ho⟩ | ⟨h1, -⟩⟩
    · have e1 : mergeL (crLists [(Value.slice A1 n1 c1, l1)]) = l1 := merge_one r1
      rw [e1] at ho
      exact ⟨v, rfl, by simpa using ho, (below_box _).trans (hb.mono (by simp))⟩
    · exact absurd hr h1
end Go.Proofs.Ytfmjjjfeooaeeaa

namespace Go.Proofs.Ytfmjjjfeooaeeaa
open Go.RowKit
open Go.Lib (strCells compareBytes)

theorem sm_small {l : List Chg} (h : SmallL l) : Sm l := ⟨by have := h.1; omega, h.2⟩
set_option maxRecDepth 100000 in
set_option maxHeartbeats 12800000 in
theorem groups_walk (A0 A1 A2 : Option Addr) (n0 n1 n2 c0 c1 c2 : Nat) (l0 l1 l2 : List Chg) (s : ByteArray) (w : World) (h0 : Rw w A0 n0 c0 l0) (h1 : Rw w A1 n1 c1 l1) (h2 : Rw w A2 n2 c2 l2)
    (hs0 : ∀ u ∈ l0, u.k.size ≤ maxLen ∧ u.v.size ≤ maxLen) (hs1 : ∀ u ∈ l1, u.k.size ≤ maxLen ∧ u.v.size ≤ maxLen) (hs2 : ∀ u ∈ l2, u.k.size ≤ maxLen ∧ u.v.size ≤ maxLen) (hs : s.size ≤ maxLen) :
    Calls Try.prog 4 #[.slice A0 n0 c0, .slice A1 n1 c1, .slice A2 n2 c2, .string s] w fun e w' => e = .returned (.bool true) ∧ Below w.heap.size w w' := by
  have H0 := Lib.hid h0
  have H1 := Lib.hid h1
  have H2 := Lib.hid h2
  have Hss : Hid (∀ l ∈ crLists [(.slice A0 n0 c0, l0), (.slice A1 n1 c1, l1), (.slice A2 n2 c2, l2)], ∀ u ∈ l, u.k.size ≤ maxLen ∧ u.v.size ≤ maxLen) := Lib.hid (by
    intro l hl
    simp [crLists] at hl
    rcases hl with rfl | rfl | rfl
    · exact hs0
    · exact hs1
    · exact hs2)
  clear h0 h1 h2 hs0 hs1 hs2
  unfold maxLen at hs
  go_enter Try.func4, Try.ntmps4
  go_wp2_with fail
  refine (awake_any w).mono ?_
  rintro e w1 ⟨rfl, hb1⟩
  have Hb1 := Lib.hid hb1
  have Hlt1 := Lib.hid (lights_any _ 3 3 _ _ _ (crs3 (H0.out.next hb1) (H1.out.next hb1) (H2.out.next hb1)) (by unfold maxLen; omega) Hss.out)
  clear hb1
  go_wp2_with fail
  refine Hlt1.out.mono ?_
  rintro e w2 ⟨b, rfl, hbl, q, rfl⟩
  have Hbl := Lib.hid hbl
  have Hb2 : Hid (Below w.heap.size w _) := Lib.hid (below_dr (Hb1.out.alloc Hb1.out.size (.cells #[.slice A0 n0 c0, .slice A1 n1 c1, .slice A2 n2 c2] 22)) q)
  clear hbl Hlt1 Hss
  generalize (w1.alloc (.cells #[.slice A0 n0 c0, .slice A1 n1 c1, .slice A2 n2 c2] 22)).drewN q = w2 at *
  cases b with
  | false =>
    go_wp2
    go_ret
    exact ⟨rfl, Hb2.out⟩
  | true =>
    by_cases hlong : 1000 < s.size
    · go_wp2
      go_ret
      exact ⟨rfl, Hb2.out⟩
    · have R2_0 := Lib.hid (H0.out.next Hb2.out)
      have R2_1 := Lib.hid (H1.out.next Hb2.out)
      have R2_2 := Lib.hid (H2.out.next Hb2.out)
      have S0 := Lib.hid ((Hbl.out rfl).2 l0 (by simp [crLists])).small
      have S1 := Lib.hid ((Hbl.out rfl).2 l1 (by simp [crLists])).small
      have S2 := Lib.hid ((Hbl.out rfl).2 l2 (by simp [crLists])).small
      have hsm := And.intro (sm_small (small_make S0.out)) (And.intro (sm_small (small_make S1.out)) (sm_small (small_make S2.out)))
      have hsl := And.intro (small_make S0.out).1 (And.intro (small_make S1.out).1 (small_make S2.out).1)
      obtain ⟨X, hX⟩ : ∃ X, makeL l0 = X := ⟨_, rfl⟩
      obtain ⟨Y, hY⟩ : ∃ X, makeL l1 = X := ⟨_, rfl⟩
      obtain ⟨Z, hZ⟩ : ∃ X, makeL l2 = X := ⟨_, rfl⟩
      have HX := Lib.hid hX
      have HY := Lib.hid hY
      have HZ := Lib.hid hZ
      rw [hX, hY, hZ] at hsm hsl
      have SX := Lib.hid hsm.1
      have SY := Lib.hid hsm.2.1
      have SZ := Lib.hid hsm.2.2
      have RX : Hid (Run X) := Lib.hid (hX ▸ run_make l0)
      have RY : Hid (Run Y) := Lib.hid (hY ▸ run_make l1)
      have RZ : Hid (Run Z) := Lib.hid (hZ ▸ run_make l2)
      obtain ⟨M, hM⟩ : ∃ M, mergeL [X, Y, Z] = M := ⟨_, rfl⟩
      obtain ⟨P, hP⟩ : ∃ M, mergeL [X, Y] = M := ⟨_, rfl⟩
      obtain ⟨Q, hQ⟩ : ∃ M, mergeL [Y, Z] = M := ⟨_, rfl⟩
      have hl3 := len_mergeS [X, Y, Z]
      have hl2 := len_mergeS [X, Y]
      have hl1 := len_mergeS [Y, Z]
      rw [hM] at hl3
      rw [hP] at hl2
      rw [hQ] at hl1
      simp [sumL] at hl1 hl2 hl3
      have RM : Hid (Run M) := Lib.hid (hM ▸ run_merge _)
      have RP : Hid (Run P) := Lib.hid (hP ▸ run_merge _)
      have RQ : Hid (Run Q) := Lib.hid (hQ ▸ run_merge _)
      have SM : Hid (Sm M) := Lib.hid (hM ▸ sm_merge (runs3 RX.out RY.out RZ.out) (fun r hr => by simp at hr; rcases hr with rfl | rfl | rfl; exact SX.out; exact SY.out; exact SZ.out) (by rw [hM]; omega))
      have SP : Hid (Sm P) := Lib.hid (hP ▸ sm_merge (runs2 RX.out RY.out) (fun r hr => by simp at hr; rcases hr with rfl | rfl; exact SX.out; exact SY.out) (by rw [hP]; omega))
      have SQ : Hid (Sm Q) := Lib.hid (hQ ▸ sm_merge (runs2 RY.out RZ.out) (fun r hr => by simp at hr; rcases hr with rfl | rfl; exact SY.out; exact SZ.out) (by rw [hQ]; omega))
      have HM := Lib.hid hM
      have HP := Lib.hid hP
      have HQ := Lib.hid hQ
      have HL : Hid (mergeL [P, Z] = M) := Lib.hid (by rw [← hP, ← hM]; exact merge_left RX.out RY.out RZ.out)
      have HR : Hid (mergeL [X, Q] = M) := Lib.hid (by rw [← hQ, ← hM]; exact merge_right RX.out RY.out RZ.out)
      obtain ⟨nX, hnX⟩ : ∃ N, X.length = N := ⟨_, rfl⟩
      obtain ⟨nY, hnY⟩ : ∃ N, Y.length = N := ⟨_, rfl⟩
      obtain ⟨nZ, hnZ⟩ : ∃ N, Z.length = N := ⟨_, rfl⟩
      obtain ⟨nM, hnM⟩ : ∃ N, M.length = N := ⟨_, rfl⟩
      obtain ⟨nP, hnP⟩ : ∃ N, P.length = N := ⟨_, rfl⟩
      obtain ⟨nQ, hnQ⟩ : ∃ N, Q.length = N := ⟨_, rfl⟩
      have HnX := Lib.hid hnX
      have HnY := Lib.hid hnY
      have HnZ := Lib.hid hnZ
      have HnM := Lib.hid hnM
      have HnP := Lib.hid hnP
      have HnQ := Lib.hid hnQ
      have hM1 : nM ≤ 700 := by omega
      clear hX hY hZ hM hP hQ hsm hsl hl1 hl2 hl3 hnX hnY hnZ hnM hnP hnQ Hbl
      have Hc := Lib.hid (make_any A0 n0 c0 _ l0 w2 R2_0.out.2.2 (Nat.le_refl _) (by have := S0.out.1; have := R2_0.out.2.2.1; omega) fun x hx => by have := S0.out.2 x hx; omega)
      rw [HX.out] at Hc
      go_wp2_with fail
      refine Hc.out.mono ?_
      rintro e w3 ⟨v, rfl, ho, hb⟩
      obtain ⟨AX, cX, rfl, hw⟩ := ho.rw HnX.out
      have R3_0 := Lib.hid (R2_0.out.next hb)
      have R3_1 := Lib.hid (R2_1.out.next hb)
      have R3_2 := Lib.hid (R2_2.out.next hb)
      have Hb3 := Lib.hid (Hb2.out.trans (hb.mono Hb2.out.size))
      have R3_X := Lib.hid hw
      clear ho hb hw Hc
      have Hc := Lib.hid (make_any A1 n1 c1 _ l1 w3 R3_1.out.2.2 (Nat.le_refl _) (by have := S1.out.1; have := R3_1.out.2.2.1; omega) fun x hx => by have := S1.out.2 x hx; omega)
      rw [HY.out] at Hc
      go_wp2_with fail
      refine Hc.out.mono ?_
      rintro e w4 ⟨v, rfl, ho, hb⟩
      obtain ⟨AY, cY, rfl, hw⟩ := ho.rw HnY.out
      have R4_1 := Lib.hid (R3_1.out.next hb)
      have R4_2 := Lib.hid (R3_2.out.next hb)
      have R4_X := Lib.hid (R3_X.out.next hb)
      have Hb4 := Lib.hid (Hb3.out.trans (hb.mono Hb3.out.size))
      have R4_Y := Lib.hid hw
      clear ho hb hw Hc
      have Hc := Lib.hid (make_any A2 n2 c2 _ l2 w4 R4_2.out.2.2 (Nat.le_refl _) (by have := S2.out.1; have := R4_2.out.2.2.1; omega) fun x hx => by have := S2.out.2 x hx; omega)
      rw [HZ.out] at Hc
      go_wp2_with fail
      refine Hc.out.mono ?_
      rintro e w5 ⟨v, rfl, ho, hb⟩
      obtain ⟨AZ, cZ, rfl, hw⟩ := ho.rw HnZ.out
      have R5_2 := Lib.hid (R4_2.out.next hb)
      have R5_X := Lib.hid (R4_X.out.next hb)
      have R5_Y := Lib.hid (R4_Y.out.next hb)
      have Hb5 := Lib.hid (Hb4.out.trans (hb.mono Hb4.out.size))
      have R5_Z := Lib.hid hw
      clear ho hb hw Hc
      have Hc := Lib.hid (mrg3_any R5_X.out R5_Y.out R5_Z.out RX.out RY.out RZ.out SX.out SY.out SZ.out M HM.out _ HnM.out)
      go_wp2_with fail
      refine Hc.out.mono ?_
      rintro e w6 ⟨AM, cM, rfl, hw, hb⟩
      have R6_X := Lib.hid (R5_X.out.next hb)
      have R6_Y := Lib.hid (R5_Y.out.next hb)
      have R6_Z := Lib.hid (R5_Z.out.next hb)
      have Hb6 := Lib.hid (Hb5.out.trans (hb.mono Hb5.out.size))
      have R6_M := Lib.hid hw
      clear hb hw Hc
      have Hc := Lib.hid (mrg2_any R6_X.out R6_Y.out RX.out RY.out SX.out SY.out P HP.out _ HnP.out)
      go_wp2_with fail
      refine Hc.out.mono ?_
      rintro e w7 ⟨AP, cP, rfl, hw, hb⟩
      have R7_X := Lib.hid (R6_X.out.next hb)
      have R7_Y := Lib.hid (R6_Y.out.next hb)
      have R7_Z := Lib.hid (R6_Z.out.next hb)
      have R7_M := Lib.hid (R6_M.out.next hb)
      have Hb7 := Lib.hid (Hb6.out.trans (hb.mono Hb6.out.size))
      have R7_P := Lib.hid hw
      clear hb hw Hc
      have Hc := Lib.hid (mrg2_any R7_Y.out R7_Z.out RY.out RZ.out SY.out SZ.out Q HQ.out _ HnQ.out)
      go_wp2_with fail
      refine Hc.out.mono ?_
      rintro e w8 ⟨AQ, cQ, rfl, hw, hb⟩
      have R8_X := Lib.hid (R7_X.out.next hb)
      have R8_Y := Lib.hid (R7_Y.out.next hb)
      have R8_Z := Lib.hid (R7_Z.out.next hb)
      have R8_M := Lib.hid (R7_M.out.next hb)
      have R8_P := Lib.hid (R7_P.out.next hb)
      have Hb8 := Lib.hid (Hb7.out.trans (hb.mono Hb7.out.size))
      have R8_Q := Lib.hid hw
      clear hb hw Hc
      have Hc := Lib.hid (mrg2_any R8_P.out R8_Z.out RP.out RZ.out SP.out SZ.out M HL.out _ HnM.out)
      go_wp2_with fail
      refine Hc.out.mono ?_
      rintro e w9 ⟨Aleft, cleft, rfl, hw, hb⟩
      have R9_X := Lib.hid (R8_X.out.next hb)
      have R9_Y := Lib.hid (R8_Y.out.next hb)
      have R9_Z := Lib.hid (R8_Z.out.next hb)
      have R9_M := Lib.hid (R8_M.out.next hb)
      have R9_P := Lib.hid (R8_P.out.next hb)
      have R9_Q := Lib.hid (R8_Q.out.next hb)
      have Hb9 := Lib.hid (Hb8.out.trans (hb.mono Hb8.out.size))
      have R9_left := Lib.hid hw
      clear hb hw Hc
      have Hc := Lib.hid (mrg2_any R9_X.out R9_Q.out RX.out RQ.out SX.out SQ.out M HR.out _ HnM.out)
      go_wp2_with fail
      refine Hc.out.mono ?_
      rintro e w10 ⟨Aright, cright, rfl, hw, hb⟩
      have R10_X := Lib.hid (R9_X.out.next hb)
      have R10_M := Lib.hid (R9_M.out.next hb)
      have R10_Q := Lib.hid (R9_Q.out.next hb)
      have R10_left := Lib.hid (R9_left.out.next hb)
      have Hb10 := Lib.hid (Hb9.out.trans (hb.mono Hb9.out.size))
      have R10_right := Lib.hid hw
      clear hb hw Hc
      have Hc := Lib.hid (chSame_any AM Aleft nM nM cM cleft _ _ M M w10 R10_M.out.2.2 R10_left.out.2.2 (by unfold maxLen; omega) (by unfold maxLen; omega))
      rw [decide_eq_true rfl] at Hc
      go_wp2_with fail
      refine Hc.out.mono ?_
      rintro e w11 ⟨rfl, hb⟩
      have R11_M := Lib.hid (R10_M.out.next hb)
      have R11_left := Lib.hid (R10_left.out.next hb)
      have R11_right := Lib.hid (R10_right.out.next hb)
      have Hb11 := Lib.hid (Hb10.out.trans (hb.mono Hb10.out.size))
      clear hb Hc
      have Hc := Lib.hid (chSame_any AM Aright nM nM cM cright _ _ M M w11 R11_M.out.2.2 R11_right.out.2.2 (by unfold maxLen; omega) (by unfold maxLen; omega))
      rw [decide_eq_true rfl] at Hc
      go_wp2_with fail
      refine Hc.out.mono ?_
      rintro e w12 ⟨rfl, hb⟩
      have R12_M := Lib.hid (R11_M.out.next hb)
      have R12_right := Lib.hid (R11_right.out.next hb)
      have Hb12 := Lib.hid (Hb11.out.trans (hb.mono Hb11.out.size))
      clear hb Hc
      by_cases hse : s = ⟨#[]⟩
      · subst hse
        go_wp2
        go_ret
        exact ⟨rfl, Hb12.out⟩
      · have hse2 : s.toList.isEmpty = false := by
          rw [← Bool.not_eq_true, ByteArray.toList_eq, empty_iff]
          exact hse
        have hsn : s.data.toList ≠ [] := fun e => hse (bytes_ext e)
        have HT : Hid (mergeL [sliceL s.data.toList [] M, sliceL [] s.data.toList M] = M) := Lib.hid (cut_merge RM.out _ hsn)
        have hcl := cut_len M s.data.toList hsn
        obtain ⟨U, hU⟩ : ∃ U, sliceL [] s.data.toList M = U := ⟨_, rfl⟩
        obtain ⟨V, hV⟩ : ∃ U, sliceL s.data.toList [] M = U := ⟨_, rfl⟩
        have RU : Hid (Run U) := Lib.hid (hU ▸ run_slice RM.out)
        have RV : Hid (Run V) := Lib.hid (hV ▸ run_slice RM.out)
        have SU : Hid (Sm U) := Lib.hid (hU ▸ ⟨Nat.le_trans (slice_len _ _ _) SM.out.1, fun x hx => SM.out.2 x (List.mem_filter.1 hx).1⟩)
        have SV : Hid (Sm V) := Lib.hid (hV ▸ ⟨Nat.le_trans (slice_len _ _ _) SM.out.1, fun x hx => SM.out.2 x (List.mem_filter.1 hx).1⟩)
        rw [hU, hV] at HT hcl
        have HU : Hid (sliceT (⟨#[]⟩ : ByteArray).data.toList s.data.toList M = U) := Lib.hid (by rw [sliceT_run RM.out]; exact hU)
        have HV : Hid (sliceT s.data.toList (⟨#[]⟩ : ByteArray).data.toList M = V) := Lib.hid (by rw [sliceT_run RM.out]; exact hV)
        obtain ⟨nU, hnU⟩ : ∃ N, U.length = N := ⟨_, rfl⟩
        obtain ⟨nV, hnV⟩ : ∃ N, V.length = N := ⟨_, rfl⟩
        have HnU := Lib.hid hnU
        have HnV := Lib.hid hnV
        have hsum : (nU : Int) + (nV : Int) = (nM : Int) := by have := HnM.out; omega
        clear hse hsn hcl hU hV hnU hnV
        have Hc := Lib.hid (slice_any AM nM cM _ M ⟨#[]⟩ s w12 R12_M.out.2.2 (Nat.le_refl _) hM1 SM.out.2)
        rw [HU.out] at Hc
        go_wp2_with fail
        refine Hc.out.mono ?_
        rintro e w13 ⟨v, rfl, ho, hb⟩
        obtain ⟨Alow, clow, rfl, hw⟩ := ho.rw HnU.out
        have R13_M := Lib.hid (R12_M.out.next hb)
        have Hb13 := Lib.hid (Hb12.out.trans (hb.mono Hb12.out.size))
        have R13_low := Lib.hid hw
        clear ho hb hw Hc
        have Hc := Lib.hid (slice_any AM nM cM _ M s ⟨#[]⟩ w13 R13_M.out.2.2 (Nat.le_refl _) hM1 SM.out.2)
        rw [HV.out] at Hc
        go_wp2_with fail
        refine Hc.out.mono ?_
        rintro e w14 ⟨v, rfl, ho, hb⟩
        obtain ⟨Ahigh, chigh, rfl, hw⟩ := ho.rw HnV.out
        have R14_M := Lib.hid (R13_M.out.next hb)
        have R14_low := Lib.hid (R13_low.out.next hb)
        have Hb14 := Lib.hid (Hb13.out.trans (hb.mono Hb13.out.size))
        have R14_high := Lib.hid hw
        clear ho hb hw Hc
        have Hc := Lib.hid (mrg2_any R14_high.out R14_low.out RV.out RU.out SV.out SU.out M HT.out _ HnM.out)
        go_wp2_with fail
        refine Hc.out.mono ?_
        rintro e w15 ⟨Atwo, ctwo, rfl, hw, hb⟩
        have R15_M := Lib.hid (R14_M.out.next hb)
        have R15_low := Lib.hid (R14_low.out.next hb)
        have R15_high := Lib.hid (R14_high.out.next hb)
        have Hb15 := Lib.hid (Hb14.out.trans (hb.mono Hb14.out.size))
        have R15_two := Lib.hid hw
        clear hb hw Hc
        have Hc := Lib.hid (chSame_any Atwo AM nM nM ctwo cM _ _ M M w15 R15_two.out.2.2 R15_M.out.2.2 (by unfold maxLen; omega) (by unfold maxLen; omega))
        rw [decide_eq_true rfl] at Hc
        go_wp2_with fail
        refine Hc.out.mono ?_
        rintro e w16 ⟨rfl, hb⟩
        have R16_M := Lib.hid (R15_M.out.next hb)
        have R16_low := Lib.hid (R15_low.out.next hb)
        have R16_high := Lib.hid (R15_high.out.next hb)
        have R16_two := Lib.hid (R15_two.out.next hb)
        have Hb16 := Lib.hid (Hb15.out.trans (hb.mono Hb15.out.size))
        clear hb Hc
        go_wp2
        go_ret
        exact ⟨rfl, Hb16.out⟩

namespace lawRunGroups
open Go.ChangeShapes Go.WideShapes Go.ChangeAt

theorem own : ownKnob Try.prog.godebug = none := by kernel_rfl
theorem kids : Kids Try.prog (· < Try.prog.types.size) := kids_rows (by kernel_rfl) (by kernel_rfl)
theorem full : ∀ t e, t < Try.prog.types.size → Try.prog.underlying t = some (.slice e) → 0 < Try.prog.cellsOf e := slices_full_of Try.prog (by kernel_rfl)

set_option maxRecDepth 100000 in
theorem lifted (os : Os) (started : os.Started) (H : Type) (enc : TypeId × Value → H) :
    ReturnsInHanded {} Try.checked os 4 .any (Rows.runGroupsSpec.pre6 enc Try.prog Try.f4 Rows.runGroupsRow.domain false) (Rows.runGroupsSpec.post enc Try.prog Try.f4 false true false false) := by
  refine returnsInHanded_of_change (C := Try.checked) own started (by kernel_rfl) Try.func4
    (ChangeSpec.witness6 (enc := enc) (C := Try.checked) false ⟨#[], #[.slice none 0 0, .slice none 0 0, .slice none 0 0, .string ⟨#[]⟩], []⟩ 8 (by kernel_rfl) (by kernel_rfl) (by kernel_rfl) (by kernel_rfl)) ?_
  intro W base args ds gs before hval0 hW _ _
  have hval : ∀ (j : Nat) t v, Try.f4.params[j]? = some t → args[j]? = some v → Value.okWide Try.prog W .any base t v := hval0
  have hW' := hW
  obtain ⟨p, q, hA0, hV, rfl, _, _⟩ := hW
  obtain ⟨rfl, rfl⟩ := trodVars_none hV
  have hA : DataW.TrodAll enc Try.prog W 0 (fun _ => true) true Try.f4.params.toList args.toList ds p := hA0
  rw [Try.params4] at hA hval
  obtain ⟨v0, vs0, d0, ds0, p0, q0, hargs, rfl, rfl, h0, r0⟩ := trodAll_cons hA
  obtain ⟨v1, vs1, d1, ds1, p1, q1, rfl, rfl, rfl, h1, r1⟩ := trodAll_cons r0
  obtain ⟨v2, vs2, d2, ds2, p2, q2, rfl, rfl, rfl, h2, r2⟩ := trodAll_cons r1
  obtain ⟨v3, vs3, d3, ds3, p3, q3, rfl, rfl, rfl, h3, r3⟩ := trodAll_cons r2
  obtain ⟨rfl, rfl, rfl⟩ := trodAll_nil r3
  obtain rfl : args = #[v0, v1, v2, v3] := by cases args; simp_all
  have hlt := hW'.lt
  obtain ⟨A0, n0, c0, l0, rfl, hnc0, hm0, hb0, hs0⟩ := open_changes Try.underlying22 Try.underlying38 (by kernel_rfl) ⟨rfl, rfl, rfl⟩ ⟨by kernel_rfl, by kernel_rfl, by kernel_rfl⟩ ⟨by kernel_rfl, by kernel_rfl, by kernel_rfl⟩ (hval 0 22 v0 rfl rfl) h0 (fun x hx => hlt x (by simp [hx]))
  obtain ⟨A1, n1, c1, l1, rfl, hnc1, hm1, hb1, hs1⟩ := open_changes Try.underlying22 Try.underlying38 (by kernel_rfl) ⟨rfl, rfl, rfl⟩ ⟨by kernel_rfl, by kernel_rfl, by kernel_rfl⟩ ⟨by kernel_rfl, by kernel_rfl, by kernel_rfl⟩ (hval 1 22 v1 rfl rfl) h1 (fun x hx => hlt x (by simp [hx]))
  obtain ⟨A2, n2, c2, l2, rfl, hnc2, hm2, hb2, hs2⟩ := open_changes Try.underlying22 Try.underlying38 (by kernel_rfl) ⟨rfl, rfl, rfl⟩ ⟨by kernel_rfl, by kernel_rfl, by kernel_rfl⟩ ⟨by kernel_rfl, by kernel_rfl, by kernel_rfl⟩ (hval 2 22 v2 rfl rfl) h2 (fun x hx => hlt x (by simp [hx]))
  obtain ⟨s3, rfl, _, _, ws3⟩ := Go.ChangeMaps.open_string Try.underlying9 (hval 3 9 v3 rfl rfl) h3
  refine (groups_walk A0 A1 A2 n0 n1 n2 c0 c1 c2 l0 l1 l2 s3 W ⟨hnc0, hm0, hb0⟩ ⟨hnc1, hm1, hb1⟩ ⟨hnc2, hm2, hb2⟩ hs0 hs1 hs2 ws3).mono fun e W' ⟨he, hbel⟩ => ?_
  subst he
  exact ⟨_, rfl, law_post kids full (of_decide_eq_true (by kernel_rfl)) Try.underlying4 rfl rfl rfl hW' hbel⟩

theorem proved : Rows.RunGroupsSaid :=
  OpenClaim.holds_of_wide 4 Try.f4 rfl rfl rfl rfl rfl rfl rfl ⟨rfl, rfl, rfl, rfl, rfl⟩ rfl rfl rfl rfl rfl (by kernel_rfl) Try.func4 (by kernel_rfl)
    (of_decide_eq_true (by kernel_rfl)) (by unfold Func.isWrapper; first | (rw [if_pos (by decide +kernel)]; kernel_rfl) | (rw [if_neg (by decide +kernel)]; exact ⟨rfl, rfl⟩))
    (fun os started H enc _ => lifted os started H enc)
end lawRunGroups

end Go.Proofs.Ytfmjjjfeooaeeaa
