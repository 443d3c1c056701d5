/- RunKeeps: what is handed in stays, its spare room too; what is answered is new memory. No condition. -/
import Derived.Test.YtfmjjjfeooaeeaaSpecMerge
import Derived.Test.YtfmjjjfeooaeeaaRawB
import Derived.Test.YtfmjjjfeooaeeaaMSrtD
import Derived.Test.YtfmjjjfeooaeeaaFndA
import Derived.Test.YtfmjjjfeooaeeaaOpenChs
namespace Go.Proofs.Ytfmjjjfeooaeeaa

theorem mlook_nil (k : List UInt8) : mlook k [] = none := rfl
theorem mlook_some {k : List UInt8} {c : Chg} : ∀ {rs : List (List Chg)}, mlook k rs = some c → ∃ r ∈ rs, look k r = some c
  | [], h => by simp [mlook] at h
  | r :: rs, h => by
    rw [mlook_cons] at h
    cases e : look k r with
    | some d =>
      rw [e] at h
      exact ⟨r, by simp, e.trans h⟩
    | none =>
      rw [e] at h
      obtain ⟨x, hx, e2⟩ := mlook_some (rs := rs) h
      exact ⟨x, List.mem_cons_of_mem _ hx, e2⟩
theorem merge_mem {rs : List (List Chg)} (h : ∀ r ∈ rs, Run r) {c : Chg} (hc : c ∈ mergeL rs) : ∃ r ∈ rs, c ∈ r := by
  have h1 := look_of (srt_merge rs) hc
  rw [look_merge _ h] at h1
  obtain ⟨r, hr, e⟩ := mlook_some h1
  exact ⟨r, hr, look_mem e⟩
theorem make_mem {l : List Chg} {c : Chg} (hc : c ∈ makeL l) : ∃ d ∈ l, c = tidy d := by
  have h1 := look_of (srt_make l) hc
  rw [look_make] at h1
  cases e : lastOf c.kb l with
  | none => rw [e] at h1; cases h1
  | some d =>
    rw [e] at h1
    injection h1 with h1
    exact ⟨d, (List.mem_filter.1 (List.mem_of_getLast? e)).1, h1.symm⟩
theorem runs2 {a b : List Chg} (ha : Run a) (hb : Run b) : ∀ r ∈ [a, b], Run r := fun r hr => by
  rcases List.mem_cons.1 hr with rfl | hr
  · exact ha
  · simp at hr; subst hr; exact hb
theorem runs3 {a b c : List Chg} (ha : Run a) (hb : Run b) (hc : Run c) : ∀ r ∈ [a, b, c], Run r := fun r hr => by
  rcases List.mem_cons.1 hr with rfl | hr
  · exact ha
  · exact runs2 hb hc r hr
theorem merge_left {a b c : List Chg} (ha : Run a) (hb : Run b) (hc : Run c) : mergeL [mergeL [a, b], c] = mergeL [a, b, c] := by
  refine srt_ext (srt_merge _) (srt_merge _) fun k => ?_
  rw [look_merge k (runs2 (run_merge _) hc), look_merge k (runs3 ha hb hc), mlook_cons, look_merge k (runs2 ha hb)]
  simp only [mlook_cons, mlook_nil, Option.or_none, Option.or_assoc]
theorem merge_right {a b c : List Chg} (ha : Run a) (hb : Run b) (hc : Run c) : mergeL [a, mergeL [b, c]] = mergeL [a, b, c] := by
  refine srt_ext (srt_merge _) (srt_merge _) fun k => ?_
  rw [look_merge k (runs2 ha (run_merge _)), look_merge k (runs3 ha hb hc), mlook_cons, mlook_cons, look_merge k (runs2 hb hc)]
  simp only [mlook_cons, mlook_nil, Option.or_none]
/-- does a range have a key? -/
def inK (lo hi k : List UInt8) : Bool := !decide (k < lo) && (hi.isEmpty || decide (k < hi))
theorem inR_key (lo hi : List UInt8) (c : Chg) : inR lo hi c = inK lo hi c.kb := rfl
theorem look_filter (p : Chg → Bool) (q : List UInt8 → Bool) (hp : ∀ c, p c = q c.kb) (k : List UInt8) : ∀ l : List Chg, look k (l.filter p) = if q k then look k l else none
  | [] => by simp [look_nil]
  | c :: l => by
    have ih := look_filter p q hp k l
    rw [List.filter_cons]
    by_cases h1 : p c = true
    · rw [if_pos h1, look_cons, look_cons, ih]
      by_cases h2 : c.kb = k
      · have : q k = true := by rw [← h2, ← hp]; exact h1
        simp [h2, this]
      · simp [h2]
    · rw [if_neg h1, look_cons, ih]
      by_cases h2 : c.kb = k
      · have : q k = false := by rw [← h2, ← hp]; simpa using h1
        simp [this]
      · simp [h2]
theorem look_slice (lo hi k : List UInt8) (l : List Chg) : look k (sliceL lo hi l) = if inK lo hi k then look k l else none := look_filter _ _ (inR_key lo hi) k l
theorem not_lt_nil (k : List UInt8) : ¬ k < [] := by intro h; cases h
theorem cut_merge {l : List Chg} (h : Run l) (hi : List UInt8) (hne : hi ≠ []) : mergeL [sliceL hi [] l, sliceL [] hi l] = l := by
  refine srt_ext (srt_merge _) h.2 fun k => ?_
  rw [look_merge k (runs2 (run_slice h) (run_slice h)), mlook_cons, mlook_cons, mlook_nil, look_slice, look_slice, Option.or_none]
  have e : hi.isEmpty = false := by cases hi <;> simp_all
  by_cases hk : k < hi
  · simp [inK, hk, e]
  · simp [inK, hk, e]
theorem cut_len (l : List Chg) (hi : List UInt8) (hne : hi ≠ []) : (sliceL [] hi l).length + (sliceL hi [] l).length = l.length := by
  have e : hi.isEmpty = false := by cases hi <;> simp_all
  induction l with
  | nil => rfl
  | cons c l ih =>
    unfold sliceL at ih ⊢
    rw [List.filter_cons, List.filter_cons]
    by_cases hk : c.kb < hi
    · have h1 : inR [] hi c = true := by simp [inR, hk]
      have h2 : inR hi [] c = false := by simp [inR, hk]
      rw [if_pos h1, if_neg (by simp [h2])]
      simp only [List.length_cons]
      omega
    · have h1 : inR [] hi c = false := by simp [inR, hk, e]
      have h2 : inR hi [] c = true := by simp [inR, hk]
      rw [if_neg (by simp [h1]), if_pos h2]
      simp only [List.length_cons]
      omega
end Go.Proofs.Ytfmjjjfeooaeeaa

namespace Go.Proofs.Ytfmjjjfeooaeeaa
open Go.RowKit
open Go.Lib (strCells compareBytes)

/-- a slice of changes that lies in memory, wherever -/
def Rw (w : World) (A : Option Addr) (n c : Nat) (l : List Chg) : Prop := n ≤ c ∧ c ≤ maxLen ∧ HasChs w w.heap.size A n l
theorem Rw.next {w w' : World} {A : Option Addr} {n c : Nat} {l : List Chg} (h : Rw w A n c l) (hb : Below w.heap.size w w') : Rw w' A n c l := ⟨h.1, h.2.1, (h.2.2.belowOf hb (Nat.le_refl _)).more hb.size⟩
theorem OwnChs.rw {w : World} {B N : Nat} {v : Value} {l : List Chg} (h : OwnChs w B v l) (hN : l.length = N) : ∃ A c, v = .slice A N c ∧ Rw w A N c l := by
  obtain ⟨A, c, rfl, h1, h2, h3⟩ := h.slice
  rw [hN] at h1 h3 ⊢
  exact ⟨A, c, rfl, h1, h2, h3⟩
theorem Rw.cr {w : World} {A : Option Addr} {n c : Nat} {l : List Chg} (h : Rw w A n c l) (o : Obj) : ∃ A' m c', (Value.slice A n c, l).1 = .slice A' m c' ∧ m ≤ c' ∧ c' ≤ maxLen ∧ HasChs (w.alloc o) (w.heap.size + 1) A' m (Value.slice A n c, l).2 :=
  ⟨A, n, c, rfl, h.1, h.2.1, (h.2.2.alloc (Nat.le_refl _) o).more (by omega)⟩
theorem crs1 {w : World} {A1 : Option Addr} {n1 c1 : Nat} {l1 : List Chg} (h1 : Rw w A1 n1 c1 l1) :
    HasCrs (w.alloc (.cells #[.slice A1 n1 c1] 22)) (w.heap.size + 1) (some ⟨w.heap.size, 0, none⟩) 1 [(.slice A1 n1 c1, l1)] := by
  refine ⟨Has.lit w #[.slice A1 n1 c1] 22, fun r hr => ?_⟩
  simp only [List.mem_cons, List.not_mem_nil, or_false] at hr
  subst hr
  exact h1.cr _
theorem crs2 {w : World} {A1 A2 : Option Addr} {n1 c1 n2 c2 : Nat} {l1 l2 : List Chg} (h1 : Rw w A1 n1 c1 l1) (h2 : Rw w A2 n2 c2 l2) :
    HasCrs (w.alloc (.cells #[.slice A1 n1 c1, .slice A2 n2 c2] 22)) (w.heap.size + 1) (some ⟨w.heap.size, 0, none⟩) 2 [(.slice A1 n1 c1, l1), (.slice A2 n2 c2, l2)] := by
  refine ⟨Has.lit w #[.slice A1 n1 c1, .slice A2 n2 c2] 22, fun r hr => ?_⟩
  simp only [List.mem_cons, List.not_mem_nil, or_false] at hr
  rcases hr with rfl | rfl
  · exact h1.cr _
  · exact h2.cr _
theorem crs3 {w : World} {A1 A2 A3 : Option Addr} {n1 c1 n2 c2 n3 c3 : Nat} {l1 l2 l3 : List Chg} (h1 : Rw w A1 n1 c1 l1) (h2 : Rw w A2 n2 c2 l2) (h3 : Rw w A3 n3 c3 l3) :
    HasCrs (w.alloc (.cells #[.slice A1 n1 c1, .slice A2 n2 c2, .slice A3 n3 c3] 22)) (w.heap.size + 1) (some ⟨w.heap.size, 0, none⟩) 3 [(.slice A1 n1 c1, l1), (.slice A2 n2 c2, l2), (.slice A3 n3 c3, l3)] := by
  refine ⟨Has.lit w #[.slice A1 n1 c1, .slice A2 n2 c2, .slice A3 n3 c3] 22, fun r hr => ?_⟩
  simp only [List.mem_cons, List.not_mem_nil, or_false] at hr
  rcases hr with rfl | rfl | rfl
  · exact h1.cr _
  · exact h2.cr _
  · exact h3.cr _
def Sm (l : List Chg) : Prop := l.length ≤ 1000 ∧ ∀ x ∈ l, x.k.size ≤ 4000 ∧ x.v.size ≤ 4000
theorem sm_merge {rs : List (List Chg)} (hr : ∀ r ∈ rs, Run r) (h : ∀ r ∈ rs, Sm r) (hl : (mergeL rs).length ≤ 1000) : Sm (mergeL rs) :=
  ⟨hl, fun x hx => by
    obtain ⟨r, h1, h2⟩ := merge_mem hr hx
    exact (h r h1).2 x h2⟩
theorem len_mergeS : ∀ (rs : List (List Chg)), (mergeL rs).length ≤ sumL rs
  | [] => by simp [mergeL]
  | r :: rs => by
    have h1 := len_mergeS rs
    have h2 := len_over r (mergeL rs)
    simp only [mergeL, List.foldr_cons, sumL, List.map_cons, List.sum_cons] at h1 h2 ⊢
    omega
def MrgPost (M : List Chg) (N : Nat) (w : World) (e : Ending) (w' : World) : Prop := ∃ A c, e = .returned (.tuple #[.slice A N c, .int .i64 0]) ∧ Rw w' A N c M ∧ Below w.heap.size w w'
theorem mrg_post {w w' : World} {o : Obj} {e : Ending} {rs : List (List Chg)} {M : List Chg} {N : Nat} (hr : ∀ r ∈ rs, Run r) (hM : mergeL rs = M) (hN : M.length = N) (h : MergePost (w.alloc o).heap.size rs (w.alloc o) e w') : MrgPost M N w e w' := by
  obtain ⟨hb, ⟨-, v, rfl, ho⟩ | ⟨h1, -⟩⟩ := h
  · rw [hM] at ho
    obtain ⟨A, c, rfl, hw⟩ := ho.rw hN
    exact ⟨A, c, rfl, hw, (below_box o).trans (hb.mono (by simp))⟩
  · exact absurd hr h1
theorem mrg2_any {w : World} {A1 A2 : Option Addr} {n1 c1 n2 c2 : Nat} {l1 l2 : List Chg} (h1 : Rw w A1 n1 c1 l1) (h2 : Rw w A2 n2 c2 l2) (r1 : Run l1) (r2 : Run l2) (s1 : Sm l1) (s2 : Sm l2) (M : List Chg) (hM : mergeL [l1, l2] = M) (N : Nat) (hN : M.length = N) :
    Calls Try.prog 19 #[.slice (some ⟨w.heap.size, 0, none⟩) 2 2] (w.alloc (.cells #[.slice A1 n1 c1, .slice A2 n2 c2] 22)) (MrgPost M N w) := by
  refine (merge_gen _ 2 2 _ _ _ (crs2 h1 h2) (by simp) (by omega) 1000000 (Nat.le_refl _) ?_ ?_).mono fun e w' h => mrg_post (runs2 r1 r2) hM hN h
  · have := s1.1; have := s2.1; simp [crLists, sumL]; omega
  · intro r hr x hx
    simp [crLists] at hr
    rcases hr with rfl | rfl
    · have := s1.2 x hx; omega
    · have := s2.2 x hx; omega
theorem mrg3_any {w : World} {A1 A2 A3 : Option Addr} {n1 c1 n2 c2 n3 c3 : Nat} {l1 l2 l3 : List Chg} (h1 : Rw w A1 n1 c1 l1) (h2 : Rw w A2 n2 c2 l2) (h3 : Rw w A3 n3 c3 l3) (r1 : Run l1) (r2 : Run l2) (r3 : Run l3) (s1 : Sm l1) (s2 : Sm l2) (s3 : Sm l3) (M : List Chg) (hM : mergeL [l1, l2, l3] = M) (N : Nat) (hN : M.length = N) :
    Calls Try.prog 19 #[.slice (some ⟨w.heap.size, 0, none⟩) 3 3] (w.alloc (.cells #[.slice A1 n1 c1, .slice A2 n2 c2, .slice A3 n3 c3] 22)) (MrgPost M N w) := by
  refine (merge_gen _ 3 3 _ _ _ (crs3 h1 h2 h3) (by simp) (by omega) 1000000 (Nat.le_refl _) ?_ ?_).mono fun e w' h => mrg_post (runs3 r1 r2 r3) hM hN h
  · have := s1.1; have := s2.1; have := s3.1; simp [crLists, sumL]; omega
  · intro r hr x hx
    simp [crLists] at hr
    rcases hr with rfl | rfl | rfl
    · have := s1.2 x hx; omega
    · have := s2.2 x hx; omega
    · have := s3.2 x hx; omega
theorem mrg1_any {w : World} {A1 : Option Addr} {n1 c1 : Nat} {l1 : List Chg} (h1 : Rw w A1 n1 c1 l1) (r1 : Run l1) (s1 : Sm l1) (N : Nat) (hN : l1.length = N) :
    Calls Try.prog 19 #[.slice (some ⟨w.heap.size, 0, none⟩) 1 1] (w.alloc (.cells #[.slice A1 n1 c1] 22)) fun e w' => ∃ v, e = .returned (.tuple #[v, .int .i64 0]) ∧ OwnChs w' (w.heap.size + 1) v l1 ∧ Below w.heap.size w w' := by
  have hr : ∀ r ∈ [l1], Run r := fun r hr => by simp at hr; subst hr; exact r1
  refine (merge_gen _ 1 1 _ _ _ (crs1 h1) (by simp) (by omega) 1000000 (Nat.le_refl _) ?_ ?_).mono ?_
  · have := s1.1; simp [crLists, sumL]; omega
  · intro r hr x hx
    simp [crLists] at hr
    subst hr
    have := s1.2 x hx; omega
  · rintro e w' ⟨hb, ⟨-, v, rfl, ho⟩ | ⟨h1, -⟩⟩
    · have e1 : mergeL (crLists [(Value.slice A1 n1 c1, l1)]) = l1 := merge_one r1
      rw [e1] at ho
      exact ⟨v, rfl, by simpa using ho, (below_box _).trans (hb.mono (by simp))⟩
    · exact absurd hr h1
end Go.Proofs.Ytfmjjjfeooaeeaa

namespace Go.Proofs.Ytfmjjjfeooaeeaa
open Go.RowKit
open Go.Lib (strCells compareBytes)

theorem own_keepN {w w' : World} {B m size : Nat} {e : TypeId} {v : Value} {xs : List Value} (h : w.ownsRow B e size v m xs) (hk : ∀ g, v.ownBlock = some g → w'.heap[g]? = w.heap[g]?) : w'.ownsRow B e size v m xs := by
  refine ⟨h.1, ?_⟩
  rcases h.2 with hn | ⟨g, cap, cur, hv, hB, hg, rest⟩
  · exact .inl hn
  · exact .inr ⟨g, cap, cur, hv, hB, (hk g (by rw [hv]; rfl)).trans hg, rest⟩
/-- a store into a row of the call's own -/
theorem own_store {w : World} {B m c i j : Nat} {A : Option Addr} {xs : List Value} (h : w.ownsRow B 38 3 (.slice A m c) m xs) (hi : i < m) (hj : j < 3) (u : Value) :
    ∃ g, A = some ⟨g, 0, none⟩ ∧ B ≤ g ∧ g < w.heap.size ∧ (∃ o, w.cell? ⟨g, i * 3 + j, none⟩ = some o) ∧ w.frozen? ⟨g, i * 3 + j, none⟩ = false ∧ (w.setCell ⟨g, i * 3 + j, none⟩ u).ownsRow B 38 3 (.slice A m c) m (xs.set (i * 3 + j) u) ∧ ∀ k, k ≠ g → (w.setCell ⟨g, i * 3 + j, none⟩ u).heap[k]? = w.heap[k]? := by
  obtain ⟨g, rfl, hBg⟩ := own_head h (by omega)
  have hl := h.1
  refine ⟨g, rfl, hBg, (h.lt g rfl).2, ⟨_, (h.cellAt (i * 3 + j) (by omega)).trans (List.getElem?_eq_getElem (by omega))⟩, h.frozenAt _, (h.stored (i * 3 + j) u).1, fun k hk => Below.heap_setCell _ _ _ _ hk⟩
theorem add_zero_at (g k : Nat) : (⟨g, 0, none⟩ : Addr).add k = ⟨g, k, none⟩ := by unfold Addr.add; split <;> simp_all
def bang : Chg := ⟨⟨#[33]⟩, ⟨#[]⟩, false⟩
theorem keep5 {w : World} {B n : Nat} {v : Value} {l : List Chg} (hl : l.length = n) (h : w.ownsRow B 38 3 v (0 + n + 1) (([] ++ chgCells l) ++ chgCells [bang])) :
    ∃ g c, v = .slice (some ⟨g, 0, none⟩) (n + 1) c ∧ B ≤ g ∧ n + 1 ≤ c ∧ c ≤ 9223372036854775807 ∧ OwnChs w B (.slice (some ⟨g, 0, none⟩) (n + 1) c) (l ++ [bang]) := by
  have ho : OwnChs w B v (l ++ [bang]) := by
    unfold OwnChs
    rw [List.length_append, hl, chgCells_app]
    simpa using h
  have hlen : (l ++ [bang]).length = n + 1 := by rw [List.length_append, hl]; rfl
  obtain ⟨g, c, rfl, hB, -⟩ := own_atC ho hlen (by omega)
  obtain ⟨A, c', e, h1, h2, -⟩ := ho.slice
  injection e with _ _ e
  subst e
  exact ⟨g, c, rfl, hB, by omega, by unfold maxLen at h2; omega, ho⟩
set_option maxRecDepth 100000 in
set_option maxHeartbeats 12800000 in
theorem keeps_walk (A : Option Addr) (n ca : Nat) (l : List Chg) (w : World) (h : HasChs w w.heap.size A n l) (_hnc : n ≤ ca) (hm : ca ≤ maxLen) (hs : ∀ u ∈ l, u.k.size ≤ maxLen ∧ u.v.size ≤ maxLen) :
    Calls Try.prog 5 #[.slice A n ca] w fun e w' => e = .returned (.bool true) ∧ Below w.heap.size w w' := by
  have H := Lib.hid h
  have Hlt := Lib.hid (fun wx (hx : Below w.heap.size w wx) => light_any A n ca w.heap.size 60 l wx (h.belowOf hx (Nat.le_refl _)) (by omega) (by omega) hs)
  have Hmx := Lib.hid (show n ≤ maxLen by omega)
  have Hl := Lib.hid h.1
  clear h hs hm _hnc
  go_enter Try.func5, Try.ntmps5
  go_wp2_with fail
  refine (awake_any w).mono ?_
  rintro e w1 ⟨rfl, hb1⟩
  have Hb1 := Lib.hid hb1
  have Hlt1 := Lib.hid (Hlt.out w1 hb1)
  clear hb1
  go_wp2_with fail
  refine Hlt1.out.mono ?_
  rintro e w2 ⟨b, rfl, hbl, q, rfl⟩
  have Hbl := Lib.hid hbl
  have Hb2 := Lib.hid (below_dr Hb1.out q)
  clear hbl Hlt Hlt1
  generalize w1.drewN q = w2 at *
  have hsz2 := Hb2.out.size
  cases b with
  | false =>
    go_wp2
    go_ret
    exact ⟨rfl, Hb2.out⟩
  | true =>
    have HL := Lib.hid ((Hbl.out rfl).small)
    have hn60 : n ≤ 60 := by have := HL.out.1; have := Hl.out; omega
    have RM : Hid (Run (makeL l)) := Lib.hid (run_make l)
    have SM : Hid (Sm (makeL l)) := Lib.hid ⟨by have := (small_make HL.out).1; omega, (small_make HL.out).2⟩
    have Hrm := Lib.hid (refMake_any A n ca w.heap.size l w2 (H.out.belowOf Hb2.out (Nat.le_refl _)) hsz2 (by omega))
    have Hmake := Lib.hid (fun A c wx (hx : Rw wx A n c l) => make_any A n c _ l wx hx.2.2 (Nat.le_refl _) (by omega) fun x hx => by have := HL.out.2 x hx; omega)
    obtain ⟨M, hM⟩ : ∃ M, makeL l = M := ⟨_, rfl⟩
    have hM60 : M.length ≤ 60 := hM ▸ (small_make HL.out).1
    rw [hM] at RM SM Hrm Hmake
    obtain ⟨N, hN⟩ : ∃ N, M.length = N := ⟨_, rfl⟩
    have HN := Lib.hid hN
    rw [hN] at hM60
    clear hM hN
    go_wp2_with fail
    refine Hrm.out.mono ?_
    rintro e w3 ⟨v3, rfl, o3, hb3⟩
    have Hb3 := Lib.hid (Hb2.out.trans (hb3.mono hsz2))
    have hsz3 := Hb3.out.size
    obtain ⟨A3, c3, rfl, r3⟩ := o3.rw HN.out
    have R3w := Lib.hid r3
    have Hem := Lib.hid (own_emptyC w3 w3.heap.size (Nat.le_refl _))
    clear o3 r3 hb3 Hrm
    go_wp2_with (first | (at_builtin; refine wpList_append_hasN rfl (.tmp 19) (.tmp 20) _ rfl 38 chg_elem (by omega) Try.underlying22 rfl Hem.out rfl ((H.out.belowOf Hb3.out (Nat.le_refl _)).2.alloc hsz3 _) (chgCells_one _) (by simp only [maxLen]; omega) (by omega) (by simp) ?_; intro v4 w4 hown4 hg4 _; have Hb4 : Hid (Below w3.heap.size w3 w4) := Lib.hid (below_ownN (below_box _) Hem.out hg4 (by simp)); have Ho4 := Lib.hid (own_belowN hown4 (below_box (Obj.cells #[.string ⟨#[33]⟩, .string ⟨#[]⟩, .bool false] 38))); have hsz4 : w3.heap.size ≤ (w4.alloc (Obj.cells #[.string ⟨#[33]⟩, .string ⟨#[]⟩, .bool false] 38)).heap.size := Nat.le_trans Hb4.out.size (by simp only [World.size_alloc]; omega); clear hown4 hg4) | (at_builtin; refine wpList_append_hasN rfl (.tmp 21) (.tmp 23) _ rfl 38 chg_elem (by omega) Try.underlying22 rfl Ho4.out rfl (chg_lit w4 bang) (chgCells_one _) (by simp only [maxLen]; omega) (by omega) hsz4 ?_; intro v5 w5 hown5 hg5 _; obtain ⟨g5, c5, rfl, hB5, hc5, hcm5, ho5⟩ := keep5 Hl.out hown5))
    have Hb5 : Hid (Below w3.heap.size w3 w5) := Lib.hid (below_ownN (Hb4.out.alloc (by have := Hb4.out.size; omega) _) Ho4.out hg5 hsz4)
    obtain ⟨A5', c5', e5, r5⟩ := ho5.rw (N := n + 1) (by rw [List.length_append, Hl.out]; rfl)
    injection e5 with e5 _ e6
    subst e5
    subst e6
    have R5 := Lib.hid r5
    have R5n : Hid (Rw w5 (some ⟨g5, 0, none⟩) n c5 l) := Lib.hid ⟨by have := r5.1; omega, r5.2.1, by have h1 := r5.2.2.head (k := n) (by omega); rwa [List.take_append_of_le_length (by have := Hl.out; omega), List.take_of_length_le (by have := Hl.out; omega)] at h1⟩
    have Hmk := Lib.hid (Hmake.out (some ⟨g5, 0, none⟩) c5 w5 R5n.out)
    have R3_5 := Lib.hid (R3w.out.next Hb5.out)
    have Hb5w := Lib.hid (Hb3.out.trans (Hb5.out.mono hsz3))
    clear hown5 hg5 ho5 r5 Ho4 Hem R3w Hmake
    go_wp2_with fail
    refine Hmk.out.mono ?_
    rintro e w6 ⟨v6, rfl, o6, hb6⟩
    obtain ⟨A6, c6, rfl, r6⟩ := o6.rw HN.out
    have R6 := Lib.hid r6
    have R3_6 := Lib.hid (R3_5.out.next hb6)
    have R5_6 := Lib.hid (R5.out.next hb6)
    have R5n_6 := Lib.hid (R5n.out.next hb6)
    have Hb6 := Lib.hid (Hb5w.out.trans (hb6.mono (Nat.le_trans hsz3 Hb5.out.size)))
    have Hsame := Lib.hid (chSame_any (some ⟨g5, 0, none⟩) A n n c5 ca _ _ l l w6 R5n_6.out.2.2 (H.out.belowOf Hb6.out (Nat.le_refl _)) Hmx.out Hmx.out)
    rw [decide_eq_true rfl] at Hsame
    obtain ⟨a5, b5, e5, -, hb5', d0, -, -⟩ := R5_6.out.2.2.at_ (i := n) (by omega)
    injection e5 with e5
    subst e5
    rw [List.getElem?_append_right (by have := Hl.out; omega), Hl.out, Nat.sub_self] at hb5'
    injection hb5' with hb5'
    subst hb5'
    simp only [bang] at d0
    have d1 : w6.cell? ⟨g5, n * 3, none⟩ = some (.string ⟨#[33]⟩) := by rwa [add_zero_at] at d0
    have hn0 : (0 : Int) ≤ (n : Int) := by omega
    have hn1 : (n : Int) < ((n + 1 : Nat) : Int) := by omega
    clear o6 r6 hb6 Hmk R5 R5n R3_5
    clear d0
    go_wp2_with fail
    refine Hsame.out.mono ?_
    rintro e w7 ⟨rfl, hb7⟩
    have R6_7 := Lib.hid (R6.out.next hb7)
    have R3_7 := Lib.hid (R3_6.out.next hb7)
    have Hb7 := Lib.hid (Hb6.out.trans (hb7.mono Hb6.out.size))
    clear hb7 Hsame d1 hn0 hn1 R6 R3_6 R5_6 R5n_6
    go_wp2
    go_loopw [6, 7, 8, 9, 10, 11] (fun kv _ _ _ _ _ wr => ∃ k : Nat, k ≤ 2 ∧ kv = .int .i64 (k : Int) ∧ Below w7.heap.size w7 wr) (fun kv _ _ _ _ _ _ => 2 - (intOf kv).toNat)
    case atStart => exact ⟨0, by omega, rfl, Below.refl _ _⟩
    case round =>
      obtain ⟨k, hk, rfl, hb⟩ := hrel
      have Hb := Lib.hid hb
      have hszk := hb.size
      have RX := Lib.hid (R6_7.out.next hb)
      have RW := Lib.hid (R3_7.out.next hb)
      clear hb
      by_cases hlt : k < 2
      · have Hm1 := Lib.hid (mrg1_any RX.out RM.out SM.out N HN.out)
        go_wp2_with fail
        refine Hm1.out.mono ?_
        rintro e w8 ⟨v8, rfl, o8, hb8⟩
        have Hb8 := Lib.hid hb8
        have hsz8 := hb8.size
        have Hlt8 := Lib.hid (fun g hg => (o8.lt g hg).2)
        have Hsl := Lib.hid (slice_any A6 N c6 _ M ⟨#[]⟩ ⟨#[]⟩ w8 (RX.out.next hb8).2.2 (Nat.le_refl _) (by omega) SM.out.2)
        have O8 := Lib.hid o8
        clear o8 hb8 Hm1
        obtain ⟨Z, hZ⟩ : ∃ Z, sliceT (⟨#[]⟩ : ByteArray).data.toList (⟨#[]⟩ : ByteArray).data.toList M = Z := ⟨_, rfl⟩
        rw [hZ] at Hsl
        obtain ⟨nZ, hnZ⟩ : ∃ n, Z.length = n := ⟨_, rfl⟩
        have hz1000 : nZ ≤ 60 := by
          rw [← hnZ, ← hZ, sliceT_run RM.out]
          exact Nat.le_trans (slice_len _ _ _) (by have := HN.out; omega)
        clear hZ
        go_wp2_with fail
        refine Hsl.out.mono ?_
        rintro e w9 ⟨v9, rfl, o9, hb9⟩
        have o8' := O8.out.below hb9
        obtain ⟨Ay, cy, rfl, -, -, -⟩ := o8'.slice
        obtain ⟨Az, cz, rfl, -, -, -⟩ := o9.slice
        unfold OwnChs at o8' o9
        rw [HN.out] at o8' Hlt8 ⊢
        rw [hnZ] at o9 ⊢
        have O8' := Lib.hid o8'
        have O9 := Lib.hid o9
        have Hb9 := Lib.hid (Hb8.out.trans (hb9.mono hsz8))
        clear o8' o9 hb9 hnZ Hsl O8
        generalize wr = wk at *
        go_wp2
        go_loopw [10] (fun iv wx => ∃ (i : Nat) (xs : List Value), i ≤ N ∧ iv = .int .i64 (i : Int) ∧ wx.ownsRow (wk.heap.size + 1) 38 3 (.slice Ay N cy) N xs ∧ wx.ownsRow w8.heap.size 38 3 (.slice Az nZ cz) nZ (chgCells Z) ∧ Below wk.heap.size wk wx) (fun iv _ => N - (intOf iv).toNat)
        case atStart => exact ⟨0, _, by omega, rfl, O8'.out, O9.out, Hb9.out⟩
        case round =>
          obtain ⟨i, xs, hi, rfl, hy, hz, hb⟩ := hrel
          have Hy := Lib.hid hy
          have Hz := Lib.hid hz
          have Hbx := Lib.hid hb
          clear hy hz hb O8' O9 Hb9
          by_cases hiN : i < N
          · obtain ⟨g, rfl, hBg, hg9, ⟨u0, e0⟩, f0, hst, hke⟩ := own_store (i := i) (j := 0) Hy.out hiN (by omega) (.string ⟨#[33]⟩)
            rw [Nat.add_zero] at e0 f0 hst hke
            have Hst := Lib.hid hst
            have hg8 := Hlt8.out g rfl
            have Hzk := Lib.hid (own_keepN Hz.out fun q hq => hke q (by have := (Hz.out.lt q hq).1; omega))
            have Hbk := Lib.hid (Hbx.out.setCell (p := ⟨g, i * 3, none⟩) (by show wk.heap.size ≤ g; omega) (.string ⟨#[33]⟩))
            have hi0 : (0 : Int) ≤ (i : Int) := by omega
            have hi1 : (i : Int) < (N : Int) := by omega
            clear hst hke
            go_wp2
            go_roundw
            case rel => exact ⟨i + 1, _, by omega, by go_num, Hst.out, Hzk.out, Hbk.out⟩
            case measure => simp [intOf]; omega
          · obtain rfl : i = N := by omega
            generalize wr = wj at *
            go_wp2
            go_loopw [11] (fun iv wx => ∃ (i : Nat) (xs : List Value), i ≤ nZ ∧ iv = .int .i64 (i : Int) ∧ wx.ownsRow w8.heap.size 38 3 (.slice Az nZ cz) nZ xs ∧ Below wk.heap.size wk wx) (fun iv _ => nZ - (intOf iv).toNat)
            case atStart => exact ⟨0, _, by omega, rfl, Hz.out, Hbx.out⟩
            case round =>
              obtain ⟨j, xs, hj, rfl, hz, hb⟩ := hrel
              have Hz2 := Lib.hid hz
              have Hbx2 := Lib.hid hb
              clear hz hb
              by_cases hjN : j < nZ
              · obtain ⟨g, rfl, hBg, hg9, ⟨u0, e0⟩, f0, hst, -⟩ := own_store (i := j) (j := 1) Hz2.out hjN (by omega) (.string ⟨#[33]⟩)
                have Hst := Lib.hid hst
                have Hbk := Lib.hid (Hbx2.out.setCell (p := ⟨g, j * 3 + 1, none⟩) (by show wk.heap.size ≤ g; omega) (.string ⟨#[33]⟩))
                have hi0 : (0 : Int) ≤ (j : Int) := by omega
                have hi1 : (j : Int) < (nZ : Int) := by omega
                clear hst
                go_wp2
                go_roundw
                case rel => exact ⟨j + 1, _, by omega, by go_num, Hst.out, Hbk.out⟩
                case measure => simp [intOf]; omega
              · obtain rfl : j = nZ := by omega
                go_wp2
                go_roundw
                case rel => exact ⟨k + 1, by omega, by go_num, Hb.out.trans (Hbx2.out.mono hszk)⟩
                case measure => simp [intOf]; omega
      · obtain rfl : k = 2 := by omega
        have Hs2 := Lib.hid (chSame_any A6 A3 N N c6 c3 _ _ M M wr RX.out.2.2 RW.out.2.2 (by unfold maxLen; omega) (by unfold maxLen; omega))
        rw [decide_eq_true rfl] at Hs2
        have Hbw := Lib.hid (Hb7.out.trans (Hb.out.mono Hb7.out.size))
        go_wp2_with fail
        refine Hs2.out.mono ?_
        rintro e w8 ⟨rfl, hb8⟩
        have Hb8 := Lib.hid (Hbw.out.trans (hb8.mono Hbw.out.size))
        clear hb8
        go_wp2
        go_ret
        exact ⟨rfl, Hb8.out⟩

namespace lawRunKeeps
open Go.ChangeShapes Go.WideShapes Go.ChangeAt

theorem own : ownKnob Try.prog.godebug = none := by kernel_rfl
theorem kids : Kids Try.prog (· < Try.prog.types.size) := kids_rows (by kernel_rfl) (by kernel_rfl)
theorem full : ∀ t e, t < Try.prog.types.size → Try.prog.underlying t = some (.slice e) → 0 < Try.prog.cellsOf e := slices_full_of Try.prog (by kernel_rfl)

set_option maxRecDepth 100000 in
theorem lifted (os : Os) (started : os.Started) (H : Type) (enc : TypeId × Value → H) :
    ReturnsInHanded {} Try.checked os 5 .any (Rows.runKeepsSpec.pre6 enc Try.prog Try.f5 Rows.runKeepsRow.domain false) (Rows.runKeepsSpec.post enc Try.prog Try.f5 false true false false) := by
  refine returnsInHanded_of_change (C := Try.checked) own started (by kernel_rfl) Try.func5
    (ChangeSpec.witness6 (enc := enc) (C := Try.checked) false ⟨#[], #[.slice none 0 0], []⟩ 8 (by kernel_rfl) (by kernel_rfl) (by kernel_rfl) (by kernel_rfl)) ?_
  intro W base args ds gs before hval0 hW _ _
  have hval : ∀ (j : Nat) t v, Try.f5.params[j]? = some t → args[j]? = some v → Value.okWide Try.prog W .any base t v := hval0
  have hW' := hW
  obtain ⟨p, q, hA0, hV, rfl, _, _⟩ := hW
  obtain ⟨rfl, rfl⟩ := trodVars_none hV
  have hA : DataW.TrodAll enc Try.prog W 0 (fun _ => true) true Try.f5.params.toList args.toList ds p := hA0
  rw [Try.params5] at hA hval
  obtain ⟨v0, vs0, d0, ds0, p0, q0, hargs, rfl, rfl, h0, r0⟩ := trodAll_cons hA
  obtain ⟨rfl, rfl, rfl⟩ := trodAll_nil r0
  obtain rfl : args = #[v0] := by cases args; simp_all
  have hlt := hW'.lt
  obtain ⟨A0, n0, c0, l0, rfl, hnc0, hm0, hb0, hs0⟩ := open_changes Try.underlying22 Try.underlying38 (by kernel_rfl) ⟨rfl, rfl, rfl⟩ ⟨by kernel_rfl, by kernel_rfl, by kernel_rfl⟩ ⟨by kernel_rfl, by kernel_rfl, by kernel_rfl⟩ (hval 0 22 v0 rfl rfl) h0 (fun x hx => hlt x (by simp [hx]))
  refine (keeps_walk A0 n0 c0 l0 W hb0 hnc0 hm0 hs0).mono fun e W' ⟨he, hbel⟩ => ?_
  subst he
  exact ⟨_, rfl, law_post kids full (of_decide_eq_true (by kernel_rfl)) Try.underlying4 rfl rfl rfl hW' hbel⟩

theorem proved : Rows.RunKeepsSaid :=
  OpenClaim.holds_of_wide 5 Try.f5 rfl rfl rfl rfl rfl rfl rfl ⟨rfl, rfl, rfl, rfl, rfl⟩ rfl rfl rfl rfl rfl (by kernel_rfl) Try.func5 (by kernel_rfl)
    (of_decide_eq_true (by kernel_rfl)) (by unfold Func.isWrapper; first | (rw [if_pos (by decide +kernel)]; kernel_rfl) | (rw [if_neg (by decide +kernel)]; exact ⟨rfl, rfl⟩))
    (fun os started H enc _ => lifted os started H enc)
end lawRunKeeps

end Go.Proofs.Ytfmjjjfeooaeeaa
