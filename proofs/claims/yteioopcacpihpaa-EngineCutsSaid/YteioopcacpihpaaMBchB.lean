/- engine's put: what one change comes to, and what of an engine's memory turns by it. Condition: the engine is in memory. -/
import Derived.Test.YteioopcacpihpaaMBchA
import Derived.Test.YteioopcacpihpaaChgD
import Derived.Laws.IdiomCopy
import Derived.Laws.CopyRow
import Derived.Test.YteioopcacpihpaaRunA
import Derived.Deep.RegionLaw
import Derived.Lib.Overlaps
import Derived.Lib.AppendZerosOnto
import Derived.Laws.Externs
namespace Go.Proofs.Yteioopcacpihpaa

def liveB (c : Chg) : Bool := !c.g
theorem srt_live {l : List Chg} (h : Srt l) : Srt (liveL l) := h.sublist List.filter_sublist
theorem run_live {l : List Chg} (h : Run l) : Run (liveL l) := ⟨fun c hc => h.1 c (List.mem_filter.1 hc).1, srt_live h.2⟩
theorem live_mem {l : List Chg} {c : Chg} (h : c ∈ liveL l) : c ∈ l ∧ c.g = false := by
  obtain ⟨h1, h2⟩ := List.mem_filter.1 h
  exact ⟨h1, by simpa using h2⟩
theorem look_live (k : List UInt8) : ∀ {l : List Chg}, Srt l → look k (liveL l) = (look k l).filter liveB
  | [], _ => rfl
  | c :: l, h => by
    obtain ⟨h1, h2⟩ := List.pairwise_cons.1 h
    have ih := look_live k h2
    have hno : c.kb = k → look k l = none := fun e => look_none.2 fun d hd e2 => by
      have := h1 d hd
      rw [e2, e] at this
      exact lt_irr _ this
    unfold liveL at ih ⊢
    rw [List.filter_cons, look_cons]
    by_cases hg : c.g = true
    · rw [if_neg (by simp [hg]), ih]
      by_cases e : c.kb = k
      · rw [if_pos e, hno e]
        simp [Option.filter, liveB, hg]
      · rw [if_neg e]
    · have hg' : c.g = false := by simpa using hg
      rw [if_pos (by simp [hg']), look_cons, ih]
      by_cases e : c.kb = k
      · rw [if_pos e, if_pos e]
        simp [Option.filter, liveB, hg']
      · rw [if_neg e, if_neg e]
/-- the pairs that a row of runs comes to -/
def absL (Ls : List (List Chg)) : List Chg := liveL (mergeL Ls)
theorem srt_abs (Ls : List (List Chg)) : Srt (absL Ls) := srt_live (srt_merge Ls)
theorem run_abs (Ls : List (List Chg)) : Run (absL Ls) := run_live (run_merge Ls)
theorem look_abs {Ls : List (List Chg)} (h : ∀ r ∈ Ls, Run r) (k : List UInt8) : look k (absL Ls) = (mlook k Ls).filter liveB := by
  unfold absL
  rw [look_live k (srt_merge Ls), look_merge k h]
theorem abs_ext {Ls : List (List Chg)} (h : ∀ r ∈ Ls, Run r) {M : List Chg} (hM : Srt M) (he : ∀ k, look k M = (mlook k Ls).filter liveB) : M = absL Ls :=
  srt_ext hM (srt_abs Ls) fun k => by rw [he, look_abs h]
theorem abs_congr {Ls Ks : List (List Chg)} (h : ∀ r ∈ Ls, Run r) (h' : ∀ r ∈ Ks, Run r) (he : ∀ k, (mlook k Ls).filter liveB = (mlook k Ks).filter liveB) : absL Ls = absL Ks :=
  abs_ext h' (srt_abs Ls) fun k => by rw [look_abs h, he]
theorem abs_nil : absL [[]] = [] := rfl
theorem abs_one {l : List Chg} (h : Run l) (hl : ∀ c ∈ l, c.g = false) : absL [[], l] = l := by
  have hr : ∀ r ∈ [[], l], Run r := runs2 Run.nil h
  refine (abs_ext hr h.2 fun k => ?_).symm
  rw [mlook_cons, mlook_cons, mlook_nil, look_nil, Option.none_or, Option.or_none]
  cases e : look k l with
  | none => rfl
  | some c => simp [Option.filter, liveB, hl c (look_mem e)]
theorem abs_gone {Ls : List (List Chg)} {c : Chg} (h : c ∈ absL Ls) : c.g = false := (live_mem h).2
theorem abs_from {Ls : List (List Chg)} (h : ∀ r ∈ Ls, Run r) {c : Chg} (hc : c ∈ absL Ls) : ∃ r ∈ Ls, c ∈ r := merge_mem h (live_mem hc).1

/-! ### one change is done -/
def mapP (c : Chg) : List Chg → List Chg
  | [] => if c.g then [] else [c]
  | y :: l => if y.kb < c.kb then y :: mapP c l else if y.kb = c.kb then (if c.g then l else c :: l) else (if c.g then y :: l else c :: y :: l)
theorem mem_mapP {c x : Chg} : ∀ {l : List Chg}, x ∈ mapP c l → x = c ∨ x ∈ l
  | [], h => by
    unfold mapP at h
    split at h
    · simp at h
    · simp at h; exact .inl h
  | y :: l, h => by
    unfold mapP at h
    split at h
    · rcases List.mem_cons.1 h with h | h
      · exact .inr (by simp [h])
      · rcases mem_mapP h with h | h
        · exact .inl h
        · exact .inr (List.mem_cons_of_mem _ h)
    · split at h
      · split at h
        · exact .inr (List.mem_cons_of_mem _ h)
        · rcases List.mem_cons.1 h with h | h
          · exact .inl h
          · exact .inr (List.mem_cons_of_mem _ h)
      · split at h
        · exact .inr h
        · rcases List.mem_cons.1 h with h | h
          · exact .inl h
          · exact .inr h
theorem srt_mapP {c : Chg} : ∀ {l : List Chg}, Srt l → Srt (mapP c l)
  | [], _ => by unfold mapP; split <;> simp [Srt]
  | y :: l, h => by
    obtain ⟨h1, h2⟩ := List.pairwise_cons.1 h
    unfold mapP
    split
    · rename_i hlt
      refine List.pairwise_cons.2 ⟨fun x hx => ?_, srt_mapP h2⟩
      rcases mem_mapP hx with rfl | hx
      · exact hlt
      · exact h1 x hx
    · rename_i hn
      split
      · rename_i he
        split
        · exact h2
        · exact List.pairwise_cons.2 ⟨fun x hx => he ▸ h1 x hx, h2⟩
      · rename_i hne
        split
        · exact h
        · have hlt : c.kb < y.kb := by
            rcases lt_tri c.kb y.kb with h | h | h
            · exact h
            · exact absurd h.symm hne
            · exact absurd h hn
          refine List.pairwise_cons.2 ⟨fun x hx => ?_, h⟩
          rcases List.mem_cons.1 hx with rfl | hx
          · exact hlt
          · exact List.lt_trans hlt (h1 x hx)
theorem look_mapP (k : List UInt8) (c : Chg) : ∀ {l : List Chg}, Srt l → look k (mapP c l) = if c.kb = k then (if c.g then none else some c) else look k l
  | [], _ => by
    unfold mapP
    by_cases hg : c.g = true
    · simp [hg, look_nil]
    · simp [hg, look_cons, look_nil]
  | y :: l, h => by
    obtain ⟨h1, h2⟩ := List.pairwise_cons.1 h
    have ih := look_mapP k c h2
    have hno : ∀ q, (q = y.kb ∨ q < y.kb) → look q l = none := fun q hq => look_none.2 fun d hd e2 => by
      have h3 := h1 d hd
      rw [e2] at h3
      rcases hq with rfl | hq
      · exact lt_irr _ h3
      · exact lt_asymm' hq h3
    unfold mapP
    split
    · rename_i hlt
      rw [look_cons, look_cons, ih]
      by_cases hc : c.kb = k
      · have : ¬ y.kb = k := fun e => by rw [e, hc] at hlt; exact lt_irr _ hlt
        simp [hc, this]
      · simp [hc]
    · rename_i hn
      split
      · rename_i he
        by_cases hg : c.g = true
        · simp only [hg, if_true]
          rw [look_cons]
          by_cases hc : c.kb = k
          · rw [if_pos hc, hno k (.inl (by rw [← hc, he]))]
          · rw [if_neg hc, if_neg (fun e => hc (by rw [← he, e]))]
        · simp only [hg, Bool.false_eq_true, if_false]
          rw [look_cons, look_cons]
          by_cases hc : c.kb = k
          · simp [hc]
          · have : ¬ y.kb = k := fun e => hc (by rw [← he, e])
            simp [hc, this]
      · rename_i hne
        have hlt : c.kb < y.kb := by
          rcases lt_tri c.kb y.kb with h | h | h
          · exact h
          · exact absurd h.symm hne
          · exact absurd h hn
        by_cases hg : c.g = true
        · simp only [hg, if_true]
          by_cases hc : c.kb = k
          · rw [if_pos hc, look_cons, if_neg (fun e => hne (by rw [e, hc])), hno k (.inr (by rw [← hc]; exact hlt))]
          · rw [if_neg hc]
        · simp only [hg, Bool.false_eq_true, if_false]
          rw [look_cons, look_cons]
def one (b : Bool) : Nat := if b then 1 else 0
theorem len_mapP (c : Chg) : ∀ {l : List Chg}, Srt l → (mapP c l).length + one (look c.kb l).isSome = l.length + one (!c.g)
  | [], _ => by
    unfold mapP
    by_cases hg : c.g = true <;> simp [hg, look_nil, one]
  | y :: l, h => by
    obtain ⟨h1, h2⟩ := List.pairwise_cons.1 h
    have ih := len_mapP c h2
    unfold mapP
    rw [look_cons]
    split
    · rename_i hlt
      rw [if_neg (fun e => by rw [e] at hlt; exact lt_irr _ hlt)]
      simp only [List.length_cons]
      omega
    · rename_i hn
      split
      · rename_i he
        by_cases hg : c.g = true <;> simp [hg, one]
      · rename_i hne
        have hlt : c.kb < y.kb := by
          rcases lt_tri c.kb y.kb with h | h | h
          · exact h
          · exact absurd h.symm hne
          · exact absurd h hn
        have : look c.kb l = none := look_none.2 fun d hd e2 => by
          have h3 := h1 d hd
          rw [e2] at h3
          exact lt_asymm' hlt h3
        rw [this]
        by_cases hg : c.g = true <;> simp [hg, one]
theorem run_put {T : List Chg} (h : Run T) (c : Chg) : Run (putC (tidy c) T) := ⟨ok_put (tidy_ok c) h.1, srt_put h.2⟩
theorem tidy_live (c : Chg) : (some (tidy c)).filter liveB = if c.g then none else some c := by
  unfold tidy
  by_cases hg : c.g = true <;> simp [hg, Option.filter, liveB]
/-- a change put into the newest run is done to the pairs -/
theorem abs_put {T : List Chg} {R : List (List Chg)} (hT : Run T) (hR : ∀ r ∈ R, Run r) (c : Chg) : absL (putC (tidy c) T :: R) = mapP c (absL (T :: R)) := by
  have h1 : ∀ r ∈ T :: R, Run r := fun r hr => by
    rcases List.mem_cons.1 hr with rfl | hr
    · exact hT
    · exact hR r hr
  have h2 : ∀ r ∈ putC (tidy c) T :: R, Run r := fun r hr => by
    rcases List.mem_cons.1 hr with rfl | hr
    · exact run_put hT c
    · exact hR r hr
  refine (abs_ext h2 (srt_mapP (srt_abs _)) fun k => ?_).symm
  rw [look_mapP k c (srt_abs _), look_abs h1, mlook_cons, mlook_cons, look_put k _ hT.2, tidy_kb]
  by_cases hk : c.kb = k
  · rw [if_pos hk, if_pos hk, Option.some_or, tidy_live]
  · rw [if_neg hk, if_neg hk]
/-- what is told of a key: its newest change, or that it is gone -/
def newC (key : ByteArray) (Ls : List (List Chg)) : Chg := (mlook key.data.toList Ls).getD ⟨key, ⟨#[]⟩, true⟩
theorem newC_live {Ls : List (List Chg)} (h : ∀ r ∈ Ls, Run r) (key : ByteArray) : (look key.data.toList (absL Ls)).isSome = !(newC key Ls).g := by
  rw [look_abs h]
  unfold newC
  cases e : mlook key.data.toList Ls with
  | none => rfl
  | some c => cases hg : c.g <;> simp [Option.filter, liveB, hg]
theorem newC_val {Ls : List (List Chg)} (h : ∀ r ∈ Ls, Run r) (key : ByteArray) : (look key.data.toList (absL Ls) = none ∧ (newC key Ls).g = true ∧ (newC key Ls).v = ⟨#[]⟩) ∨ (look key.data.toList (absL Ls) = some (newC key Ls) ∧ (newC key Ls).g = false) := by
  rw [look_abs h]
  unfold newC
  cases e : mlook key.data.toList Ls with
  | none => exact .inl ⟨rfl, rfl, rfl⟩
  | some c =>
    obtain ⟨r, hr, h2⟩ := mlook_some e
    cases hg : c.g with
    | true => exact .inl ⟨by simp [Option.filter, liveB, hg], hg, (h r hr).1 c (look_mem h2) hg⟩
    | false => exact .inr ⟨by simp [Option.filter, liveB, hg], hg⟩

/-! ### runs are merged -/
theorem mlook_app (k : List UInt8) : ∀ (A B : List (List Chg)), mlook k (A ++ B) = (mlook k A).or (mlook k B)
  | [], B => by rw [List.nil_append, mlook_nil, Option.none_or]
  | r :: A, B => by rw [List.cons_append, mlook_cons, mlook_cons, mlook_app k A B, Option.or_assoc]
def aloneL (l : List Chg) : List (List Chg) := if l = [] then [] else [l]
theorem mlook_alone (k : List UInt8) (l : List Chg) : mlook k (aloneL l) = look k l := by
  unfold aloneL
  split
  · rename_i e; subst e; rfl
  · rw [mlook_cons, mlook_nil, Option.or_none]
theorem alone_mem {l r : List Chg} (h : r ∈ aloneL l) : r = l ∧ l ≠ [] := by
  unfold aloneL at h
  split at h
  · simp at h
  · rename_i e; simp at h; exact ⟨h, e⟩
theorem runs_nil_app {A B : List (List Chg)} (hA : ∀ r ∈ A, Run r) (hB : ∀ r ∈ B, Run r) : ∀ r ∈ [] :: (A ++ B), Run r := fun r hr => by
  rcases List.mem_cons.1 hr with rfl | hr
  · exact Run.nil
  · rcases List.mem_append.1 hr with hr | hr
    · exact hA r hr
    · exact hB r hr
theorem runs_alone {l : List Chg} (h : Run l) : ∀ r ∈ aloneL l, Run r := fun _ hr => (alone_mem hr).1 ▸ h
theorem abs_spill {A B : List (List Chg)} (hA : ∀ r ∈ A, Run r) (hB : ∀ r ∈ B, Run r) : absL ([] :: (aloneL (mergeL A) ++ B)) = absL (A ++ B) := by
  refine abs_congr (runs_nil_app (runs_alone (run_merge A)) hB) (fun r hr => ?_) fun k => ?_
  · rcases List.mem_append.1 hr with hr | hr
    · exact hA r hr
    · exact hB r hr
  · rw [mlook_cons, look_nil, Option.none_or, mlook_app, mlook_app, mlook_alone, look_merge k hA]
theorem filter_twice (o : Option Chg) : (o.filter liveB).filter liveB = o.filter liveB := by
  cases o with
  | none => rfl
  | some c => cases hg : liveB c <;> simp [Option.filter, hg]
theorem abs_all {A : List (List Chg)} (hA : ∀ r ∈ A, Run r) : absL ([] :: (aloneL (liveL (mergeL A)) ++ [])) = absL A := by
  refine abs_congr (runs_nil_app (runs_alone (run_live (run_merge A))) (by simp)) hA fun k => ?_
  rw [mlook_cons, look_nil, Option.none_or, mlook_app, mlook_alone, mlook_nil, Option.or_none, look_live k (srt_merge A), look_merge k hA, filter_twice]

/-! ### what a range has -/
theorem slice_nil (lo hi : List UInt8) : sliceL lo hi [] = [] := rfl
theorem mlook_slice (lo hi k : List UInt8) : ∀ Ls : List (List Chg), mlook k (Ls.map (sliceL lo hi)) = if inK lo hi k then mlook k Ls else none
  | [] => by simp [mlook_nil]
  | r :: Ls => by
    rw [List.map_cons, mlook_cons, mlook_cons, look_slice, mlook_slice lo hi k Ls]
    by_cases h : inK lo hi k = true <;> simp [h]
theorem abs_slice {Ls : List (List Chg)} (h : ∀ r ∈ Ls, Run r) (lo hi : List UInt8) : absL (Ls.map (sliceL lo hi)) = sliceL lo hi (absL Ls) := by
  have h2 : ∀ r ∈ Ls.map (sliceL lo hi), Run r := fun r hr => by
    obtain ⟨r0, h0, rfl⟩ := List.mem_map.1 hr
    exact run_slice (h r0 h0)
  refine (abs_ext h2 (run_slice (run_abs Ls)).2 fun k => ?_).symm
  rw [look_slice, look_abs h, mlook_slice]
  by_cases h3 : inK lo hi k = true <;> simp [h3, Option.filter]
theorem slice_all (l : List Chg) : sliceL [] [] l = l := by
  unfold sliceL
  rw [List.filter_eq_self]
  intro c _
  simp [inR]
end Go.Proofs.Yteioopcacpihpaa

namespace Go.Proofs.Yteioopcacpihpaa
open Go.RowKit
open Go.Lib (strCells compareBytes)

/-- what an engine's table and runs are to be: runs, few and short; H bounds how many changes are held -/
structure EngP (H : Nat) (lim pairs : Int) (T : List Chg) (Ls : List (List Chg)) : Prop where
  lim1 : 1 ≤ lim
  runs : ∀ r ∈ T :: Ls, Run r
  full : ∀ r ∈ Ls, r ≠ []
  num : pairs = ((absL (T :: Ls)).length : Int)
  held : T.length + sumL Ls ≤ H
  small : ∀ r ∈ T :: Ls, ∀ x ∈ r, x.k.size ≤ 4000 ∧ x.v.size ≤ 4000
theorem sumL_cons (l : List Chg) (L : List (List Chg)) : sumL (l :: L) = l.length + sumL L := by simp [sumL]
theorem sumL_app (A B : List (List Chg)) : sumL (A ++ B) = sumL A + sumL B := by simp [sumL]
theorem sumL_ge : ∀ {L : List (List Chg)}, (∀ r ∈ L, r ≠ []) → L.length ≤ sumL L
  | [], _ => by simp [sumL]
  | l :: L, h => by
    have h1 := sumL_ge (L := L) fun r hr => h r (List.mem_cons_of_mem _ hr)
    have h2 := List.length_pos_iff.2 (h l (by simp))
    rw [sumL_cons, List.length_cons]
    omega
theorem sumL_mem {l : List Chg} : ∀ {L : List (List Chg)}, l ∈ L → l.length ≤ sumL L
  | [], h => by simp at h
  | r :: L, h => by
    rw [sumL_cons]
    rcases List.mem_cons.1 h with rfl | h
    · omega
    · have := sumL_mem h
      omega
theorem EngP.count {H : Nat} {lim pairs : Int} {T : List Chg} {Ls : List (List Chg)} (h : EngP H lim pairs T Ls) : Ls.length ≤ H := by
  have := sumL_ge h.full
  have := h.held
  omega
theorem EngP.len {H : Nat} {lim pairs : Int} {T : List Chg} {Ls : List (List Chg)} (h : EngP H lim pairs T Ls) {r : List Chg} (hr : r ∈ T :: Ls) : r.length ≤ H := by
  have h1 := sumL_mem hr
  rw [sumL_cons] at h1
  have := h.held
  omega
theorem EngP.total {H : Nat} {lim pairs : Int} {T : List Chg} {Ls : List (List Chg)} (h : EngP H lim pairs T Ls) : sumL (T :: Ls) ≤ H := by
  rw [sumL_cons]
  exact h.held
/-- the parts as rows of changes -/
theorem parts_crs {w w2 : World} {e N : Nat} {lim pairs : Int} {tv rv v : Value} {T : List Chg} {rs : Crs} (h : EngAt w e lim pairs tv rv T rs) (hb : Below w.heap.size w w2)
    (ho : w2.ownsRow w.heap.size 22 1 v N (tv :: crCells rs)) : ∃ A c, v = .slice A N c ∧ N ≤ c ∧ c ≤ maxLen ∧ HasCrs w2 w2.heap.size A N ((tv, T) :: rs) := by
  obtain ⟨A, c, e1, h1, h2, h3⟩ := own_slice ho
  have h' := h.below hb
  refine ⟨A, c, e1, h1, h2, h3, fun r hr => ?_⟩
  rcases List.mem_cons.1 hr with rfl | hr
  · obtain ⟨At, ct, e2, g1, g2, g3⟩ := h'.tab.slice
    exact ⟨At, _, ct, e2, g1, g2, g3⟩
  · obtain ⟨A', c', -, -, -, h4⟩ := h'.run
    exact h4.2 r hr
theorem place_look {l : List Chg} {key : List UInt8} {i : Nat} {f : Bool} (hr : Run l) (h : PlaceIs l key i f) : (f = true → ∃ c, l[i]? = some c ∧ look key l = some c) ∧ (f = false → look key l = none) := by
  obtain ⟨-, h1, h2, h3, h4⟩ := h
  refine ⟨fun e => ?_, fun e => look_gap hr h1 h2 (h4 e)⟩
  obtain ⟨c, hc, hk⟩ := h3 e
  exact ⟨c, hc, by rw [← hk]; exact look_of hr.2 (List.mem_of_getElem? hc)⟩
theorem mlook_take {k : List UInt8} {Ls : List (List Chg)} {i : Nat} {l : List Chg} (h : Ls[i]? = some l) : mlook k (Ls.take (i + 1)) = (mlook k (Ls.take i)).or (look k l) := by
  rw [List.take_add_one, h]
  exact mlook_snoc _ _ _
theorem mlook_found {k : List UInt8} {Ls : List (List Chg)} {i : Nat} {l : List Chg} {c : Chg} (h0 : mlook k (Ls.take i) = none) (h : Ls[i]? = some l) (hc : look k l = some c) : mlook k Ls = some c := by
  have h1 := mlook_take (k := k) h
  rw [h0, hc] at h1
  rw [← List.take_append_drop (i + 1) Ls, mlook_app, h1]
  rfl
set_option maxRecDepth 100000 in
set_option maxHeartbeats 3200000 in
theorem newest_any {w : World} {e H : Nat} {lim pairs : Int} {tv rv : Value} {T : List Chg} {rs : Crs} (h : EngAt w e lim pairs tv rv T rs) (hp : EngP H lim pairs T (crLists rs)) (hH : H ≤ 9000) (key : ByteArray) :
    Calls Try.prog 58 #[.pointer (some ⟨e, 0, none⟩), .string key] w fun e w' => e = .returned (cagg (newC key (T :: crLists rs))) ∧ Below w.heap.size w w' := by
  have hcount := hp.count
  rw [crLists_len] at hcount
  have hw1 : Below w.heap.size w (w.alloc (.cells #[.string ⟨#[]⟩, .string ⟨#[]⟩, .bool false] 38)) := below_box _
  have H1 := Lib.hid (h.below hw1)
  have Hp := Lib.hid (parts_any (h.below hw1) _ rfl (by omega))
  have Hrun := Lib.hid hp.runs
  have Hlen := Lib.hid (fun r (hr : r ∈ crLists ((tv, T) :: rs)) => hp.len (r := r) hr)
  have HT : Hid (crLists ((tv, T) :: rs) = T :: crLists rs) := Lib.hid rfl
  obtain ⟨Ls, hLs⟩ : ∃ Ls, crLists ((tv, T) :: rs) = Ls := ⟨_, rfl⟩
  rw [hLs] at HT Hlen
  rw [← HT.out] at Hrun ⊢
  have HL := Lib.hid hLs
  obtain ⟨R, hR⟩ : ∃ R, newC key Ls = R := ⟨_, rfl⟩
  rw [hR]
  have HR := Lib.hid hR
  clear h hp hw1 hR
  go_enter Try.func58, Try.ntmps58
  go_wp2_with fail
  refine Hp.out.mono ?_
  rintro e' w2 ⟨v, rfl, ho, hb⟩
  obtain ⟨A, c, rfl, -, -, hx⟩ := parts_crs H1.out hb ho
  obtain ⟨N, hN⟩ : ∃ N, rs.length + 1 = N := ⟨_, rfl⟩
  rw [hN] at hx ⊢
  have hb2 : Below (w.heap.size + 1) (w.alloc (.cells #[.string ⟨#[]⟩, .string ⟨#[]⟩, .bool false] 38)) w2 := by simpa using hb
  have Hb := Lib.hid hb2
  have HX := Lib.hid hx
  have HLn : Hid (Ls.length = N) := Lib.hid (by rw [← hLs, crLists_len, List.length_cons]; exact hN)
  have hNN : N ≤ 9001 := by omega
  clear hb hb2 hx ho Hp H1 hN hLs
  go_wp2
  go_loopw [6, 7, 8, 12] (fun _ _ _ iv wr => ∃ k : Nat, k ≤ N ∧ iv = .int .i64 (k : Int) ∧ Hid (mlook key.data.toList (Ls.take k) = none) ∧ Below w2.heap.size w2 wr) (fun _ _ _ iv _ => N - (intOf iv).toNat)
  case atStart => exact ⟨0, by omega, rfl, Lib.hid rfl, Below.refl _ _⟩
  case round =>
    obtain ⟨k, hk, rfl, Hno, hb⟩ := hrel
    have Hbr := Lib.hid hb
    have hszr := hb.size
    have hsz2 : w.heap.size + 1 ≤ w2.heap.size := by have := Hb.out.size; simpa using this
    have Hbw := Lib.hid (Hb.out.trans (hb.mono hsz2))
    obtain ⟨q0, q1, q2, f0, f1, f2⟩ := box_at Hbw.out rfl
    clear hb
    by_cases hlt : k < N
    · obtain ⟨a, A1, m1, c1, l, rfl, hab, hg, h1, h2, h3, d0, -⟩ := (HX.out.belowOf Hbr.out (Nat.le_refl _)).at_ hlt
      rw [HL.out] at hg
      have Hg := Lib.hid hg
      have hlr := Hrun.out l (List.mem_of_getElem? hg)
      have Hlr := Lib.hid hlr
      have H3 := Lib.hid h3
      have hml : m1 ≤ 9000 := by have h5 := Hlen.out l (List.mem_of_getElem? hg); have := h3.1; omega
      have Hpl := Lib.hid (place_any A1 m1 c1 w2.heap.size l key wr h3 hszr (by omega) hlr)
      clear hg hlr h3 h1 h2
      go_wp2_with fail
      refine Hpl.out.mono ?_
      rintro e' w3 ⟨i, f, rfl, hb3, hpi⟩
      have Hpi := Lib.hid (place_look Hlr.out hpi)
      have him := hpi.1
      have Hb3 := Lib.hid (Hbr.out.trans (hb3.mono hszr))
      have Hbw3 := Lib.hid (Hbw.out.trans (hb3.mono (by omega)))
      obtain ⟨q0, q1, q2, f0, f1, f2⟩ := box_at Hbw3.out rfl
      cases f with
      | true =>
        obtain ⟨x, hx, hlk⟩ := Hpi.out.1 rfl
        have hil := (List.getElem?_eq_some_iff.1 hx).1
        obtain ⟨a1, y, rfl, hab1, hy, c0, c2, c3⟩ := (H3.out.belowOf hb3 hszr).at_ (i := i) (by have := H3.out.1; omega)
        rw [hx] at hy
        injection hy with hy
        subst hy
        have HE : Hid (R = x) := Lib.hid (by rw [← HR.out]; unfold newC; rw [mlook_found Hno.out Hg.out hlk]; rfl)
        obtain ⟨xk, xv, xg⟩ := x
        simp only at c0 c2 c3
        have hi0 : (0 : Int) ≤ (i : Int) := by omega
        have hi1 : (i : Int) < (m1 : Int) := by have := H3.out.1; omega
        have hp := box_store (x' := .string xk) (y' := .string xv) (z' := .bool xg) q0 q1 q2
        have HbW : Hid (Below w.heap.size w (((w3.setCell ⟨w.heap.size, 0, none⟩ (.string xk)).setCell ⟨w.heap.size, 1, none⟩ (.string xv)).setCell ⟨w.heap.size, 2, none⟩ (.bool xg))) := Lib.hid ((((below_in Hbw3.out (Nat.le_refl _)).setCell (Nat.le_refl _) _).setCell (Nat.le_refl _) _).setCell (Nat.le_refl _) _)
        obtain ⟨W3, hW3⟩ : ∃ W3, ((w3.setCell ⟨w.heap.size, 0, none⟩ (.string xk)).setCell ⟨w.heap.size, 1, none⟩ (.string xv)).setCell ⟨w.heap.size, 2, none⟩ (.bool xg) = W3 := ⟨_, rfl⟩
        rw [hW3] at hp HbW
        obtain ⟨p0, p1, p2⟩ := hp
        clear hb3 hpi hx hlk
        go_wp2
        refine bodyPost_ret (v := .agg #[.string xk, .string xv, .bool xg]) ?_ rfl ⟨by rw [HE.out]; rfl, HbW.out⟩
        simp [results, Try.results58, go_sem, p0, p1, p2]
      | false =>
        have Hn1 : Hid (mlook key.data.toList (Ls.take (k + 1)) = none) := Lib.hid (by rw [mlook_take Hg.out, Hno.out, Hpi.out.2 rfl]; rfl)
        clear hb3 hpi
        go_wp2
        go_roundw
        case rel => exact ⟨k + 1, by omega, by go_num, Hn1, Hb3.out⟩
        case measure => simp [intOf]; omega
    · obtain rfl : k = N := by omega
      have HE : Hid (R = ⟨key, ⟨#[]⟩, true⟩) := Lib.hid (by
        rw [← HR.out]
        have h1 := Hno.out
        rw [List.take_of_length_le (by have := HLn.out; omega)] at h1
        unfold newC
        rw [h1]
        rfl)
      have hp := box_store (x' := .string key) (y' := .string ⟨#[]⟩) (z' := .bool true) q0 q1 q2
      have HbW : Hid (Below w.heap.size w (((wr.setCell ⟨w.heap.size, 0, none⟩ (.string key)).setCell ⟨w.heap.size, 1, none⟩ (.string ⟨#[]⟩)).setCell ⟨w.heap.size, 2, none⟩ (.bool true))) := Lib.hid ((((below_in Hbw.out (Nat.le_refl _)).setCell (Nat.le_refl _) _).setCell (Nat.le_refl _) _).setCell (Nat.le_refl _) _)
      obtain ⟨W3, hW3⟩ : ∃ W3, ((wr.setCell ⟨w.heap.size, 0, none⟩ (.string key)).setCell ⟨w.heap.size, 1, none⟩ (.string ⟨#[]⟩)).setCell ⟨w.heap.size, 2, none⟩ (.bool true) = W3 := ⟨_, rfl⟩
      rw [hW3] at hp HbW
      obtain ⟨p0, p1, p2⟩ := hp
      go_wp2
      refine bodyPost_ret (v := .agg #[.string key, .string ⟨#[]⟩, .bool true]) ?_ rfl ⟨by rw [HE.out]; rfl, HbW.out⟩
      simp [results, Try.results58, go_sem, p0, p1, p2]
end Go.Proofs.Yteioopcacpihpaa

namespace Go.Proofs.Yteioopcacpihpaa
open Go.RowKit
open Go.Lib (strCells compareBytes)

theorem own_emptyC (w : World) (B : Nat) (hB : B ≤ w.heap.size) : (w.alloc (.cells #[] 38)).ownsRow B 38 3 (.slice (some ⟨w.heap.size, 0, none⟩) 0 0) 0 [] :=
  ⟨rfl, .inr ⟨w.heap.size, 0, #[], rfl, hB, heap_alloc_new w _, Nat.le_refl _, by simp [maxLen], rfl, rfl⟩⟩
set_option maxRecDepth 100000 in
/-- slices.Clone: a row of the call's own that holds what the row holds -/
theorem slicesClone_any (A : Option Addr) (n c C : Nat) (l : List Chg) (w : World) (h : HasChs w C A n l) (hn : n ≤ 1000000) (hC : C ≤ w.heap.size) :
    Calls Try.prog 45 #[.slice A n c] w (GivesC w.heap.size l w) := by
  have H := Lib.hid h
  have hl := h.1
  cases A with
  | none =>
    have hl0 : l = [] := by
      obtain ⟨h1, h2⟩ := h
      rcases Nat.eq_zero_or_pos n with h0 | h0
      · exact List.eq_nil_of_length_eq_zero (by omega)
      · obtain ⟨a, e, -⟩ := h2.all (by omega); cases e
    subst hl0
    have q := Lib.run_eql_slice_nil (P := Try.prog) w 22 38 none n c 0 0 Try.underlying22
    clear h hl
    go_enter Try.func45, Try.ntmps45
    go_wp2
    go_ret
    exact ⟨_, rfl, OwnChs.nil _ _, Below.refl _ _⟩
  | some a =>
    have q := Lib.run_eql_slice_nil (P := Try.prog) w 22 38 (some a) n c 0 0 Try.underlying22
    have Hl := Lib.hid hl
    clear h hl
    go_enter Try.func45, Try.ntmps45
    go_wp2_with (at_builtin; refine wpList_append_hasN rfl (.tmp 5) (.tmp 6) _ rfl 38 chg_elem (by omega) Try.underlying22 rfl (own_emptyC w w.heap.size (Nat.le_refl _)) rfl (H.out.2.alloc hC _) (chgCells_one _) (by simp only [maxLen]; omega) (by omega) (by simp) ?_; intro v1 w1 hown1 hg1 hz1; have Hb1 : Hid (Below w.heap.size w w1) := Lib.hid (below_ownN (below_box _) (own_emptyC w w.heap.size (Nat.le_refl _)) hg1 (by simp)); clear hg1 hz1)
    go_ret
    exact ⟨_, rfl, by unfold OwnChs; rw [Hl.out]; simpa using hown1, Hb1.out⟩
end Go.Proofs.Yteioopcacpihpaa

namespace Go.Proofs.Yteioopcacpihpaa
open Go.RowKit
open Go.Lib (strCells compareBytes)

theorem grownBy_trans2 {w w1 w2 : World} {g : Option Nat} (h : w.grownBy w1 g) (k : w1.grownBy w2 g) : w.grownBy w2 g :=
  ⟨k.os.trans h.os, k.tape.trans h.tape, k.output.trans h.output, Nat.le_trans h.size k.size, fun i hi hne => (k.block i (Nat.lt_of_lt_of_le hi h.size) hne).trans (h.block i hi hne)⟩
theorem setCells_ownN {B g n c size : Nat} {e : TypeId} : ∀ (cs : List Value) (o : Nat) (w : World) (xs : List Value), w.ownsRow B e size (.slice (some ⟨g, 0, none⟩) n c) n xs → o + cs.length ≤ n * size →
    (w.setCells g o cs).ownsRow B e size (.slice (some ⟨g, 0, none⟩) n c) n (xs.take o ++ (cs ++ xs.drop (o + cs.length))) ∧ w.grownBy (w.setCells g o cs) (some g)
  | [], o, w, xs, h, _ => by
    refine ⟨?_, World.grownBy.refl _ _⟩
    simpa [World.setCells] using h
  | v :: r, o, w, xs, h, hl => by
    rw [List.length_cons] at hl
    have hxl : xs.length = n * size := h.1
    obtain ⟨h1, h2⟩ := h.stored o v
    obtain ⟨h3, h4⟩ := setCells_ownN r (o + 1) _ _ h1 (by omega)
    refine ⟨?_, grownBy_trans2 h2 h4⟩
    have e1 : (xs.set o v).take (o + 1) = xs.take o ++ [v] := by
      rw [List.take_succ_eq_append_getElem (by simp; omega)]
      simp [List.take_set_of_le]
    have e2 : (xs.set o v).drop (o + 1 + r.length) = xs.drop (o + (v :: r).length) := by
      rw [List.drop_set_of_lt (by omega), List.length_cons, show o + 1 + r.length = o + (r.length + 1) from by omega]
    rw [e1, e2, List.append_assoc] at h3
    exact h3
section
variable {P : Program} {w : World}
theorem run_copy_cellsN (w : World) (dT sT ty elem : TypeId) (size b o dLen dCap : Nat) (a : Addr) (sLen sCap : Nat) (cs : List Value)
    (hu : P.underlying dT = some (.slice elem)) (hs : (P.info? elem).map (·.size) = some size) (hn : cs.length = Nat.min sLen dLen * size)
    (hsrc : ∀ j v, cs[j]? = some v → w.cell? (a.add j) = some v) (hc : ∀ j, j < cs.length → (w.cell? ⟨b, o + j, none⟩).isSome = true) (hf : ∀ j, j < cs.length → w.frozen? ⟨b, o + j, none⟩ = false) (h1 : ∀ v ∈ cs, v.oneCell' = true) :
    (Builtin.copy_ #[dT, sT] ty #[.slice (some ⟨b, o, none⟩) dLen dCap, .slice (some a) sLen sCap]).run P w = .ok (goInt ((Nat.min sLen dLen : Nat) : Int)) (w.setCells b o cs) := by
  have hl := run_loadCells_list (P := P) w a cs hsrc
  have hst := run_storeCells_cells (P := P) b o cs 0 w (by simpa using hc) (by simpa using hf) h1
  cases hq : P.info? elem with
  | none => simp [hq] at hs
  | some i =>
    have hi : i.size = size := by simpa [hq] using hs
    rw [hn] at hl
    simp [Builtin.copy_, run_underlying hu, Builtin.lenOf, Builtin.firstCells, sizeOf, typeInfo, hq, hi, hl, hst]
/-- elements of a row in memory over those of a row of the call's own -/
theorem run_copy_ownN {t ty e : TypeId} {size : Nat} (ht : P.underlying t = some (.slice e)) (hs : (P.info? e).map (·.size) = some size) (hs0 : 0 < size) {B g o n c : Nat} {xs : List Value} (hown : w.ownsRow B e size (.slice (some ⟨g, 0, none⟩) n c) n xs)
    {dl : Nat} (dc : Nat) {C m : Nat} {A : Option Addr} {ys : List Value} (sc : Nat) (hdl : o + dl ≤ n) (hr : Has w C A (m * size) ys) (hm : 0 < min m dl) (h1 : ∀ u ∈ ys.take (dl * size), u.oneCell' = true) :
    ∃ w', (Builtin.copy_ #[t, t] ty #[.slice (some ⟨g, o * size, none⟩) dl dc, .slice A m sc]).run P w = .ok (goInt ((min m dl : Nat) : Int)) w' ∧
      w'.ownsRow B e size (.slice (some ⟨g, 0, none⟩) n c) n (xs.take (o * size) ++ (ys.take (dl * size) ++ xs.drop ((o + min m dl) * size))) ∧ w.grownBy w' (some g) := by
  have hyl : (ys.take (dl * size)).length = min m dl * size := by rw [List.length_take, hr.1, Nat.min_comm, Nat.mul_min_mul_right]
  have hxl : xs.length = n * size := hown.1
  have hom : o * size + min m dl * size ≤ n * size := by rw [← Nat.add_mul]; exact Nat.mul_le_mul_right size (by omega)
  obtain ⟨a, rfl, _, hc⟩ := hr.all (Nat.mul_pos (by omega) hs0)
  obtain ⟨h3, h4⟩ := setCells_ownN (ys.take (dl * size)) (o * size) w xs hown (by omega)
  refine ⟨_, ?_, by rw [hyl, ← Nat.add_mul] at h3; exact h3, h4⟩
  exact run_copy_cellsN (P := P) w t t ty e size g (o * size) dl dc a m sc (ys.take (dl * size)) ht hs hyl (fun j v hv => hc j v (by
      rw [List.getElem?_take] at hv
      split at hv
      · exact hv
      · cases hv)) (fun j hj => by
      rw [hown.cellAt (o * size + j) (by omega), List.getElem?_eq_getElem (by omega)]
      rfl) (fun j _ => hown.frozenAt _) h1
theorem wpList_run_copy {ops : Array Oper} {rest : List Oper} {o : Oper} {a : Act} {Q : Exit → Act → World → Prop} (hgd : o.guard = none) (d s : Operand) (t t' : TypeId)
    (ho : o.op = .call { callee := .builtin .copy, args := #[d, s], argTypes := #[t, t'] }) {v u v' : Value} {w' : World} (hd : a.eval d = v) (hs : a.eval s = u)
    (hr : (Builtin.copy_ #[t, t'] o.type #[v, u]).run P w = .ok v' w') (h : wpList P ops Q rest (a.put o.dst v') w') : wpList P ops Q (o :: rest) a w := by
  refine wpList_plain hgd fun K hK => ?_
  unfold Oper.wp execOp
  simp only [ho, resolve, invoke, builtin, Sem.run_bind, Sem.run_pure, Result.andThen_ok, List.map_toArray, List.map_cons, List.map_nil, hd, hs, hr]
  exact hK _ _ h
theorem step_run_copy {ops : Array Oper} {o : Oper} {a : Act} {K : Act → World → Prop} {Q : Exit → Act → World → Prop} {E : Prop} (hgd : o.guard = none) (d s : Operand) (t t' : TypeId)
    (ho : o.op = .call { callee := .builtin .copy, args := #[d, s], argTypes := #[t, t'] }) {v u v' : Value} {w' : World} (hd : a.eval d = v) (hs : a.eval s = u)
    (hr : (Builtin.copy_ #[t, t'] o.type #[v, u]).run P w = .ok v' w') (h : K (a.put o.dst v') w') : if Region.wanted o (yielded ops a.tmps) = true then Oper.wp P o a w K Q else E := by
  have hw : Region.wanted o (yielded ops a.tmps) = true := by simp [Region.wanted, hgd]
  rw [if_pos hw]
  unfold Oper.wp execOp
  simp only [ho, resolve, invoke, builtin, Sem.run_bind, Sem.run_pure, Result.andThen_ok, List.map_toArray, List.map_cons, List.map_nil, hd, hs, hr]
  exact h
end
/-- a row made longer within its capacity -/
theorem own_longer {w : World} {B n n' c size : Nat} {e : TypeId} {g : Nat} {xs : List Value} (h : w.ownsRow B e size (.slice (some ⟨g, 0, none⟩) n c) n xs) (hn : n ≤ n') (hc : n' ≤ c) :
    ∃ sp, sp.length = (n' - n) * size ∧ w.ownsRow B e size (.slice (some ⟨g, 0, none⟩) n' c) n' (xs ++ sp) := by
  rcases h.2 with ⟨hv, -⟩ | ⟨g', cap, cur, hv, hB, hg, h1, h2, h3, h4⟩
  · cases hv
  · injection hv with e1 _ e3
    injection e1 with e1
    injection e1 with e1
    subst e1
    subst e3
    have hle : n * size ≤ n' * size := Nat.mul_le_mul_right size hn
    have hle2 : n' * size ≤ c * size := Nat.mul_le_mul_right size hc
    have e : (cur.toList.take (n' * size)) = xs ++ (cur.toList.take (n' * size)).drop (n * size) := by
      rw [← h4]
      have := List.take_append_drop (n * size) (cur.toList.take (n' * size))
      rw [List.take_take, Nat.min_eq_left hle] at this
      exact this.symm
    have hl : (cur.toList.take (n' * size)).length = n' * size := by rw [List.length_take, Array.length_toList, h3]; omega
    refine ⟨(cur.toList.take (n' * size)).drop (n * size), by rw [List.length_drop, hl, Nat.sub_mul], ⟨by rw [← e]; exact hl, .inr ⟨g, c, cur, rfl, hB, hg, hc, h2, h3, e⟩⟩⟩
/-- .. and shorter -/
theorem own_shorter {w : World} {B n n' c size : Nat} {e : TypeId} {A : Option Addr} {xs : List Value} (h : w.ownsRow B e size (.slice A n c) n xs) (hn : n' ≤ n) : w.ownsRow B e size (.slice A n' c) n' (xs.take (n' * size)) := by
  have hle : n' * size ≤ n * size := Nat.mul_le_mul_right size hn
  refine ⟨by rw [List.length_take, h.1]; omega, ?_⟩
  rcases h.2 with ⟨hv, h0⟩ | ⟨g', cap, cur, hv, hB, hg, h1, h2, h3, h4⟩
  · injection hv with e1 _ e3
    subst e1
    subst e3
    have : n' = 0 := by omega
    subst this
    exact .inl ⟨rfl, rfl⟩
  · injection hv with e1 _ e3
    subst e1
    subst e3
    exact .inr ⟨g', c, cur, rfl, hB, hg, by omega, h2, h3, by rw [← h4, List.take_take, Nat.min_eq_left hle]⟩
theorem chg_size : (Try.prog.info? 38).map (·.size) = some 3 := by kernel_rfl
end Go.Proofs.Yteioopcacpihpaa

namespace Go.Proofs.Yteioopcacpihpaa
open Go.RowKit
open Go.Lib (strCells compareBytes)

theorem goneL_any (c : Chg) (w : World) : Calls Try.prog 105 #[cagg c] w fun e w' => e = .returned (.bool c.g) ∧ Below w.heap.size w w' := by
  obtain ⟨ck, cv, cg⟩ := c
  unfold cagg
  go_enter Try.func105, Try.ntmps105
  go_wp2
  go_ret
  exact ⟨rfl, below_box _⟩
/-- the place of the first change that is gone; -1, if none is -/
def GoneAt (l : List Chg) (w : World) (e : Ending) (w' : World) : Prop :=
  Below w.heap.size w w' ∧ ((e = .returned (.int .i64 (-1)) ∧ ∀ c ∈ l, c.g = false) ∨ ∃ (i : Nat) (c : Chg), e = .returned (.int .i64 (i : Int)) ∧ l[i]? = some c ∧ c.g = true ∧ ∀ c ∈ l.take i, c.g = false)
set_option maxRecDepth 100000 in
set_option maxHeartbeats 1600000 in
theorem indexGone_any (A : Option Addr) (n c C : Nat) (l : List Chg) (w : World) (h : HasChs w C A n l) (hC : C ≤ w.heap.size) (hn : n ≤ 1000000) :
    Calls Try.prog 92 #[.slice A n c, .func (.func 105) #[] #[]] w (GoneAt l w) := by
  have H := Lib.hid h
  have Hl := Lib.hid h.1
  have Hc := Lib.hid goneL_any
  unfold cagg at Hc
  clear h
  go_enter Try.func92, Try.ntmps92
  go_wp2
  go_loopw [5, 8] (fun _ iv wr => ∃ k : Nat, k ≤ n ∧ iv = .int .i64 (k : Int) ∧ Hid (∀ c ∈ l.take k, c.g = false) ∧ Below w.heap.size w wr) (fun _ iv _ => n - (intOf iv).toNat)
  case atStart => exact ⟨0, by omega, rfl, Lib.hid (by simp), Below.refl _ _⟩
  case round =>
    obtain ⟨k, hk, rfl, Hp, hb⟩ := hrel
    have Hb := Lib.hid hb
    have hsz := hb.size
    clear hb
    by_cases hlt : k < n
    · obtain ⟨a, y, rfl, hab, hy, c0, c1, c2⟩ := (H.out.belowOf Hb.out hC).at_ hlt
      have Hy := Lib.hid hy
      have hk0 : (0 : Int) ≤ (k : Int) := by omega
      have hk1 : (k : Int) < (n : Int) := by omega
      obtain ⟨yk, yv, yg⟩ := y
      have Hc1 := Lib.hid (fun wx => Hc.out ⟨yk, yv, yg⟩ wx)
      simp only at c0 c1 c2 Hc1
      clear hy
      cases yg with
      | false =>
        have Hp1 : Hid (∀ c ∈ l.take (k + 1), c.g = false) := Lib.hid (by
          rw [List.take_add_one, Hy.out]
          intro x hx
          rcases List.mem_append.1 hx with hx | hx
          · exact Hp.out x hx
          · simp at hx; subst hx; rfl)
        go_wp2_with fail
        refine (Hc1.out _).mono ?_
        rintro e w2 ⟨rfl, hb2⟩
        have Hb2 := Lib.hid (Hb.out.trans (hb2.mono hsz))
        clear hb2
        go_wp2
        go_roundw
        case rel => exact ⟨k + 1, by omega, by go_num, Hp1, Hb2.out⟩
        case measure => simp [intOf]; omega
      | true =>
        go_wp2_with fail
        refine (Hc1.out _).mono ?_
        rintro e w2 ⟨rfl, hb2⟩
        have Hb2 := Lib.hid (Hb.out.trans (hb2.mono hsz))
        clear hb2
        go_wp2
        go_ret
        exact ⟨Hb2.out, .inr ⟨k, _, rfl, Hy.out, rfl, Hp.out⟩⟩
    · have E : Hid (∀ c ∈ l, c.g = false) := Lib.hid (by have h1 := Hp.out; rwa [List.take_of_length_le (by have := Hl.out; omega)] at h1)
      obtain rfl : k = n := by omega
      go_wp2
      go_ret
      exact ⟨Hb.out, .inl ⟨rfl, E.out⟩⟩
theorem zero_chgs (m : Nat) : ∀ u ∈ (Builtin.zeroCells (Value.agg #[.string ⟨#[]⟩, .string ⟨#[]⟩, .bool false]).cells m).toList, u.oneCell' = true := by
  intro u hu
  unfold Builtin.zeroCells at hu
  rw [Array.toList_map] at hu
  obtain ⟨i, -, rfl⟩ := List.mem_map.1 hu
  have h3 : (Value.agg #[.string ⟨#[]⟩, .string ⟨#[]⟩, .bool false]).cells = #[.string ⟨#[]⟩, .string ⟨#[]⟩, .bool false] := rfl
  rw [h3]
  have hs : (#[Value.string ⟨#[]⟩, .string ⟨#[]⟩, .bool false]).size = 3 := rfl
  rw [hs]
  have : i % 3 = 0 ∨ i % 3 = 1 ∨ i % 3 = 2 := by omega
  rcases this with e | e | e <;> rw [e] <;> rfl
theorem clear_chgs (w : World) (ty : TypeId) (b o m c : Nat) (hm : 0 < m) (hc : ∀ j, j < m * 3 → (w.cell? ⟨b, o + j, none⟩).isSome = true) (hf : ∀ j, j < m * 3 → w.frozen? ⟨b, o + j, none⟩ = false) :
    (Builtin.clear_ #[22] ty #[.slice (some ⟨b, o, none⟩) m c]).run Try.prog w = .ok (.tuple #[]) (w.setCells b o (Builtin.zeroCells (Value.agg #[.string ⟨#[]⟩, .string ⟨#[]⟩, .bool false]).cells m).toList) := by
  have hl : (Builtin.zeroCells (Value.agg #[.string ⟨#[]⟩, .string ⟨#[]⟩, .bool false]).cells m).toList.length = m * 3 := by rw [Array.length_toList, size_zeroCells]; rfl
  have hst := run_storeCells_cells (P := Try.prog) b o (Builtin.zeroCells (Value.agg #[.string ⟨#[]⟩, .string ⟨#[]⟩, .bool false]).cells m).toList 0 w (by rw [hl]; simpa using hc) (by rw [hl]; simpa using hf) (zero_chgs m)
  simp only [Nat.add_zero] at hst
  have hv : ∀ w, (zeroValue 38).run Try.prog w = .ok (.agg #[.string ⟨#[]⟩, .string ⟨#[]⟩, .bool false]) w := fun w => by kernel_rfl
  obtain ⟨q, rfl⟩ : ∃ q, m = q + 1 := ⟨m - 1, by omega⟩
  simp [Builtin.clear_, run_underlying Try.underlying22, hv, hst]

theorem live_take {l : List Chg} {k : Nat} {c : Chg} (h : l[k]? = some c) : liveL (l.take (k + 1)) = liveL (l.take k) ++ (if c.g then [] else [c]) := by
  rw [take_snocC h]
  unfold liveL
  rw [List.filter_append]
  cases hg : c.g <;> simp [hg]
theorem live_none {l : List Chg} (h : ∀ c ∈ l, c.g = false) : liveL l = l := by
  unfold liveL
  rw [List.filter_eq_self]
  intro c hc
  simp [h c hc]
theorem live_len (l : List Chg) : (liveL l).length ≤ l.length := List.length_filter_le _ _
theorem put3_take {xs : List Value} {i n : Nat} (hx : xs.length = n * 3) (hi : i < n) (a b c : Value) : (xs.take (i * 3) ++ ([a, b, c] ++ xs.drop (i * 3 + 3))).take ((i + 1) * 3) = xs.take (i * 3) ++ [a, b, c] := by
  rw [← List.append_assoc, List.take_left' (by rw [List.length_append, List.length_take]; simp; omega)]
theorem put3_drop {xs : List Value} {i j n : Nat} (hx : xs.length = n * 3) (hi : i < n) (hij : i < j) (a b c : Value) : (xs.take (i * 3) ++ ([a, b, c] ++ xs.drop (i * 3 + 3))).drop (j * 3) = xs.drop (j * 3) := by
  rw [← List.append_assoc, List.drop_append, List.drop_of_length_le (by rw [List.length_append, List.length_take]; simp; omega), List.nil_append, List.drop_drop]
  congr 1
  rw [List.length_append, List.length_take]
  simp
  omega
theorem drop_next {xs : List Value} {L : List Chg} {j : Nat} {c : Chg} (h : xs.drop (j * 3) = chgCells (L.drop j)) (hc : L[j]? = some c) : xs.drop ((j + 1) * 3) = chgCells (L.drop (j + 1)) ∧ xs[j * 3]? = some (.string c.k) ∧ xs[j * 3 + 1]? = some (.string c.v) ∧ xs[j * 3 + 2]? = some (.bool c.g) := by
  have hj := (List.getElem?_eq_some_iff.1 hc).1
  have e : L.drop j = c :: L.drop (j + 1) := by
    rw [List.drop_eq_getElem_cons hj]
    rw [List.getElem?_eq_getElem hj] at hc
    injection hc with hc
    rw [hc]
  rw [e] at h
  have key : ∀ t, xs[j * 3 + t]? = (chgCells (c :: L.drop (j + 1)))[t]? := fun t => by rw [← h, List.getElem?_drop]
  refine ⟨?_, key 0, key 1, key 2⟩
  have h2 : (xs.drop (j * 3)).drop 3 = (chgCells (c :: L.drop (j + 1))).drop 3 := by rw [h]
  rw [List.drop_drop] at h2
  rw [show (j + 1) * 3 = j * 3 + 3 by omega, h2]
  rfl
/-- the row, shorter, in its block: what is gone is taken out -/
def DelPost (B : Nat) (v : Value) (L : List Chg) (w : World) (e : Ending) (w' : World) : Prop := ∃ v', e = .returned v' ∧ OwnChs w' B v' L ∧ w.grownBy w' v.ownBlock ∧ v'.ownBlock = v.ownBlock
set_option maxRecDepth 100000 in
set_option maxHeartbeats 6400000 in
theorem deleteGone_any (v : Value) (B N : Nat) (L : List Chg) (w : World) (h : OwnChs w B v L) (hN : L.length = N) (hn : N ≤ 1000000) :
    Calls Try.prog 104 #[v, .func (.func 105) #[] #[]] w (DelPost B v (liveL L) w) := by
  obtain ⟨A, c, rfl, hc, hm, hx⟩ := h.slice
  have Hi := Lib.hid (indexGone_any A L.length c _ L w hx (Nat.le_refl _) (by omega))
  have H := Lib.hid h
  have HN := Lib.hid hN
  have Hcall := Lib.hid goneL_any
  unfold cagg at Hcall
  rw [hN] at H Hi hc ⊢
  unfold maxLen at hm
  clear h hx hN
  go_enter Try.func104, Try.ntmps104
  go_wp2_with fail
  refine Hi.out.mono ?_
  rintro e w1 ⟨hb1, ⟨rfl, hall⟩ | ⟨i0, c0, rfl, hc0, hg0, hbefore⟩⟩
  · have HE : Hid (DelPost B (.slice A N c) (liveL L) w (.returned (.slice A N c)) w1) := Lib.hid ⟨_, rfl, by rw [live_none hall]; exact H.out.below hb1, ⟨hb1.os, hb1.tape, hb1.output, hb1.size, fun i hi _ => hb1.block i hi⟩, rfl⟩
    clear hb1 hall
    go_wp2
    go_ret
    exact HE.out
  · have hi0 := (List.getElem?_eq_some_iff.1 hc0).1
    have hiN : i0 < N := by have := HN.out; omega
    have Ho1 : Hid (OwnChs w1 B (.slice A N c) L) := Lib.hid (H.out.below hb1)
    obtain ⟨g, rfl, hBg⟩ := own_head (m := N) (size := 3) (e := 38) (by have h1 := Ho1.out; unfold OwnChs at h1; rw [HN.out] at h1; exact h1) (by omega)
    have Hst : Hid (liveL (L.take (i0 + 1)) = L.take i0 ∧ (L.take i0).length = i0) := Lib.hid ⟨by rw [live_take hc0, hg0, live_none hbefore]; simp, by rw [List.length_take]; omega⟩
    have Hxs : Hid (w1.ownsRow B 38 3 (.slice (some ⟨g, 0, none⟩) N c) N (chgCells L)) := Lib.hid (by have h1 := Ho1.out; unfold OwnChs at h1; rwa [HN.out] at h1)
    have HG1 : Hid (w.grownBy w1 (some g)) := Lib.hid ⟨hb1.os, hb1.tape, hb1.output, hb1.size, fun i hi _ => hb1.block i hi⟩
    have hne : ((i0 : Int) == -1) = false := by simp
    have hne2 : ¬ ((i0 : Int) = -1) := by omega
    clear hb1 hc0 hg0 hbefore Ho1
    go_wp2
    go_loopw [5, 6, 7] (fun iv jv _ wr => ∃ (i j : Nat) (xs : List Value), iv = .int .i64 (i : Int) ∧ jv = .int .i64 (j : Int) ∧ i < j ∧ j ≤ N ∧ wr.ownsRow B 38 3 (.slice (some ⟨g, 0, none⟩) N c) N xs ∧ Hid (xs.take (i * 3) = chgCells (liveL (L.take j)) ∧ (liveL (L.take j)).length = i ∧ xs.drop (j * 3) = chgCells (L.drop j)) ∧ w.grownBy wr (some g)) (fun _ jv _ _ => N - (intOf jv).toNat)
    case atStart => exact ⟨i0, i0 + 1, chgCells L, rfl, by go_num, by omega, by omega, Hxs.out, Lib.hid ⟨by rw [Hst.out.1, chgCells_take], by rw [Hst.out.1]; exact Hst.out.2, chgCells_drop _ _⟩, HG1.out⟩
    case round =>
      obtain ⟨i, j, xs, rfl, rfl, hij, hjN, hown, Hp, hG⟩ := hrel
      have Hown := Lib.hid hown
      have HG := Lib.hid hG
      have hgw := (hown.lt g rfl).2
      have hxl : xs.length = N * 3 := hown.1
      clear hown hG Hxs HG1
      by_cases hlt : j < N
      · obtain ⟨y, hy⟩ : ∃ y, L[j]? = some y := ⟨_, List.getElem?_eq_getElem (by have := HN.out; omega)⟩
        obtain ⟨hd, x0, x1, x2⟩ := drop_next Hp.out.2.2 hy
        have Hd := Lib.hid hd
        have Hlt := Lib.hid (live_take hy)
        have p0 := (Hown.out.cellAt (j * 3) (by omega)).trans x0
        have p1 := (Hown.out.cellAt (j * 3 + 1) (by omega)).trans x1
        have p2 := (Hown.out.cellAt (j * 3 + 2) (by omega)).trans x2
        obtain ⟨yk, yv, yg⟩ := y
        simp only at p0 p1 p2 Hlt
        have hj0 : (0 : Int) ≤ (j : Int) := by omega
        have hj1 : (j : Int) < (N : Int) := by omega
        have hi0' : (0 : Int) ≤ (i : Int) := by omega
        have hi1' : (i : Int) < (N : Int) := by omega
        have Hc1 := Lib.hid (fun wx => Hcall.out ⟨yk, yv, yg⟩ wx)
        simp only at Hc1
        clear hy hd x0 x1 x2
        cases yg with
        | true =>
          rw [if_pos rfl, List.append_nil] at Hlt
          go_wp2_with fail
          refine (Hc1.out _).mono ?_
          rintro e w2 ⟨rfl, hb2⟩
          have hb3 : Below wr.heap.size wr w2 := (below_box _).trans (hb2.mono (by simp))
          have Ho2 := Lib.hid (own_belowN Hown.out hb3)
          have HG2 : Hid (w.grownBy w2 (some g)) := Lib.hid (grownBy_trans2 HG.out ⟨hb3.os, hb3.tape, hb3.output, hb3.size, fun q hq _ => hb3.block q hq⟩)
          clear hb2 hb3
          go_wp2
          go_roundw
          case rel => exact ⟨i, j + 1, xs, rfl, by go_num, by omega, by omega, Ho2.out, Lib.hid ⟨by rw [Hlt.out]; exact Hp.out.1, by rw [Hlt.out]; exact Hp.out.2.1, Hd.out⟩, HG2.out⟩
          case measure => simp [intOf]; omega
        | false =>
          rw [if_neg (by simp)] at Hlt
          go_wp2_with fail
          refine (Hc1.out _).mono ?_
          rintro e w2 ⟨rfl, hb2⟩
          have hb3 : Below wr.heap.size wr w2 := (below_box _).trans (hb2.mono (by simp))
          have Ho2 := Lib.hid (own_belowN Hown.out hb3)
          have HG2 : Hid (w.grownBy w2 (some g)) := Lib.hid (grownBy_trans2 HG.out ⟨hb3.os, hb3.tape, hb3.output, hb3.size, fun q hq _ => hb3.block q hq⟩)
          have hbx := (Box.made wr 38 #[.string yk, .string yv, .bool false]).below hb2 (by simp)
          have b0 := hbx.cell 0
          have b1 := hbx.cell 1
          have b2 := hbx.cell 2
          have s1 := Ho2.out.stored (i * 3) (.string yk)
          have s2 := s1.1.stored (i * 3 + 1) (.string yv)
          obtain ⟨u0, e0⟩ : ∃ u, w2.cell? ⟨g, i * 3, none⟩ = some u := ⟨_, (Ho2.out.cellAt (i * 3) (by omega)).trans (List.getElem?_eq_getElem (by omega))⟩
          obtain ⟨u1, e1⟩ : ∃ u, (w2.setCell ⟨g, i * 3, none⟩ (.string yk)).cell? ⟨g, i * 3 + 1, none⟩ = some u := ⟨_, (s1.1.cellAt (i * 3 + 1) (by omega)).trans (List.getElem?_eq_getElem (by rw [List.length_set]; omega))⟩
          obtain ⟨u2, e2⟩ : ∃ u, ((w2.setCell ⟨g, i * 3, none⟩ (.string yk)).setCell ⟨g, i * 3 + 1, none⟩ (.string yv)).cell? ⟨g, i * 3 + 2, none⟩ = some u := ⟨_, (s2.1.cellAt (i * 3 + 2) (by omega)).trans (List.getElem?_eq_getElem (by rw [List.length_set, List.length_set]; omega))⟩
          have f0 := Ho2.out.frozenAt (i * 3)
          have f1 := s1.1.frozenAt (i * 3 + 1)
          have f2 := s2.1.frozenAt (i * 3 + 2)
          have hst := setCells_ownN [.string yk, .string yv, .bool false] (i * 3) w2 xs Ho2.out (by simp; omega)
          have Hst3 : Hid ((((w2.setCell ⟨g, i * 3, none⟩ (.string yk)).setCell ⟨g, i * 3 + 1, none⟩ (.string yv)).setCell ⟨g, i * 3 + 2, none⟩ (.bool false)).ownsRow B 38 3 (.slice (some ⟨g, 0, none⟩) N c) N (xs.take (i * 3) ++ ([.string yk, .string yv, .bool false] ++ xs.drop (i * 3 + 3)))) := Lib.hid hst.1
          have HG3 : Hid (w.grownBy (((w2.setCell ⟨g, i * 3, none⟩ (.string yk)).setCell ⟨g, i * 3 + 1, none⟩ (.string yv)).setCell ⟨g, i * 3 + 2, none⟩ (.bool false)) (some g)) := Lib.hid (grownBy_trans2 HG2.out hst.2)
          have Hx := Lib.hid hxl
          have hgr : ¬ (wr.heap.size = g) := by omega
          clear hb2 hb3 hbx s1 s2 hst Ho2 hxl
          go_wp2
          go_roundw
          case rel => exact ⟨i + 1, j + 1, _, by go_num, by go_num, by omega, by omega, Hst3.out, Lib.hid ⟨by rw [put3_take Hx.out (by omega), Hlt.out, chgCells_app, Hp.out.1]; rfl, by rw [Hlt.out, List.length_append, Hp.out.2.1]; rfl, by rw [put3_drop Hx.out (by omega) (by omega)]; exact Hd.out⟩, HG3.out⟩
          case measure => simp [intOf]; omega
      · obtain rfl : j = N := by omega
        have HL : Hid (liveL (L.take j) = liveL L) := Lib.hid (by rw [List.take_of_length_le (by have := HN.out; omega)])
        have hcl : ∀ ty, (Builtin.clear_ #[22] ty #[.slice (some ⟨g, i * 3, none⟩) (j - i) (c - i)]).run Try.prog wr = .ok (.tuple #[]) (wr.setCells g (i * 3) (Builtin.zeroCells (Value.agg #[.string ⟨#[]⟩, .string ⟨#[]⟩, .bool false]).cells (j - i)).toList) := fun ty =>
          clear_chgs wr ty g (i * 3) (j - i) (c - i) (by omega) (fun k hk => by rw [Hown.out.cellAt (i * 3 + k) (by omega), List.getElem?_eq_getElem (by omega)]; rfl) (fun k hk => Hown.out.frozenAt (i * 3 + k))
        have hzl : (Builtin.zeroCells (Value.agg #[.string ⟨#[]⟩, .string ⟨#[]⟩, .bool false]).cells (j - i)).toList.length = (j - i) * 3 := by rw [Array.length_toList, size_zeroCells]; rfl
        obtain ⟨zs, hzs⟩ : ∃ zs, (Builtin.zeroCells (Value.agg #[.string ⟨#[]⟩, .string ⟨#[]⟩, .bool false]).cells (j - i)).toList = zs := ⟨_, rfl⟩
        simp only [hzs] at hcl hzl
        obtain ⟨hw1, hw2⟩ := setCells_ownN zs (i * 3) wr xs Hown.out (by omega)
        have hsh := own_shorter hw1 (n' := i) (by omega)
        rw [List.take_left' (by rw [List.length_take]; omega)] at hsh
        have HE : Hid (DelPost B (.slice (some ⟨g, 0, none⟩) j c) (liveL L) w (.returned (.slice (some ⟨g, 0, none⟩) i c)) (wr.setCells g (i * 3) zs)) := Lib.hid ⟨_, rfl, by
          unfold OwnChs
          rw [← HL.out, Hp.out.2.1, ← Hp.out.1]
          exact hsh, grownBy_trans2 HG.out hw2, rfl⟩
        have hic : ¬ (c = i) := by omega
        have hij2 : i ≤ j := by omega
        clear hzl hzs hw1 hw2 hsh hxl
        go_wp2_with (simp only [hcl])
        go_ret
        exact HE.out
theorem liveE_any (v : Value) (B : Nat) (L : List Chg) (w : World) (h : OwnChs w B v L) (hn : L.length ≤ 1000000) : Calls Try.prog 83 #[v] w (DelPost B v (liveL L) w) := by
  have Hd := Lib.hid (deleteGone_any v B _ L w h rfl hn)
  clear h hn
  go_enter Try.func83, Try.ntmps83
  go_wp2_with fail
  refine Hd.out.mono ?_
  rintro e w1 ⟨v', rfl, h1, h2, h3⟩
  have HE := Lib.hid (And.intro h1 (And.intro h2 h3))
  clear h1 h2 h3
  go_wp2
  go_ret
  exact ⟨v', rfl, HE.out.1, HE.out.2.1, HE.out.2.2⟩
end Go.Proofs.Yteioopcacpihpaa

namespace Go.Proofs.Yteioopcacpihpaa
open Go.RowKit
open Go.Lib (strCells compareBytes)

/-- the runs of an engine that has this one alone -/
def aloneR (v : Value) (l : List Chg) : Crs := if l = [] then [] else [(v, l)]
theorem aloneR_lists (v : Value) (l : List Chg) : crLists (aloneR v l) = aloneL l := by
  unfold aloneR aloneL
  split <;> rfl
set_option maxRecDepth 100000 in
theorem alone_any (v : Value) (B : Nat) (l : List Chg) (w : World) (h : OwnChs w B v l ∨ ∃ A c, v = .slice A l.length c) :
    Calls Try.prog 55 #[v] w fun e w' => ∃ v', e = .returned v' ∧ w'.ownsRow w.heap.size 22 1 v' (aloneR v l).length (crCells (aloneR v l)) ∧ Below w.heap.size w w' := by
  obtain ⟨A, c, rfl⟩ : ∃ A c, v = .slice A l.length c := by
    rcases h with h | h
    · obtain ⟨A, c, e, -⟩ := h.slice
      exact ⟨A, c, e⟩
    · exact h
  by_cases hl : l = []
  · subst hl
    have e : aloneR (.slice A ([] : List Chg).length c) [] = [] := rfl
    rw [e]
    go_enter Try.func55, Try.ntmps55
    go_wp2
    go_ret
    exact ⟨_, rfl, World.ownsRow_nil _ _ _ _, Below.refl _ _⟩
  · have e : aloneR (.slice A l.length c) l = [(.slice A l.length c, l)] := by unfold aloneR; rw [if_neg hl]
    rw [e]
    have hpos := List.length_pos_iff.2 hl
    obtain ⟨n, hn⟩ : ∃ n, l.length = n := ⟨_, rfl⟩
    rw [hn] at hpos ⊢
    have Ho : Hid ((w.alloc (.cells #[.slice A n c] 22)).ownsRow w.heap.size 22 1 (.slice (some ⟨w.heap.size, 0, none⟩) 1 1) 1 [.slice A n c]) := Lib.hid
      ⟨rfl, .inr ⟨w.heap.size, 1, #[.slice A n c], rfl, Nat.le_refl _, heap_alloc_new w _, Nat.le_refl _, by simp [maxLen], rfl, rfl⟩⟩
    clear h hl e hn
    go_enter Try.func55, Try.ntmps55
    go_wp2
    go_ret
    exact ⟨_, rfl, Ho.out, below_box _⟩
set_option maxRecDepth 100000 in
set_option maxHeartbeats 1600000 in
theorem all_any {w : World} {e H : Nat} {lim pairs : Int} {tv rv : Value} {T : List Chg} {rs : Crs} (h : EngAt w e lim pairs tv rv T rs) (hp : EngP H lim pairs T (crLists rs)) (hH : H ≤ 9000) :
    Calls Try.prog 56 #[.pointer (some ⟨e, 0, none⟩)] w (GivesC w.heap.size (absL (T :: crLists rs)) w) := by
  have hcount := hp.count
  rw [crLists_len] at hcount
  have Hp := Lib.hid (parts_any h _ rfl (by omega))
  have H1 := Lib.hid h
  have HP := Lib.hid hp
  have hruns := hp.runs
  obtain ⟨M, hM⟩ : ∃ M, absL (T :: crLists rs) = M := ⟨_, rfl⟩
  have HM := Lib.hid hM
  rw [hM]
  clear h hp hM
  go_enter Try.func56, Try.ntmps56
  go_wp2_with fail
  refine Hp.out.mono ?_
  rintro e' w2 ⟨v, rfl, ho, hb⟩
  obtain ⟨A, c, rfl, -, -, hx⟩ := parts_crs H1.out hb ho
  have HT : crLists ((tv, T) :: rs) = T :: crLists rs := rfl
  have Hmg := Lib.hid (merge_gen A _ c _ _ w2 hx (Nat.le_refl _) (by omega) 1000000 (Nat.le_refl _) (by rw [HT]; have := HP.out.total; omega) (fun r hr x hx => by rw [HT] at hr; have := HP.out.small r hr x hx; omega))
  rw [HT] at Hmg
  have Hb := Lib.hid hb
  have Hlen : Hid ((mergeL (T :: crLists rs)).length ≤ 1000000) := Lib.hid (by have h1 := len_mergeS (T :: crLists rs); have := HP.out.total; omega)
  have Hrn := Lib.hid hruns
  have hsz := hb.size
  obtain ⟨N, hN⟩ : ∃ N, rs.length + 1 = N := ⟨_, rfl⟩
  rw [hN] at Hmg ⊢
  clear hb hx ho HT hruns hN
  go_wp2_with fail
  refine Hmg.out.mono ?_
  rintro e' w3 ⟨hb3, ⟨-, v3, rfl, ho3⟩ | ⟨hno, -⟩⟩
  · have hlv := liveE_any v3 w2.heap.size _ w3 ho3 Hlen.out
    have HE3 : Hid (absL (T :: crLists rs) = M) := HM
    unfold absL at HE3
    rw [HE3.out] at hlv
    have Hlv := Lib.hid hlv
    have Hb3 := Lib.hid (Hb.out.trans (hb3.mono hsz))
    have Hlt := Lib.hid (fun g hg => ho3.lt g hg)
    have hsz3 := hb3.size
    clear hb3 ho3 hlv
    go_wp2_with fail
    refine Hlv.out.mono ?_
    rintro e' w4 ⟨v4, rfl, ho4, hg4, -⟩
    have HE : Hid (OwnChs w4 w.heap.size v4 M ∧ Below w.heap.size w w4) := Lib.hid ⟨own_baseN ho4 hsz, Hb3.out.grown hg4 (Nat.le_trans hsz hsz3) fun k hk => Nat.le_trans hsz (Hlt.out k hk).1⟩
    clear ho4 hg4
    go_wp2
    go_ret
    exact ⟨_, rfl, HE.out.1, HE.out.2⟩
  · exact absurd Hrn.out hno
end Go.Proofs.Yteioopcacpihpaa

namespace Go.Proofs.Yteioopcacpihpaa
open Go.RowKit
open Go.Lib (strCells compareBytes)

theorem sumL_alone (l : List Chg) : sumL (aloneL l) = l.length := by
  unfold aloneL
  split
  · rename_i e; subst e; rfl
  · simp [sumL]
theorem spill_pure {H k : Nat} {lim pairs : Int} {T : List Chg} {Ls : List (List Chg)} (hp : EngP H lim pairs T Ls) (h1 : 1 ≤ k) {l5 : List Chg}
    (hl : (k < Ls.length + 1 ∧ l5 = mergeL ((T :: Ls).take k)) ∨ (k = Ls.length + 1 ∧ l5 = absL (T :: Ls))) :
    EngP H lim pairs [] (aloneL l5 ++ (T :: Ls).drop k) ∧ absL ([] :: (aloneL l5 ++ (T :: Ls).drop k)) = absL (T :: Ls) := by
  have hA : ∀ r ∈ (T :: Ls).take k, Run r := fun r hr => hp.runs r (List.mem_of_mem_take hr)
  have hB : ∀ r ∈ (T :: Ls).drop k, Run r := fun r hr => hp.runs r (List.mem_of_mem_drop hr)
  have hAB := List.take_append_drop k (T :: Ls)
  have hBL : ∀ r ∈ (T :: Ls).drop k, r ∈ Ls := fun r hr => by
    obtain ⟨q, rfl⟩ : ∃ q, k = q + 1 := ⟨k - 1, by omega⟩
    exact List.mem_of_mem_drop (by simpa using hr)
  have hsum : sumL ((T :: Ls).take k) + sumL ((T :: Ls).drop k) ≤ H := by rw [← sumL_app, hAB]; exact hp.total
  have habs : absL ([] :: (aloneL l5 ++ (T :: Ls).drop k)) = absL (T :: Ls) := by
    rcases hl with ⟨-, rfl⟩ | ⟨hk, rfl⟩
    · rw [abs_spill hA hB, hAB]
    · have e : (T :: Ls).drop k = [] := List.drop_of_length_le (by simp; omega)
      rw [e]
      exact abs_all hp.runs
  have hrun : Run l5 := by
    rcases hl with ⟨-, rfl⟩ | ⟨-, rfl⟩
    · exact run_merge _
    · exact run_abs _
  have hlen : l5.length ≤ sumL ((T :: Ls).take k) := by
    rcases hl with ⟨-, rfl⟩ | ⟨hk, rfl⟩
    · exact len_mergeS _
    · rw [List.take_of_length_le (by simp; omega)]
      exact Nat.le_trans (live_len _) (len_mergeS _)
  have hmem : ∀ x ∈ l5, ∃ r ∈ T :: Ls, x ∈ r := fun x hx => by
    rcases hl with ⟨-, rfl⟩ | ⟨-, rfl⟩
    · obtain ⟨r, hr, h2⟩ := merge_mem hA hx
      exact ⟨r, List.mem_of_mem_take hr, h2⟩
    · exact abs_from hp.runs hx
  refine ⟨⟨hp.lim1, runs_nil_app (runs_alone hrun) hB, fun r hr => ?_, by rw [habs]; exact hp.num, ?_, fun r hr x hx => ?_⟩, habs⟩
  · rcases List.mem_append.1 hr with hr | hr
    · obtain ⟨h2, h3⟩ := alone_mem hr
      rw [h2]; exact h3
    · exact hp.full r (hBL r hr)
  · rw [sumL_app, sumL_alone]
    simp only [List.length_nil]
    omega
  · rcases List.mem_cons.1 hr with rfl | hr
    · simp at hx
    · rcases List.mem_append.1 hr with hr | hr
      · obtain ⟨r0, h2, h3⟩ := hmem x ((alone_mem hr).1 ▸ hx)
        exact hp.small r0 h2 x h3
      · exact hp.small r (List.mem_of_mem_drop hr) x hx
/-- but for some blocks all that was there is as it was -/
structure Frm (S : Nat → Prop) (w w' : World) : Prop where
  os : w'.os = w.os
  tape : w'.tape = w.tape
  output : w'.output = w.output
  size : w.heap.size ≤ w'.heap.size
  block : ∀ i, i < w.heap.size → ¬ S i → w'.heap[i]? = w.heap[i]?
section
variable {S S' : Nat → Prop} {w w1 w2 : World}
theorem Frm.refl (S : Nat → Prop) (w : World) : Frm S w w := ⟨rfl, rfl, rfl, Nat.le_refl _, fun _ _ _ => rfl⟩
theorem Frm.of (h : Below w.heap.size w w1) : Frm S w w1 := ⟨h.os, h.tape, h.output, h.size, fun i hi _ => h.block i hi⟩
theorem Frm.trans (h : Frm S w w1) (k : Frm S' w1 w2) (hs : ∀ i, S' i → S i ∨ w.heap.size ≤ i) : Frm S w w2 :=
  ⟨k.os.trans h.os, k.tape.trans h.tape, k.output.trans h.output, Nat.le_trans h.size k.size, fun i hi hn => (k.block i (Nat.lt_of_lt_of_le hi h.size) fun h' => by rcases hs i h' with h2 | h2; exact hn h2; omega).trans (h.block i hi hn)⟩
theorem Frm.then (h : Frm S w w1) (k : Below w1.heap.size w1 w2) : Frm S w w2 := h.trans (Frm.of (S := fun _ => False) k) fun _ h => h.elim
theorem Frm.mono (h : Frm S w w1) (hs : ∀ i, S i → S' i) : Frm S' w w1 := ⟨h.os, h.tape, h.output, h.size, fun i hi hn => h.block i hi fun h2 => hn (hs i h2)⟩
theorem Frm.grown {g : Option Nat} (h : w.grownBy w1 g) : Frm (fun i => g = some i) w w1 := ⟨h.os, h.tape, h.output, h.size, fun i hi hn => h.block i hi fun e => hn e.symm⟩
theorem Frm.set (h : Frm S w w1) {p : Addr} (hp : S p.block ∨ w.heap.size ≤ p.block) (u : Value) : Frm S w (w1.setCell p u) :=
  ⟨h.os, h.tape, h.output, by simp only [World.setCell, Array.size_modify]; exact h.size, fun i hi hn => (Below.heap_setCell _ _ _ _ (fun e => by rcases hp with hp | hp; exact hn (e ▸ hp); omega)).trans (h.block i hi hn)⟩
theorem Frm.below {B : Nat} (h : Frm S w w1) (hS : ∀ i, S i → B ≤ i) (hB : B ≤ w.heap.size) : Below B w w1 := ⟨h.os, h.tape, h.output, h.size, fun i hi => h.block i (by omega) fun h2 => by have := hS i h2; omega⟩
/-- rows that lie in other blocks stay -/
theorem Has.frm {A : Option Addr} {n : Nat} {xs : List Value} (h : Has w w.heap.size A n xs) (hf : Frm S w w1) (ha : ∀ a, A = some a → ¬ S a.block) : Has w1 w1.heap.size A n xs :=
  ⟨h.1, fun k u hu => by
    obtain ⟨a, e, hb, hc⟩ := h.2 k u hu
    refine ⟨a, e, Nat.lt_of_lt_of_le hb hf.size, ?_⟩
    rw [← hc]
    exact World.cell?_of_block (by rw [addr_block]; exact hf.block _ hb (ha a e))⟩
theorem OwnChs.frm {B : Nat} {v : Value} {l : List Chg} (h : OwnChs w B v l) (hf : Frm S w w1) (ha : ∀ g, v.ownBlock = some g → ¬ S g) : OwnChs w1 B v l := by
  refine ⟨h.1, ?_⟩
  rcases h.2 with hn | ⟨g, cap, cur, hv, hB, hg, rest⟩
  · exact .inl hn
  · exact .inr ⟨g, cap, cur, hv, hB, (hf.block g (Array.getElem?_eq_some_iff.1 hg).1 (ha g (by rw [hv]; rfl))).trans hg, rest⟩
theorem KindOf.frm {v : Value} {t : TypeId} (h : KindOf w v t) (hf : Frm S w w1) (hs : ∀ g, v.ownBlock = some g → ¬ S g) : KindOf w1 v t := fun g hg => by
  obtain ⟨cs, m, h1⟩ := h g hg
  exact ⟨cs, m, (hf.block g (h.lt hg) (hs g hg)).trans h1⟩
theorem Box.frm {g : Nat} {t : TypeId} {cs : Array Value} (h : Box w g t cs) (hf : Frm S w w1) (hg : ¬ S g) : Box w1 g t cs := (hf.block g h.lt hg).trans h
end
/-- an engine's runs then: those that it had, and new ones -/
def NewB (w : World) (rv rv' : Value) (rs rs' : Crs) : Prop := (∀ g, rv'.ownBlock = some g → rv.ownBlock = some g ∨ w.heap.size ≤ g) ∧ ∀ r' ∈ rs', ∀ g, r'.1.ownBlock = some g → (∃ r ∈ rs, r.1.ownBlock = some g) ∨ w.heap.size ≤ g
theorem NewB.same (w : World) (rv : Value) (rs : Crs) : NewB w rv rv rs rs := ⟨fun _ h => .inl h, fun r hr _ h => .inl ⟨r, hr, h⟩⟩
theorem NewB.mono {w w1 : World} {rv rv' : Value} {rs rs' : Crs} (h : NewB w1 rv rv' rs rs') (hs : w.heap.size ≤ w1.heap.size) : NewB w rv rv' rs rs' :=
  ⟨fun g hg => (h.1 g hg).imp id (Nat.le_trans hs), fun r hr g hg => (h.2 r hr g hg).imp id (Nat.le_trans hs)⟩
end Go.Proofs.Yteioopcacpihpaa

namespace Go.Proofs.Yteioopcacpihpaa
open Go.RowKit
open Go.Lib (strCells compareBytes)

theorem HasCrs.head {w : World} {B n : Nat} {A : Option Addr} {rs : Crs} (h : HasCrs w B A n rs) {k : Nat} (hk : k ≤ n) : HasCrs w B A k (rs.take k) := by
  refine ⟨?_, fun r hr => h.2 r (List.mem_of_mem_take hr)⟩
  have := h.1.take hk
  unfold crCells at this ⊢
  rwa [← List.map_take] at this
theorem crLists_take (rs : Crs) (k : Nat) : crLists (rs.take k) = (crLists rs).take k := by unfold crLists; rw [List.map_take]
theorem crCells_drop (rs : Crs) (k : Nat) : crCells (rs.drop k) = (crCells rs).drop k := by unfold crCells; rw [List.map_drop]
theorem crLists_drop (rs : Crs) (k : Nat) : crLists (rs.drop k) = (crLists rs).drop k := by unfold crLists; rw [List.map_drop]
theorem crLists_app (a b : Crs) : crLists (a ++ b) = crLists a ++ crLists b := by simp [crLists]
theorem crCells_app (a b : Crs) : crCells (a ++ b) = crCells a ++ crCells b := by simp [crCells]
theorem eng_cells {W : World} {e : Nat} {a b x y : Value} (h : Box W e 86 #[a, b, x, y]) : (W.cell? ⟨e, 0, none⟩ = some a ∧ W.cell? ⟨e, 1, none⟩ = some b ∧ W.cell? ⟨e, 2, none⟩ = some x ∧ W.cell? ⟨e, 3, none⟩ = some y) ∧
    (W.frozen? ⟨e, 1, none⟩ = false ∧ W.frozen? ⟨e, 2, none⟩ = false ∧ W.frozen? ⟨e, 3, none⟩ = false) := ⟨⟨h.cell 0, h.cell 1, h.cell 2, h.cell 3⟩, h.frozen 1, h.frozen 2, h.frozen 3⟩
theorem eng_set3 {W : World} {e : Nat} {a b x y : Value} (h : Box W e 86 #[a, b, x, y]) (u : Value) : Box (W.setCell ⟨e, 3, none⟩ u) e 86 #[a, b, x, u] := h.set_ 3 u
theorem eng_set2 {W : World} {e : Nat} {a b x y : Value} (h : Box W e 86 #[a, b, x, y]) (u : Value) : Box (W.setCell ⟨e, 2, none⟩ u) e 86 #[a, b, u, y] := h.set_ 2 u
theorem eng_set1 {W : World} {e : Nat} {a b x y : Value} (h : Box W e 86 #[a, b, x, y]) (u : Value) : Box (W.setCell ⟨e, 1, none⟩ u) e 86 #[a, u, x, y] := h.set_ 1 u
theorem chs_frm {S : Nat → Prop} {w w1 : World} {A : Option Addr} {m : Nat} {l : List Chg} (h : HasChs w w.heap.size A m l) (hf : Frm S w w1) (ha : ∀ a, A = some a → ¬ S a.block) : HasChs w1 w1.heap.size A m l := ⟨h.1, h.2.frm hf ha⟩
theorem spill_mem {w5 wA : World} {e k m B5 : Nat} {lim pairs : Int} {tv rv v5 vA : Value} {T l5 : List Chg} {rs : Crs} (h5 : EngAt w5 e lim pairs tv rv T rs) (ho5 : OwnChs w5 B5 v5 l5) (hB5 : e < B5) (hbA : Below w5.heap.size w5 wA) (hk : 1 ≤ k)
    (oA : wA.ownsRow w5.heap.size 22 1 vA m (crCells (aloneR v5 l5) ++ crCells (((tv, T) :: rs).drop k))) :
    EngAt ((wA.setCell ⟨e, 3, none⟩ vA).setCell ⟨e, 2, none⟩ (.slice none 0 0)) e lim pairs (.slice none 0 0) vA [] (aloneR v5 l5 ++ ((tv, T) :: rs).drop k) ∧ Frm (fun i => i = e) w5 ((wA.setCell ⟨e, 3, none⟩ vA).setCell ⟨e, 2, none⟩ (.slice none 0 0)) ∧
    (∀ g, vA.ownBlock = some g → w5.heap.size ≤ g) ∧ (∀ r' ∈ aloneR v5 l5 ++ ((tv, T) :: rs).drop k, ∀ g, r'.1.ownBlock = some g → (∃ r ∈ rs, r.1.ownBlock = some g) ∨ B5 ≤ g) := by
  have hfA : Frm (fun i => i = e) wA ((wA.setCell ⟨e, 3, none⟩ vA).setCell ⟨e, 2, none⟩ (.slice none 0 0)) := Frm.set (S := fun i => i = e) (Frm.set (S := fun i => i = e) (Frm.refl _ _) (.inl rfl) _) (.inl rfl) _
  have hf5 : Frm (fun i => i = e) w5 ((wA.setCell ⟨e, 3, none⟩ vA).setCell ⟨e, 2, none⟩ (.slice none 0 0)) := (Frm.of hbA).trans hfA fun i hi => .inl hi
  have he := h5.box.lt
  have hszW : ((wA.setCell ⟨e, 3, none⟩ vA).setCell ⟨e, 2, none⟩ (.slice none 0 0)).heap.size = wA.heap.size := by simp only [World.setCell, Array.size_modify]
  have hrs : ∀ r ∈ ((tv, T) :: rs).drop k, r ∈ rs := fun r hr => by
    obtain ⟨q, rfl⟩ : ∃ q, k = q + 1 := ⟨k - 1, by omega⟩
    exact List.mem_of_mem_drop (by simpa using hr)
  have hv5 : ∀ r ∈ aloneR v5 l5, r = (v5, l5) := fun r hr => by
    unfold aloneR at hr
    split at hr
    · simp at hr
    · simpa using hr
  have hm : m = (aloneR v5 l5 ++ ((tv, T) :: rs).drop k).length := by
    have := oA.1
    rw [← crCells_app] at this
    simpa [crCells] using this.symm
  subst hm
  have hvA : ∀ g, vA.ownBlock = some g → w5.heap.size ≤ g := fun g hg => (oA.lt g hg).1
  refine ⟨⟨eng_set2 (eng_set3 (h5.box.below hbA he) _) _, OwnChs.nil _ _, ?_, ⟨fun e1 => by have := hvA e e1; omega, fun g hg => by cases hg⟩, fun r hr => ⟨?_, fun g hg => by cases hg⟩, fun g hg => by rw [hszW]; exact (oA.lt g hg).2, fun r hr g hg => ?_, (own_kind oA).frm hfA fun g hg h' => by have := hvA g hg; omega, fun r hr => ?_⟩, hf5, hvA, fun r hr g hg => ?_⟩
  · obtain ⟨A, c, rfl, h1, h2, h3⟩ := own_slice oA
    rw [← crCells_app] at h3
    refine ⟨A, c, rfl, h1, h2, h3.frm hfA (fun a ea h' => ?_), fun r hr => ?_⟩
    · have := hvA a.block (by rw [ea]; rfl)
      omega
    · rcases List.mem_append.1 hr with hr | hr
      · obtain rfl := hv5 r hr
        obtain ⟨A', c', rfl, g1, g2, g3⟩ := ho5.slice
        exact ⟨A', _, c', rfl, g1, g2, chs_frm g3 hf5 fun a ea h' => by have := (ho5.lt a.block (by rw [ea]; rfl)).1; omega⟩
      · obtain ⟨A', c', -, -, -, h6⟩ := h5.run
        obtain ⟨A2, m2, c2, e2, g1, g2, g3⟩ := h6.2 r (hrs r hr)
        refine ⟨A2, m2, c2, e2, g1, g2, chs_frm g3 hf5 fun a ea h' => ?_⟩
        have := (h5.offC r (hrs r hr)).1
        rw [e2, ea] at this
        exact this (congrArg some h')
  · rcases List.mem_append.1 hr with hr | hr
    · obtain rfl := hv5 r hr
      intro e1
      have := (ho5.lt e e1).1
      omega
    · exact (h5.offC r (hrs r hr)).1
  · rw [hszW]
    refine Nat.lt_of_lt_of_le ?_ hbA.size
    rcases List.mem_append.1 hr with hr | hr
    · obtain rfl := hv5 r hr
      exact (ho5.lt g hg).2
    · exact h5.oldC r (hrs r hr) g hg
  · rcases List.mem_append.1 hr with hr | hr
    · obtain rfl := hv5 r hr
      exact (own_kind ho5).frm hf5 fun g hg h' => by have := (ho5.lt g hg).1; omega
    · exact (h5.kindC r (hrs r hr)).frm hf5 fun g hg h' => (h5.offC r (hrs r hr)).1 (h' ▸ hg)
  · rcases List.mem_append.1 hr with hr | hr
    · obtain rfl := hv5 r hr
      exact .inr (ho5.lt g hg).1
    · exact .inl ⟨r, hrs r hr, hg⟩
def SpillPost (e H : Nat) (lim p pairs : Int) (rv : Value) (rs : Crs) (M : List Chg) (w : World) (e' : Ending) (w' : World) : Prop :=
  e' = .returned (.tuple #[]) ∧ ∃ rv' rs', EngAt w' e lim p (.slice none 0 0) rv' [] rs' ∧ EngP H lim pairs [] (crLists rs') ∧ absL ([] :: crLists rs') = M ∧ Frm (fun i => i = e) w w' ∧ NewB w rv rv' rs rs'
set_option maxRecDepth 100000 in
set_option maxHeartbeats 6400000 in
theorem spill_any {w : World} {e H : Nat} {lim p pairs : Int} {tv rv : Value} {T : List Chg} {rs : Crs} (h : EngAt w e lim p tv rv T rs) (hp : EngP H lim pairs T (crLists rs)) (hH : H ≤ 9000) :
    Calls Try.prog 81 #[.pointer (some ⟨e, 0, none⟩)] w (SpillPost e H lim p pairs rv rs (absL (T :: crLists rs)) w) := by
  have hcount := hp.count
  rw [crLists_len] at hcount
  have Hp := Lib.hid (parts_any h _ rfl (by omega))
  have H1 := Lib.hid h
  have HP := Lib.hid hp
  have hTl := hp.len (r := T) (by simp)
  obtain ⟨M, hM⟩ : ∃ M, absL (T :: crLists rs) = M := ⟨_, rfl⟩
  have HM := Lib.hid hM
  rw [hM]
  clear h hp hM
  go_enter Try.func81, Try.ntmps81
  go_wp2_with fail
  refine Hp.out.mono ?_
  rintro e' w2 ⟨v, rfl, ho, hb⟩
  obtain ⟨A, c, rfl, hNc, hcm, hx⟩ := parts_crs H1.out hb ho
  have H2 := Lib.hid (H1.out.below hb)
  have Hb := Lib.hid hb
  have hsz := hb.size
  obtain ⟨At, ct, htv, -⟩ := H1.out.tab.slice
  have e2 := H2.out.box.cell 2
  simp [htv] at e2
  obtain ⟨ps, hps⟩ : ∃ ps : Crs, (tv, T) :: rs = ps := ⟨_, rfl⟩
  obtain ⟨N, hN⟩ : ∃ N, rs.length + 1 = N := ⟨_, rfl⟩
  have Hps : Hid ((tv, T) :: rs = ps ∧ crLists ps = T :: crLists rs ∧ ps.length = N) := Lib.hid ⟨hps, by rw [← hps]; rfl, by rw [← hps]; exact hN⟩
  rw [hps, hN] at hx
  rw [hN] at hNc ⊢
  have HX := Lib.hid hx
  obtain ⟨nT, hnT⟩ : ∃ n, T.length = n := ⟨_, rfl⟩
  rw [hnT] at e2 hTl
  have HnT := Lib.hid hnT
  have hN9 : 1 ≤ N ∧ N ≤ 9001 := by omega
  unfold maxLen at hcm
  clear hb hx ho Hp htv hps hN hnT hcount
  go_wp2
  go_quiet (fail)
  go_wp2
  go_loopw [3, 4] (fun nv hv wr => ∃ k hd : Nat, nv = .int .i64 (k : Int) ∧ hv = .int .i64 (hd : Int) ∧ 1 ≤ k ∧ k ≤ N ∧ hd ≤ 9000 ∧ Hid (hd = sumL ((T :: crLists rs).take k)) ∧ Below w2.heap.size w2 wr) (fun nv _ _ => N - (intOf nv).toNat)
  case atStart => exact ⟨1, nT, rfl, rfl, by omega, by omega, by omega, Lib.hid (by simp [sumL, HnT.out]), below_dr (Below.refl _ _) _⟩
  case round =>
    obtain ⟨k, hd, rfl, rfl, hk1, hkN, hd9, Hhd, hb⟩ := hrel
    have Hbr := Lib.hid hb
    have hszr := hb.size
    clear hb
    by_cases hlt : k < N
    · obtain ⟨a, A1, m1, c1, l, hAa, hab, hg, h1, h2, h3, d0, -⟩ := (HX.out.belowOf Hbr.out (Nat.le_refl _)).at_ hlt
      have hk0 : (0 : Int) ≤ (k : Int) := by omega
      have hk2 : (k : Int) < (N : Int) := by omega
      rw [Hps.out.2.1] at hg
      have Hg := Lib.hid hg
      have hml : m1 ≤ 9000 := by have h5 := HP.out.len (List.mem_of_getElem? hg); have := h3.1; omega
      have HA := Lib.hid hAa
      by_cases hle : m1 ≤ 2 * hd
      · have hsum : hd + m1 = sumL ((T :: crLists rs).take (k + 1)) := by rw [sumL_take hg, ← Hhd.out, h3.1]
        have hd2 : hd + m1 ≤ 9000 := by
          have h5 := HP.out.total
          have h6 : sumL ((T :: crLists rs).take (k + 1)) + sumL ((T :: crLists rs).drop (k + 1)) = sumL (T :: crLists rs) := by rw [← sumL_app, List.take_append_drop]
          omega
        have Hsum := Lib.hid hsum
        have hlei : (m1 : Int) ≤ 2 * (hd : Int) := by omega
        clear hg h1 h2 h3 hsum
        subst hAa
        go_wp2
        go_roundw
        case rel => exact ⟨k + 1, hd + m1, by go_num, by go_num, by omega, by omega, by omega, Lib.hid Hsum.out, Hbr.out⟩
        case measure => simp [intOf]; omega
      · have hlei : ¬ ((m1 : Int) ≤ 2 * (hd : Int)) := by omega
        clear hg h1 h2 h3
        subst hAa
        have Hrn : Hid (∀ r ∈ crLists (ps.take k), Run r) := Lib.hid fun r hr => by rw [crLists_take, Hps.out.2.1] at hr; exact HP.out.runs r (List.mem_of_mem_take hr)
        have Hmg := Lib.hid (merge_gen (some a) k c _ (ps.take k) wr (HasCrs.head (HX.out.belowOf Hbr.out (Nat.le_refl _)) (by omega)) hszr (by omega) 1000000 (Nat.le_refl _) (by
            rw [crLists_take, Hps.out.2.1]
            have h5 := HP.out.total
            have h6 : sumL ((T :: crLists rs).take k) + sumL ((T :: crLists rs).drop k) = sumL (T :: crLists rs) := by rw [← sumL_app, List.take_append_drop]
            omega) (fun r hr x hx => by rw [crLists_take, Hps.out.2.1] at hr; have := HP.out.small r (List.mem_of_mem_take hr) x hx; omega))
        rw [crLists_take, Hps.out.2.1] at Hmg Hrn
        have Hlen : Hid ((mergeL ((T :: crLists rs).take k)).length ≤ 1000000) := Lib.hid (by
          have h1 := len_mergeS ((T :: crLists rs).take k)
          have h5 := HP.out.total
          have h6 : sumL ((T :: crLists rs).take k) + sumL ((T :: crLists rs).drop k) = sumL (T :: crLists rs) := by rw [← sumL_app, List.take_append_drop]
          omega)
        have hkNi : ¬ ((k : Int) < (N : Int)) ∨ True := .inr trivial
        go_wp2_with fail
        refine Hmg.out.mono ?_
        rintro e' w3 ⟨hb3, ⟨-, v3, rfl, ho3⟩ | ⟨hno, -⟩⟩
        rotate_left
        · exact absurd Hrn.out hno
        have Hb3 := Lib.hid (Hbr.out.trans (hb3.mono hszr))
        have hsz3 := Hb3.out.size
        obtain ⟨l5, hl5⟩ : ∃ l5, mergeL ((T :: crLists rs).take k) = l5 := ⟨_, rfl⟩
        rw [hl5] at ho3
        have Hl5 : Hid ((k < (crLists rs).length + 1 ∧ l5 = mergeL ((T :: crLists rs).take k)) ∨ (k = (crLists rs).length + 1 ∧ l5 = absL (T :: crLists rs))) := Lib.hid (.inl ⟨by rw [crLists_len]; have h1 := Hps.out.2.2; rw [← Hps.out.1, List.length_cons] at h1; omega, hl5.symm⟩)
        have Ho5 : Hid (OwnChs w3 w2.heap.size v3 l5) := Lib.hid (own_baseN ho3 hszr)
        have Hb5 := Hb3
        generalize w3 = w5 at *
        generalize v3 = v5 at *
        clear hb3 ho3 hl5
        have hsz5 := Hb5.out.size
        have H5 := Lib.hid (H2.out.below Hb5.out)
        have hew := H2.out.box.lt
        have Hpure := Lib.hid (spill_pure HP.out hk1 Hl5.out)
        obtain ⟨A5, c5, hv5, -⟩ := Ho5.out.slice
        have Haln := Lib.hid (fun wx => alone_any v5 w2.heap.size l5 wx (.inr ⟨A5, c5, hv5⟩))
        obtain ⟨n5, hn5⟩ : ∃ n, l5.length = n := ⟨_, rfl⟩
        rw [hn5] at hv5
        have Hm5 : Hid ((aloneR v5 l5).length ≤ 1) := Lib.hid (by unfold aloneR; split <;> simp)
        have HXk : Hid (Has w5 w5.heap.size (some (a.add k)) ((N - k) * 1) (crCells (((tv, T) :: rs).drop k))) := Lib.hid (by
          rw [Nat.mul_one, crCells_drop, Hps.out.1]
          have hcut := ((HX.out.1.belowOf Hb5.out (Nat.le_refl _)).more hsz5).cut hkN hNc
          rw [if_neg (by omega)] at hcut
          exact hcut)
        have Hone : Hid (∀ u ∈ crCells (((tv, T) :: rs).drop k), u.oneCell' = true) := Lib.hid (by
          refine crCells_one _ fun r hr => ?_
          rw [Hps.out.1] at hr
          obtain ⟨A', m', c', e1, -⟩ := HX.out.2 r (List.mem_of_mem_drop hr)
          rw [e1]; rfl)
        obtain ⟨AK, hAK⟩ : ∃ AK, ((some (a.add k)) : Option Addr) = AK := ⟨_, rfl⟩
        rw [hAK] at HXk
        have hkc : k ≤ c := by omega
        clear hn5
        subst hv5
        go_wp2
        go_region_law (first | (refine step_append_hasN (by rfl) _ _ _ (by rfl) 22 cr_elem (by omega) Try.underlying29 (by rfl) o6 (by rfl) (HXk.out.belowOf (((Below.refl w5.heap.size w5).drew).trans hb6) (Nat.le_refl _)) Hone.out (by have := Hm5.out; simp only [maxLen]; omega) (by have := Hm5.out; omega) hb6.size ?_; intro vA wA oA gA zA; obtain ⟨Ax, cx, rfl, -⟩ := own_slice oA; have hbA : Below w5.heap.size w5 wA := below_ownN (((Below.refl w5.heap.size w5).drew).trans hb6) o6 gA hb6.size; have bxA := H5.out.box.below hbA H5.out.box.lt; have cA := (eng_cells bxA).1.2.2.2; have fA := (eng_cells bxA).2.2.2; have cB := fun u => (eng_cells (eng_set3 bxA u)).1.2.2.1; have fB := fun u => (eng_cells (eng_set3 bxA u)).2.2.1) | (go_simp; go_wp2_with (go_at_call 55; refine (Haln.out _).mono ?_; rintro e' w6 ⟨v6, rfl, o6, hb6⟩)))
        all_goals
          have HE := Lib.hid (spill_mem (k := k) H5.out Ho5.out (by omega) hbA hk1 oA)
          clear hbA bxA oA gA zA hb6 o6
          go_wp2
          go_end0
          refine ⟨rfl, _, _, HE.out.1, ?_, ?_, (Frm.of (Hb.out.trans (Hb5.out.mono hsz))).trans HE.out.2.1 fun i hi => .inl hi, fun g hg => .inr (Nat.le_trans (Nat.le_trans hsz hsz5) (HE.out.2.2.1 g hg)), fun r hr g hg => (HE.out.2.2.2 r hr g hg).imp id (Nat.le_trans hsz)⟩
          · rw [crLists_app, aloneR_lists, crLists_drop]
            exact Hpure.out.1
          · rw [crLists_app, aloneR_lists, crLists_drop, ← HM.out]
            exact Hpure.out.2
    · obtain rfl : k = N := by omega
      have Hrn : Hid (∀ r ∈ crLists (ps.take k), Run r) := Lib.hid fun r hr => by rw [crLists_take, Hps.out.2.1] at hr; exact HP.out.runs r (List.mem_of_mem_take hr)
      have Hmg := Lib.hid (merge_gen A k c _ (ps.take k) wr (HasCrs.head (HX.out.belowOf Hbr.out (Nat.le_refl _)) (by omega)) hszr (by omega) 1000000 (Nat.le_refl _) (by
          rw [crLists_take, Hps.out.2.1]
          have h5 := HP.out.total
          have h6 : sumL ((T :: crLists rs).take k) + sumL ((T :: crLists rs).drop k) = sumL (T :: crLists rs) := by rw [← sumL_app, List.take_append_drop]
          omega) (fun r hr x hx => by rw [crLists_take, Hps.out.2.1] at hr; have := HP.out.small r (List.mem_of_mem_take hr) x hx; omega))
      rw [crLists_take, Hps.out.2.1] at Hmg Hrn
      have Hlen : Hid ((mergeL ((T :: crLists rs).take k)).length ≤ 1000000) := Lib.hid (by
        have h1 := len_mergeS ((T :: crLists rs).take k)
        have h5 := HP.out.total
        have h6 : sumL ((T :: crLists rs).take k) + sumL ((T :: crLists rs).drop k) = sumL (T :: crLists rs) := by rw [← sumL_app, List.take_append_drop]
        omega)
      have hkNi : ¬ ((k : Int) < (k : Int)) ∨ True := .inr trivial
      go_wp2_with fail
      refine Hmg.out.mono ?_
      rintro e' w3 ⟨hb3, ⟨-, v3, rfl, ho3⟩ | ⟨hno, -⟩⟩
      rotate_left
      · exact absurd Hrn.out hno
      have Hb3 := Lib.hid (Hbr.out.trans (hb3.mono hszr))
      have hsz3 := Hb3.out.size
      have hlv := liveE_any v3 wr.heap.size _ w3 ho3 Hlen.out
      have Hlt3 := Lib.hid (fun g hg => ho3.lt g hg)
      have Hlv := Lib.hid hlv
      clear hb3 ho3 hlv
      go_wp2_with fail
      refine Hlv.out.mono ?_
      rintro e' w5 ⟨v5, rfl, ho5, hg5, -⟩
      have Hb5 : Hid (Below w2.heap.size w2 w5) := Lib.hid (Hb3.out.grown hg5 (by have := Hb3.out.size; omega) fun q hq => Nat.le_trans hszr (Hlt3.out q hq).1)
      obtain ⟨l5, hl5⟩ : ∃ l5, liveL (mergeL ((T :: crLists rs).take k)) = l5 := ⟨_, rfl⟩
      rw [hl5] at ho5
      have Hl5 : Hid ((k < (crLists rs).length + 1 ∧ l5 = mergeL ((T :: crLists rs).take k)) ∨ (k = (crLists rs).length + 1 ∧ l5 = absL (T :: crLists rs))) := Lib.hid (.inr ⟨by rw [crLists_len]; have h1 := Hps.out.2.2; rw [← Hps.out.1, List.length_cons] at h1; omega, by rw [← hl5, List.take_of_length_le (by have h1 := congrArg List.length Hps.out.2.1; rw [crLists_len, Hps.out.2.2] at h1; omega)]; rfl⟩)
      have Ho5 : Hid (OwnChs w5 w2.heap.size v5 l5) := Lib.hid (own_baseN ho5 hszr)
      clear ho5 hg5 hl5
      have hsz5 := Hb5.out.size
      have H5 := Lib.hid (H2.out.below Hb5.out)
      have hew := H2.out.box.lt
      have Hpure := Lib.hid (spill_pure HP.out hk1 Hl5.out)
      obtain ⟨A5, c5, hv5, -⟩ := Ho5.out.slice
      have Haln := Lib.hid (fun wx => alone_any v5 w2.heap.size l5 wx (.inr ⟨A5, c5, hv5⟩))
      obtain ⟨n5, hn5⟩ : ∃ n, l5.length = n := ⟨_, rfl⟩
      rw [hn5] at hv5
      have Hm5 : Hid ((aloneR v5 l5).length ≤ 1) := Lib.hid (by unfold aloneR; split <;> simp)
      have HXk : Hid (Has w5 w5.heap.size (if c = k then A else Option.map (fun x => x.add k) A) (0 * 1) (crCells (((tv, T) :: rs).drop k))) := Lib.hid (by
        rw [Nat.mul_one, crCells_drop, Hps.out.1]
        have hcut := ((HX.out.1.belowOf Hb5.out (Nat.le_refl _)).more hsz5).cut hkN hNc
        rw [Nat.sub_self] at hcut
        exact hcut)
      have Hone : Hid (∀ u ∈ crCells (((tv, T) :: rs).drop k), u.oneCell' = true) := Lib.hid (by
        refine crCells_one _ fun r hr => ?_
        rw [Hps.out.1] at hr
        obtain ⟨A', m', c', e1, -⟩ := HX.out.2 r (List.mem_of_mem_drop hr)
        rw [e1]; rfl)
      obtain ⟨AK, hAK⟩ : ∃ AK, ((if c = k then A else Option.map (fun x => x.add k) A) : Option Addr) = AK := ⟨_, rfl⟩
      rw [hAK] at HXk
      have hkc : k ≤ c := by omega
      clear hn5
      subst hv5
      go_wp2
      go_region_law (first | (refine step_append_hasN (by rfl) _ _ _ (by rfl) 22 cr_elem (by omega) Try.underlying29 (by rfl) o6 (by rfl) (HXk.out.belowOf (((Below.refl w5.heap.size w5).drew).trans hb6) (Nat.le_refl _)) Hone.out (by have := Hm5.out; simp only [maxLen]; omega) (by have := Hm5.out; omega) hb6.size ?_; intro vA wA oA gA zA; obtain ⟨Ax, cx, rfl, -⟩ := own_slice oA; have hbA : Below w5.heap.size w5 wA := below_ownN (((Below.refl w5.heap.size w5).drew).trans hb6) o6 gA hb6.size; have bxA := H5.out.box.below hbA H5.out.box.lt; have cA := (eng_cells bxA).1.2.2.2; have fA := (eng_cells bxA).2.2.2; have cB := fun u => (eng_cells (eng_set3 bxA u)).1.2.2.1; have fB := fun u => (eng_cells (eng_set3 bxA u)).2.2.1) | (go_simp; go_wp2_with (go_at_call 55; refine (Haln.out _).mono ?_; rintro e' w6 ⟨v6, rfl, o6, hb6⟩)))
      all_goals
        have HE := Lib.hid (spill_mem (k := k) H5.out Ho5.out (by omega) hbA hk1 oA)
        clear hbA bxA oA gA zA hb6 o6
        go_wp2
        go_end0
        refine ⟨rfl, _, _, HE.out.1, ?_, ?_, (Frm.of (Hb.out.trans (Hb5.out.mono hsz))).trans HE.out.2.1 fun i hi => .inl hi, fun g hg => .inr (Nat.le_trans (Nat.le_trans hsz hsz5) (HE.out.2.2.1 g hg)), fun r hr g hg => (HE.out.2.2.2 r hr g hg).imp id (Nat.le_trans hsz)⟩
        · rw [crLists_app, aloneR_lists, crLists_drop]
          exact Hpure.out.1
        · rw [crLists_app, aloneR_lists, crLists_drop, ← HM.out]
          exact Hpure.out.2
end Go.Proofs.Yteioopcacpihpaa

namespace Go.Proofs.Yteioopcacpihpaa
open Go.RowKit
open Go.Lib (strCells compareBytes)

/-- the row, one change longer: in its block, or in a new one; all else as it was -/
def InsPost (B : Nat) (v : Value) (L : List Chg) (w : World) (e : Ending) (w' : World) : Prop :=
  ∃ v', e = .returned v' ∧ OwnChs w' B v' L ∧ w.grownBy w' v.ownBlock ∧ (v'.ownBlock = v.ownBlock ∨ ∃ g, w.heap.size ≤ g ∧ v'.ownBlock = some g)
theorem ins_cells (l : List Chg) (i : Nat) (x : Chg) : chgCells (l.take i ++ ([x] ++ l.drop i)) = (chgCells l).take (i * 3) ++ (chgCells [x] ++ (chgCells l).drop (i * 3)) := by
  rw [chgCells_app, chgCells_app, chgCells_take, chgCells_drop]
theorem ins_len (l : List Chg) {i : Nat} (hi : i ≤ l.length) (x : Chg) : (l.take i ++ ([x] ++ l.drop i)).length = l.length + 1 := by
  simp only [List.length_append, List.length_take, List.length_drop, List.length_cons, List.length_nil]
  omega
set_option maxRecDepth 100000 in
set_option maxHeartbeats 1600000 in
theorem insert_end (v : Value) (B vb N : Nat) (l : List Chg) (x : Chg) (w : World) (h : OwnChs w B v l) (hN : l.length = N) (hB : B ≤ w.heap.size) (hn : N ≤ 1000000) (hx : Has w w.heap.size (some ⟨vb, 0, none⟩) (1 * 3) (chgCells [x])) :
    Calls Try.prog 82 #[v, .int .i64 (N : Int), .slice (some ⟨vb, 0, none⟩) 1 1] w (InsPost B v (l ++ [x]) w) := by
  obtain ⟨A, c, rfl, hc, hm, -⟩ := h.slice
  have H := Lib.hid h
  unfold OwnChs at H
  rw [hN] at H hc ⊢
  have HN := Lib.hid hN
  have HX := Lib.hid hx
  unfold maxLen at hm
  clear h hN hx
  obtain ⟨A', hA⟩ : ∃ A', (if c = N then A else Option.map (fun x => x.add (N * 3)) A) = A' := ⟨_, rfl⟩
  go_enter Try.func82, Try.ntmps82
  go_wp2_with (at_builtin; refine wpList_append_hasN (v := .slice A N c) rfl (.tmp 23) (.tmp 24) _ rfl 38 chg_elem (by omega) Try.underlying22 rfl H.out rfl HX.out (chgCells_one _) (by simp only [maxLen]; omega) (by omega) hB ?_; intro v1 w1 hown1 hg1 hz1; have HE := Lib.hid (And.intro hown1 (And.intro hg1 hz1)); clear hown1 hg1 hz1)
  all_goals
    go_ret
    refine ⟨_, rfl, ?_, HE.out.2.1, HE.out.2.2.imp id fun e => ⟨_, Nat.le_refl _, e⟩⟩
    unfold OwnChs
    rw [List.length_append, HN.out, chgCells_app]
    exact HE.out.1

theorem add_zero_at (g k : Nat) : (⟨g, 0, none⟩ : Addr).add k = ⟨g, k, none⟩ := by unfold Addr.add; split <;> simp_all
theorem sub3 (n i : Nat) : (n - i) * 3 = n * 3 - i * 3 := Nat.sub_mul n i 3
theorem put_first (X S : List Value) {i n : Nat} (hX : X.length = n * 3) (hi : i ≤ n) : ((X ++ S).take ((i + 1) * 3)).take (i * 3) = X.take (i * 3) := by
  rw [List.take_take, Nat.min_eq_left (by omega), List.take_append_of_le_length (by omega)]
theorem box_shape {w : World} {g : Nat} {t : TypeId} {cs : Array Value} (h : Box w g t cs) : w.shape? g = some (t, cs.size) := by
  unfold Box at h
  simp [World.shape?, h]
theorem box_end {w : World} {g k : Nat} {t : TypeId} {cs : Array Value} (h : Box w g t cs) : w.frozen? { block := g, off := k } = false := h.frozen k
theorem own_shape {w : World} {B n c g size : Nat} {e : TypeId} {xs : List Value} (h : w.ownsRow B e size (.slice (some ⟨g, 0, none⟩) n c) n xs) : w.shape? g = some (e, c * size) := by
  rcases h.2 with ⟨hv, -⟩ | ⟨g', cap, cur, hv, hB, hg, h1, h2, h3, h4⟩
  · cases hv
  · injection hv with e1 _ e3
    injection e1 with e1
    injection e1 with e1
    subst e1
    subst e3
    simp [World.shape?, hg, h3]
theorem shift_cells (X S Y : List Value) {i n : Nat} (hX : X.length = n * 3) (hS : S.length = 3) (hY : Y.length = 3) (hi : i < n) :
    let Z := (X ++ S).take ((i + 1) * 3) ++ (((X ++ S).drop (i * 3)).take ((n + 1 - (i + 1)) * 3) ++ (X ++ S).drop ((i + 1 + min (n + 1 - i) (n + 1 - (i + 1))) * 3))
    Z.take (i * 3) ++ (Y.take ((n + 1 - i) * 3) ++ Z.drop ((i + min 1 (n + 1 - i)) * 3)) = X.take (i * 3) ++ (Y ++ X.drop (i * 3)) := by
  intro Z
  have hm : min (n + 1 - i) (n + 1 - (i + 1)) = n - i := by omega
  have hm1 : min 1 (n + 1 - i) = 1 := by omega
  have e1 : ((X ++ S).drop (i * 3)).take ((n + 1 - (i + 1)) * 3) = X.drop (i * 3) := by
    rw [List.drop_append_of_le_length (by omega), List.take_append_of_le_length (by rw [List.length_drop]; omega), List.take_of_length_le (by rw [List.length_drop]; omega)]
  have e2 : (X ++ S).drop ((i + 1 + (n - i)) * 3) = [] := List.drop_of_length_le (by rw [List.length_append]; omega)
  have hZ : Z = (X ++ S).take ((i + 1) * 3) ++ X.drop (i * 3) := by
    show (X ++ S).take ((i + 1) * 3) ++ (((X ++ S).drop (i * 3)).take ((n + 1 - (i + 1)) * 3) ++ (X ++ S).drop ((i + 1 + min (n + 1 - i) (n + 1 - (i + 1))) * 3)) = _
    rw [e1, hm, e2, List.append_nil]
  have hl : ((X ++ S).take ((i + 1) * 3)).length = (i + 1) * 3 := by rw [List.length_take, List.length_append]; omega
  rw [hZ, hm1, List.take_append_of_le_length (by omega), put_first X S hX (by omega), List.take_of_length_le (l := Y) (by omega), List.drop_left' hl]
set_option maxRecDepth 100000 in
set_option maxHeartbeats 6400000 in
theorem insert_shift (B g c vb N i : Nat) (l : List Chg) (x : Chg) (w : World) (h : OwnChs w B (.slice (some ⟨g, 0, none⟩) N c) l) (hN : l.length = N) (hi : i < N) (hroom : N + 1 ≤ c) (hc : c ≤ 9223372036854775807) (hn : N ≤ 1000000)
    (hvb : vb ≠ g) (hx : Box w vb 38 #[.string x.k, .string x.v, .bool x.g]) :
    Calls Try.prog 82 #[.slice (some ⟨g, 0, none⟩) N c, .int .i64 (i : Int), .slice (some ⟨vb, 0, none⟩) 1 1] w (InsPost B (.slice (some ⟨g, 0, none⟩) N c) (l.take i ++ ([x] ++ l.drop i)) w) := by
  have ho := h
  unfold OwnChs at ho
  rw [hN] at ho
  obtain ⟨sp, hsp, ho1⟩ := own_longer ho (n' := N + 1) (by omega) hroom
  have hgw := (ho.lt g rfl).2
  have hlen : (chgCells l).length = N * 3 := by rw [chgCells_len, hN]
  have hhas := (Has.of_ownN ho1).drop (k := i * 3) (by omega)
  rw [← sub3, Option.map_some, add_zero_at] at hhas
  have hsp3 : sp.length = 3 := by rw [hsp]; omega
  have hone : ∀ u ∈ ((chgCells l ++ sp).drop (i * 3)).take ((N + 1 - (i + 1)) * 3), u.oneCell' = true := by
    rw [List.drop_append_of_le_length (by omega), List.take_append_of_le_length (by rw [List.length_drop]; omega)]
    exact fun u hu => chgCells_one l u (List.mem_of_mem_drop (List.mem_of_mem_take hu))
  obtain ⟨w1, hr1, ho2, hg1⟩ := run_copy_ownN (P := Try.prog) (t := 22) (ty := 3) (w := w.drew) Try.underlying22 chg_size (by omega) (o := i + 1) (dl := N + 1 - (i + 1)) (own_belowN ho1 (Below.refl _ _).drew) (c - (i + 1)) (c - i) (by omega) (hhas.belowOf (Below.refl _ w).drew (Nat.le_refl _)) (by omega) hone
  have hb1 : vb < w.heap.size := hx.lt
  have hx1 : Box w1 vb 38 #[.string x.k, .string x.v, .bool x.g] := (hg1.block vb hb1 (fun e => hvb (by injection e))).trans hx
  have hxh : Has w1 (vb + 1) (some ⟨vb, 0, none⟩) (1 * 3) (chgCells [x]) := by
    refine ⟨rfl, fun k u hu => ⟨_, rfl, by simp, ?_⟩⟩
    rw [add_zero_at, hx1.cell k, ← hu]
    simp [chgCells, ccells]
  obtain ⟨w2, hr2, ho3, hg2⟩ := run_copy_ownN (P := Try.prog) (t := 22) (ty := 3) (w := w1) Try.underlying22 chg_size (by omega) (o := i) (dl := N + 1 - i) ho2 (c - i) 1 (by omega) hxh (by omega) (fun u hu => chgCells_one [x] u (List.mem_of_mem_take hu))
  have hfin := shift_cells (chgCells l) sp (chgCells [x]) hlen hsp3 (by rfl) hi
  rw [hfin] at ho3
  have hG : w.grownBy w2 (some g) := by
    have h0 : w.grownBy w1 (some g) := ⟨hg1.os, hg1.tape, hg1.output, hg1.size, hg1.block⟩
    exact grownBy_trans2 h0 hg2
  have hov : ∀ lb cb, (callFunc 102 #[.slice (some ⟨vb, 0, none⟩) 1 1, .slice (some ⟨g, (i + 1) * 3, none⟩) lb cb]).run Try.prog w = .ok (.value (.bool false)) w := fun lb cb => by
    rw [run_callFunc_extern Try.func102 (by kernel_rfl) (by kernel_rfl) (by kernel_rfl) (e := Extern.SlicesOverlaps.overlaps #[22, 22] #[4]) (by kernel_rfl),
      Lib.run_overlaps_apart w 22 4 38 Try.underlying22 3 (fun w => by kernel_rfl) ⟨vb, 0, none⟩ ⟨g, (i + 1) * 3, none⟩ 1 1 lb cb hvb _ _ _ _ (box_shape hx) (own_shape ho) (by omega) (hx.frozen 0) (hx.frozen _)]
    rfl
  have HE : Hid (OwnChs w2 B (.slice (some ⟨g, 0, none⟩) (N + 1) c) (l.take i ++ ([x] ++ l.drop i)) ∧ w.grownBy w2 (some g)) := Lib.hid ⟨by unfold OwnChs; rw [ins_len l (by omega) x, hN, ins_cells]; exact ho3, hG⟩
  have Hr1 := Lib.hid hr1
  have Hr2 := Lib.hid hr2
  have hw1 : IntKind.i64.wrap ((i : Int) + 1) = (i : Int) + 1 := by rw [IntKind.wrap_i64]; omega
  have hb0 : (0 : Int) ≤ (i : Int) + 1 := by omega
  have htn : ((i : Int) + 1).toNat = i + 1 := by omega
  have hin : i ≤ N := by omega
  have hne : ¬ ((i : Int) = (N : Int)) := by omega
  have hc1 : ¬ (c = i + 1) := by omega
  have hc2 : ¬ (c = i) := by omega
  have hb3 : (i : Int) ≤ (N : Int) + 1 := by omega
  have hgt : ¬ ((c : Int) < (N : Int) + 1) := by omega
  clear h hN ho ho1 ho2 ho3 hgw hlen hhas hsp hsp3 hone hr1 hg1 hb1 hx1 hxh hr2 hg2 hfin hG hx
  go_enter Try.func82, Try.ntmps82
  go_wp2_with (simp only [hov])
  go_region_law (refine step_run_copy rfl (.tmp 73) (.tmp 76) _ _ rfl (by simp [Act.eval, Act.put]) (by simp [Act.eval, Act.put]) Hr1.out ?_)
  have hr2 := Hr2.out
  go_wp2
  go_ret
  exact ⟨_, rfl, HE.out.1, HE.out.2, .inl rfl⟩

theorem grow_cells (X Z Y : List Value) {i n : Nat} (hX : X.length = n * 3) (hZ : Z.length = (n + 1) * 3) (hZ1 : Z.take (i * 3) = X.take (i * 3)) (hY : Y.length = 3) (hi : i < n) :
    let V := Z.take (i * 3) ++ (Y.take ((n + 1 - i) * 3) ++ Z.drop ((i + min 1 (n + 1 - i)) * 3))
    V.take ((i + 1) * 3) ++ ((X.drop (i * 3)).take ((n + 1 - (i + 1)) * 3) ++ V.drop ((i + 1 + min (n - i) (n + 1 - (i + 1))) * 3)) = X.take (i * 3) ++ (Y ++ X.drop (i * 3)) := by
  intro V
  have hm1 : min 1 (n + 1 - i) = 1 := by omega
  have hm : i + 1 + min (n - i) (n + 1 - (i + 1)) = n + 1 := by omega
  have hV : V = (X.take (i * 3) ++ Y) ++ Z.drop ((i + 1) * 3) := by
    show Z.take (i * 3) ++ (Y.take ((n + 1 - i) * 3) ++ Z.drop ((i + min 1 (n + 1 - i)) * 3)) = _
    rw [hZ1, hm1, List.take_of_length_le (l := Y) (by omega), List.append_assoc]
  have hl : (X.take (i * 3) ++ Y).length = (i + 1) * 3 := by rw [List.length_append, List.length_take]; omega
  rw [hV, hm, List.take_left' hl, List.take_of_length_le (l := X.drop (i * 3)) (by rw [List.length_drop]; omega), List.drop_of_length_le (l := (X.take (i * 3) ++ Y) ++ Z.drop ((i + 1) * 3)) (by rw [List.length_append, List.length_drop, hl]; omega), List.append_nil, List.append_assoc]
set_option maxRecDepth 100000 in
set_option maxHeartbeats 6400000 in
theorem insert_grow (B g c vb N i : Nat) (l : List Chg) (x : Chg) (w : World) (h : OwnChs w B (.slice (some ⟨g, 0, none⟩) N c) l) (hN : l.length = N) (hi : i < N) (hroom : c < N + 1) (hB : B ≤ w.heap.size) (hn : N ≤ 1000000)
    (hx : Box w vb 38 #[.string x.k, .string x.v, .bool x.g]) :
    Calls Try.prog 82 #[.slice (some ⟨g, 0, none⟩) N c, .int .i64 (i : Int), .slice (some ⟨vb, 0, none⟩) 1 1] w (InsPost B (.slice (some ⟨g, 0, none⟩) N c) (l.take i ++ ([x] ++ l.drop i)) w) := by
  have ho := h
  unfold OwnChs at ho
  rw [hN] at ho
  have hcN : N ≤ c := by
    obtain ⟨A0, c0, e0, h1, -⟩ := own_sliceN ho
    injection e0 with _ _ e0
    omega
  have hgw := (ho.lt g rfl).2
  have hvw : vb < w.heap.size := hx.lt
  have hlen : (chgCells l).length = N * 3 := by rw [chgCells_len, hN]
  obtain ⟨q, hq, hz, hs, hb⟩ := chg_elem.get
  have hhas := Has.of_ownN ho
  have hold : (Builtin.firstCells q.size i (.slice (some ⟨g, 0, none⟩) i c)).run Try.prog w.drew = .ok ((chgCells l).take (i * 3)).toArray w.drew := by
    rw [hs]
    exact run_firstCells_some w.drew 3 i ⟨g, 0, none⟩ i c ((chgCells l).take (i * 3)) (by rw [List.length_take]; omega) (fun j v hj => by
      rw [List.getElem?_take] at hj
      split at hj
      · obtain ⟨a', e', -, hc'⟩ := hhas.2 j v hj
        injection e' with e'
        subst e'
        exact hc'
      · cases hj)
  have hik : i + (N + 1 - i) = N + 1 := by omega
  have hap := fun ty => Lib.run_append_grow_zeros (P := Try.prog) w 22 3 ty 38 q _ .i64 .i64 Try.underlying22 Try.underlying3 hq hz (some ⟨g, 0, none⟩) i c _ hold (N + 1 - i) (by omega) (by rw [hs]; omega) (by omega) (by omega) (by rw [hb]; omega) (by rw [hb, hik]; exact growslice_fits hroom (by omega))
  rw [hik] at hap
  have hge := grownCap_ge w (N + 1) c 38
  have hle := grownCap_le_maxLen w (N + 1) c 38 (by unfold maxLen; omega)
  obtain ⟨G, hG⟩ : ∃ G, grownCap w (N + 1) c 38 = G := ⟨_, rfl⟩
  rw [hG] at hge hle
  simp only [hG] at hap
  obtain ⟨ROW, hROW⟩ : ∃ ROW, ((chgCells l).take (i * 3)).toArray ++ Builtin.zeroCells (Value.agg #[.string ⟨#[]⟩, .string ⟨#[]⟩, .bool false]).cells (N + 1 - i) ++ Builtin.zeroCells (Value.agg #[.string ⟨#[]⟩, .string ⟨#[]⟩, .bool false]).cells (G - (N + 1)) = ROW := ⟨_, rfl⟩
  simp only [hROW] at hap
  have hz3 : (Value.agg #[.string ⟨#[]⟩, .string ⟨#[]⟩, .bool false]).cells.size = 3 := rfl
  have hRs : ROW.size = G * 3 := by
    rw [← hROW, Array.size_append, Array.size_append, size_zeroCells, size_zeroCells, hz3, List.size_toArray, List.length_take]
    omega
  have hRt : ROW.toList.take (i * 3) = (chgCells l).take (i * 3) := by
    rw [← hROW]
    simp only [Array.toList_append]
    rw [List.append_assoc, List.take_left' (by simp; omega)]
  obtain ⟨Z, hZ⟩ : ∃ Z, ROW.toList.take ((N + 1) * 3) = Z := ⟨_, rfl⟩
  have hZl : Z.length = (N + 1) * 3 := by rw [← hZ, List.length_take, Array.length_toList, hRs]; omega
  have hZ1 : Z.take (i * 3) = (chgCells l).take (i * 3) := by rw [← hZ, List.take_take, Nat.min_eq_left (by omega), hRt]
  have hoR : ((w.alloc (.cells ROW 38)).drew).ownsRow w.heap.size 38 3 (.slice (some ⟨w.heap.size, 0, none⟩) (N + 1) G) (N + 1) Z :=
    ⟨hZl, .inr ⟨w.heap.size, G, ROW, rfl, Nat.le_refl _, heap_alloc_new w _, hge, hle, hRs, hZ⟩⟩
  have hbR : Below w.heap.size w ((w.alloc (.cells ROW 38)).drew) := (below_box _).drew
  have hxR := hx.below hbR hvw
  have hxh : Has ((w.alloc (.cells ROW 38)).drew) (vb + 1) (some ⟨vb, 0, none⟩) (1 * 3) (chgCells [x]) := by
    refine ⟨rfl, fun k u hu => ⟨_, rfl, by simp, ?_⟩⟩
    rw [add_zero_at, hxR.cell k, ← hu]
    simp [chgCells, ccells]
  obtain ⟨w1, hr1, ho1, hg1⟩ := run_copy_ownN (P := Try.prog) (t := 22) (ty := 3) Try.underlying22 chg_size (by omega) (o := i) (dl := N + 1 - i) hoR (G - i) 1 (by omega) hxh (by omega) (fun u hu => chgCells_one [x] u (List.mem_of_mem_take hu))
  have hsR : w.heap.size < ((w.alloc (.cells ROW 38)).drew).heap.size := by show w.heap.size < (w.alloc _).heap.size; simp
  have hb1 : Below w.heap.size w w1 := hbR.grown hg1 (Nat.le_of_lt hsR) fun k hk => by injection hk with hk; omega
  have hd := hhas.drop (k := i * 3) (by omega)
  rw [← sub3, Option.map_some, add_zero_at] at hd
  obtain ⟨w2, hr2, ho2, hg2⟩ := run_copy_ownN (P := Try.prog) (t := 22) (ty := 3) (w := w1.drew) Try.underlying22 chg_size (by omega) (o := i + 1) (dl := N + 1 - (i + 1)) (own_belowN ho1 (Below.refl _ _).drew) (G - (i + 1)) (c - i) (by omega) (hd.belowOf hb1.drew (Nat.le_refl _)) (by omega) (fun u hu => chgCells_one l u (List.mem_of_mem_drop (List.mem_of_mem_take hu)))
  rw [grow_cells (chgCells l) Z (chgCells [x]) hlen hZl hZ1 (by rfl) hi] at ho2
  have hb2 : Below w.heap.size w w2 := hb1.drew.grown hg2 hb1.size fun k hk => by injection hk with hk; omega
  have hG2 : w.grownBy w2 (some g) := ⟨hb2.os, hb2.tape, hb2.output, hb2.size, fun k hk _ => hb2.block k hk⟩
  have HE : Hid (OwnChs w2 B (.slice (some ⟨w.heap.size, 0, none⟩) (N + 1) G) (l.take i ++ ([x] ++ l.drop i)) ∧ w.grownBy w2 (some g)) := Lib.hid ⟨by unfold OwnChs; rw [ins_len l (by omega) x, hN, ins_cells]; exact own_baseN ho2 hB, hG2⟩
  have hkk : (N : Int) + 1 - (i : Int) = ((N + 1 - i : Nat) : Int) := by omega
  rw [← hkk] at hap
  have Hap := Lib.hid hap
  have Hr1 := Lib.hid hr1
  have Hr2 := Lib.hid hr2
  have hw1 : IntKind.i64.wrap ((i : Int) + 1) = (i : Int) + 1 := by rw [IntKind.wrap_i64]; omega
  have hb0 : (0 : Int) ≤ (i : Int) + 1 := by omega
  have htn : ((i : Int) + 1).toNat = i + 1 := by omega
  have hin : i ≤ N := by omega
  have hin2 : i ≤ c := by omega
  have hne : ¬ ((i : Int) = (N : Int)) := by omega
  have hc1 : ¬ (G = i + 1) := by omega
  have hc2 : ¬ (c = i) := by omega
  have hc3 : ¬ (G = i) := by omega
  have hb3 : (i : Int) ≤ (N : Int) + 1 := by omega
  have hgt : (c : Int) < (N : Int) + 1 := by omega
  unfold maxLen at hle
  clear h hN ho hgw hvw hlen hq hz hs hb hhas hold hik hG hROW hz3 hRs hRt hZ hZl hZ1 hoR hbR hxR hxh hr1 ho1 hg1 hsR hb1 hd hr2 ho2 hg2 hb2 hG2 hkk hap hx
  go_enter Try.func82, Try.ntmps82
  have hr1 := Hr1.out
  go_wp2_with (at_builtin; refine Lib.wpList_append_run _ rfl _ _ _ _ rfl _ _ rfl rfl _ _ (Hap.out _) ?_)
  go_region_law (refine step_run_copy rfl (.tmp 50) (.tmp 53) _ _ rfl (by simp [Act.eval, Act.put]) (by simp [Act.eval, Act.put]) Hr2.out ?_)
  go_wp2
  go_ret
  exact ⟨_, rfl, HE.out.1, HE.out.2, .inr ⟨_, Nat.le_refl _, rfl⟩⟩
theorem insert_any (v : Value) (B vb N i : Nat) (l : List Chg) (x : Chg) (w : World) (h : OwnChs w B v l) (hN : l.length = N) (hi : i ≤ N) (hB : B ≤ w.heap.size) (hn : N ≤ 1000000) (hvb : v.ownBlock ≠ some vb)
    (hx : Box w vb 38 #[.string x.k, .string x.v, .bool x.g]) :
    Calls Try.prog 82 #[v, .int .i64 (i : Int), .slice (some ⟨vb, 0, none⟩) 1 1] w (InsPost B v (l.take i ++ ([x] ++ l.drop i)) w) := by
  by_cases e : i = N
  · subst e
    have hxh : Has w w.heap.size (some ⟨vb, 0, none⟩) (1 * 3) (chgCells [x]) := by
      refine ⟨rfl, fun k u hu => ⟨_, rfl, hx.lt, ?_⟩⟩
      rw [add_zero_at, hx.cell k, ← hu]
      simp [chgCells, ccells]
    have h1 := insert_end v B vb i l x w h hN hB hn hxh
    rwa [List.take_of_length_le (by omega), List.drop_of_length_le (by omega), List.append_nil]
  · have ho := h
    unfold OwnChs at ho
    rw [hN] at ho
    obtain ⟨A, c, rfl, h1, h2, -⟩ := own_sliceN ho
    obtain ⟨g, rfl, -⟩ := own_head ho (by omega)
    by_cases hc : N + 1 ≤ c
    · exact insert_shift B g c vb N i l x w (by rw [← hN]; rw [← hN] at h; exact h) hN (by omega) hc (by unfold maxLen at h2; omega) hn (fun e => hvb (by rw [e]; rfl)) hx
    · exact insert_grow B g c vb N i l x w h hN (by omega) (by omega) hB hn hx
end Go.Proofs.Yteioopcacpihpaa

namespace Go.Proofs.Yteioopcacpihpaa
open Go.RowKit
open Go.Lib (strCells compareBytes)

/-- what stands in a cell, whatever it is -/
def atC (w : World) (g i : Nat) : Value := (w.cell? ⟨g, i, none⟩).getD undef
theorem Box.atC {w : World} {g : Nat} {t : TypeId} {cs : Array Value} (h : Box w g t cs) {i : Nat} (hi : i < cs.size) : w.cell? ⟨g, i, none⟩ = some (atC w g i) := by
  unfold Go.Proofs.Yteioopcacpihpaa.atC
  rw [h.cell i, Array.getElem?_eq_getElem hi]
  rfl
theorem set_cells {W : World} {g i : Nat} {t : TypeId} {cs : Array Value} {u : Value} (h : Box (W.setCell ⟨g, i, none⟩ u) g t cs) : ∃ cs0, Box W g t cs0 ∧ cs = cs0.setIfInBounds i u := by
  unfold Box at h ⊢
  cases e : W.heap[g]? with
  | none => simp [World.setCell, Array.getElem?_modify, e] at h
  | some o =>
    cases o with
    | cells cs0 t0 m0 =>
      simp [World.setCell, Array.getElem?_modify, e] at h
      obtain ⟨h1, h2, h3⟩ := h
      subst h2
      subst h3
      exact ⟨cs0, rfl, h1.symm⟩
    | _ => simp [World.setCell, Array.getElem?_modify, e] at h
/-- three stores into a box of three cells: what stands there then -/
theorem set3_vals {W : World} {g : Nat} {t : TypeId} {cs : Array Value} {x y z : Value} (h : Box (((W.setCell ⟨g, 0, none⟩ x).setCell ⟨g, 1, none⟩ y).setCell ⟨g, 2, none⟩ z) g t cs) (hs : cs.size = 3) : cs = #[x, y, z] := by
  obtain ⟨c2, h2, e2⟩ := set_cells h
  obtain ⟨c1, h1, e1⟩ := set_cells h2
  obtain ⟨c0, h0, e0⟩ := set_cells h1
  subst e2
  subst e1
  subst e0
  simp at hs
  obtain ⟨l⟩ := c0
  match l, hs with
  | [a, b, c], _ => rfl
/-- what is known while a change is made anew -/
structure OwS (w : World) (k v : ByteArray) (b : Bool) (wx : World) : Prop where
  box : Box wx w.heap.size 38 #[.string k, .string v, .bool b]
  res : ∃ cs, cs.size = 3 ∧ Box wx (w.heap.size + 1) 38 cs
  below : Below w.heap.size w wx
section
variable {w wx w' : World} {k v : ByteArray} {b : Bool}
theorem OwS.start (w : World) (k v : ByteArray) (b : Bool) : OwS w k v b ((w.alloc (.cells #[.string k, .string v, .bool b] 38)).alloc (.cells #[.string ⟨#[]⟩, .string ⟨#[]⟩, .bool false] 38)).drew :=
  ⟨(ClS.start w k v b).box, ⟨_, rfl, (ClS.start w k v b).res⟩, (ClS.start w k v b).below⟩
theorem OwS.call (h : OwS w k v b wx) (hb : Below wx.heap.size wx w') : OwS w k v b w' := by
  obtain ⟨cs, h1, h2⟩ := h.res
  exact ⟨h.box.below hb h.box.lt, ⟨cs, h1, h2.below hb h2.lt⟩, h.below.trans (hb.mono h.below.size)⟩
theorem OwS.set (h : OwS w k v b wx) (i : Nat) (u : Value) : OwS w k v b (wx.setCell ⟨w.heap.size + 1, i, none⟩ u) := by
  obtain ⟨cs, h1, h2⟩ := h.res
  exact ⟨h.box.far (by show w.heap.size ≠ w.heap.size + 1; omega) _, ⟨_, by simpa using h1, h2.set_ i u⟩, h.below.setCell (Nat.le_succ _) _⟩
def OwC (w : World) (k v : ByteArray) (b : Bool) (wx : World) : Prop :=
  ((wx.cell? ⟨w.heap.size, 0, none⟩ = some (.string k) ∧ wx.cell? ⟨w.heap.size, 1, none⟩ = some (.string v) ∧ wx.cell? ⟨w.heap.size, 2, none⟩ = some (.bool b)) ∧
    (wx.frozen? ⟨w.heap.size + 1, 0, none⟩ = false ∧ wx.frozen? ⟨w.heap.size + 1, 1, none⟩ = false ∧ wx.frozen? ⟨w.heap.size + 1, 2, none⟩ = false) ∧
    (wx.cell? ⟨w.heap.size + 1, 0, none⟩ = some (atC wx (w.heap.size + 1) 0) ∧ wx.cell? ⟨w.heap.size + 1, 1, none⟩ = some (atC wx (w.heap.size + 1) 1) ∧ wx.cell? ⟨w.heap.size + 1, 2, none⟩ = some (atC wx (w.heap.size + 1) 2))) ∧ OwS w k v b wx
theorem OwS.both (h : OwS w k v b wx) : OwC w k v b wx := by
  obtain ⟨cs, h1, h2⟩ := h.res
  exact ⟨⟨⟨h.box.cell 0, h.box.cell 1, h.box.cell 2⟩, ⟨h2.frozen 0, h2.frozen 1, h2.frozen 2⟩, ⟨h2.atC (by omega), h2.atC (by omega), h2.atC (by omega)⟩⟩, h⟩
end
set_option maxRecDepth 100000 in
set_option maxHeartbeats 3200000 in
theorem own_box (k v v' : ByteArray) (g : Bool) (hg : (g = false ∧ v' = v) ∨ (g = true ∧ v' = ⟨#[]⟩)) (w : World) (hk : k.size ≤ 140737488355328) (hv : v'.size ≤ 140737488355328) :
    Calls Try.prog 80 #[.agg #[.string k, .string v, .bool g]] w fun e w' => e = .returned (.agg #[.string k, .string v', .bool g]) ∧ Below w.heap.size w w' := by
  have HS := Lib.hid (OwS.start w k v' g).both
  unfold OwC at HS
  rcases hg with ⟨rfl, rfl⟩ | ⟨rfl, rfl⟩
  · go_enter Try.func80, Try.ntmps80
    go_wp2
    go_region_held3 (fun wx => ((wx.cell? ⟨w.heap.size, 0, none⟩ = some (.string k) ∧ wx.cell? ⟨w.heap.size, 1, none⟩ = some (.string v') ∧ wx.cell? ⟨w.heap.size, 2, none⟩ = some (.bool false)) ∧
      (wx.frozen? ⟨w.heap.size + 1, 0, none⟩ = false ∧ wx.frozen? ⟨w.heap.size + 1, 1, none⟩ = false ∧ wx.frozen? ⟨w.heap.size + 1, 2, none⟩ = false) ∧
      (wx.cell? ⟨w.heap.size + 1, 0, none⟩ = some (atC wx (w.heap.size + 1) 0) ∧ wx.cell? ⟨w.heap.size + 1, 1, none⟩ = some (atC wx (w.heap.size + 1) 1) ∧ wx.cell? ⟨w.heap.size + 1, 2, none⟩ = some (atC wx (w.heap.size + 1) 2))) ∧ OwS w k v' false wx)
      (first | exact HS.out | exact OwS.both (OwS.call (And.right (by assumption)) hb) | exact OwS.both (OwS.set (OwS.set (OwS.set (And.right (by assumption)) 0 _) 1 _) 2 _))
      (first | (go_at_call 59; refine (clone_any _ _ (by first | exact hk | exact hv)).mono ?_; rintro e w' ⟨rfl, hb⟩))
    all_goals
      have hS := (‹_ ∧ OwS w k v' false (World.setCell _ _ _)›).2
      have Hb3 := Lib.hid hS.below
      obtain ⟨cs, h1, h2⟩ := hS.res
      obtain rfl := set3_vals h2 h1
      have p0 := h2.cell 0
      have p1 := h2.cell 1
      have p2 := h2.cell 2
      clear hb hS h1 h2
      clear ‹_ ∧ OwS w k v' false (World.setCell _ _ _)›
      obtain ⟨W3, hW3⟩ : ∃ W3, ((w'.setCell ⟨w.heap.size + 1, 0, none⟩ (.string k)).setCell ⟨w.heap.size + 1, 1, none⟩ (.string v')).setCell ⟨w.heap.size + 1, 2, none⟩ (.bool false) = W3 := ⟨_, rfl⟩
      rw [hW3] at p0 p1 p2 Hb3 ⊢
      clear hW3
      simp at p0 p1 p2
      go_wp2
      refine bodyPost_ret (v := .agg #[.string k, .string v', .bool false]) ?_ rfl ⟨rfl, Hb3.out⟩
      simp [results, Try.results80, go_sem, p0, p1, p2]
  · go_enter Try.func80, Try.ntmps80
    go_wp2
    go_region_held3 (fun wx => ((wx.cell? ⟨w.heap.size, 0, none⟩ = some (.string k) ∧ wx.cell? ⟨w.heap.size, 1, none⟩ = some (.string ⟨#[]⟩) ∧ wx.cell? ⟨w.heap.size, 2, none⟩ = some (.bool true)) ∧
      (wx.frozen? ⟨w.heap.size + 1, 0, none⟩ = false ∧ wx.frozen? ⟨w.heap.size + 1, 1, none⟩ = false ∧ wx.frozen? ⟨w.heap.size + 1, 2, none⟩ = false) ∧
      (wx.cell? ⟨w.heap.size + 1, 0, none⟩ = some (atC wx (w.heap.size + 1) 0) ∧ wx.cell? ⟨w.heap.size + 1, 1, none⟩ = some (atC wx (w.heap.size + 1) 1) ∧ wx.cell? ⟨w.heap.size + 1, 2, none⟩ = some (atC wx (w.heap.size + 1) 2))) ∧ OwS w k ⟨#[]⟩ true wx)
      (first | exact HS.out | exact OwS.both (OwS.call (And.right (by assumption)) hb) | exact OwS.both (OwS.set (OwS.set (OwS.set (And.right (by assumption)) 0 _) 1 _) 2 _))
      (first | (go_at_call 59; refine (clone_any _ _ (by first | exact hk | exact hv)).mono ?_; rintro e w' ⟨rfl, hb⟩))
    all_goals
      have hS := (‹_ ∧ OwS w k ⟨#[]⟩ true (World.setCell _ _ _)›).2
      have Hb3 := Lib.hid hS.below
      obtain ⟨cs, h1, h2⟩ := hS.res
      obtain rfl := set3_vals h2 h1
      have p0 := h2.cell 0
      have p1 := h2.cell 1
      have p2 := h2.cell 2
      clear hb hS h1 h2
      clear ‹_ ∧ OwS w k ⟨#[]⟩ true (World.setCell _ _ _)›
      obtain ⟨W3, hW3⟩ : ∃ W3, ((w'.setCell ⟨w.heap.size + 1, 0, none⟩ (.string k)).setCell ⟨w.heap.size + 1, 1, none⟩ (.string ⟨#[]⟩)).setCell ⟨w.heap.size + 1, 2, none⟩ (.bool true) = W3 := ⟨_, rfl⟩
      rw [hW3] at p0 p1 p2 Hb3 ⊢
      clear hW3
      simp at p0 p1 p2
      go_wp2
      refine bodyPost_ret (v := .agg #[.string k, .string ⟨#[]⟩, .bool true]) ?_ rfl ⟨rfl, Hb3.out⟩
      simp [results, Try.results80, go_sem, p0, p1, p2]
theorem own_any (c : Chg) (w : World) (hk : c.k.size ≤ 140737488355328) (hv : c.v.size ≤ 140737488355328) : Calls Try.prog 80 #[cagg c] w fun e w' => e = .returned (cagg (tidy c)) ∧ Below w.heap.size w w' := by
  obtain ⟨k, v, g⟩ := c
  cases g with
  | false => exact own_box k v v false (.inl ⟨rfl, rfl⟩) w hk hv
  | true => exact own_box k v ⟨#[]⟩ true (.inr ⟨rfl, rfl⟩) w hk (by show 0 ≤ _; omega)
end Go.Proofs.Yteioopcacpihpaa

namespace Go.Proofs.Yteioopcacpihpaa
open Go.RowKit
open Go.Lib (strCells compareBytes)

theorem chgCells_set2 : ∀ (l : List Chg) (i : Nat) (x : Chg), chgCells (l.set i x) = (((chgCells l).set (i * 3) (.string x.k)).set (i * 3 + 1) (.string x.v)).set (i * 3 + 2) (.bool x.g)
  | [], i, v => by simp [chgCells]
  | w :: l, 0, v => by simp [chgCells, ccells]
  | w :: l, i + 1, v => by
    rw [show (i + 1) * 3 = i * 3 + 1 + 1 + 1 from by omega]
    simp [chgCells, ccells, chgCells_set2 l i v]
theorem putC_at {T : List Chg} {c : Chg} {i : Nat} {f : Bool} (h : PlaceIs T c.kb i f) : (f = true → i < T.length ∧ putC (tidy c) T = T.set i (tidy c)) ∧ (f = false → putC (tidy c) T = T.take i ++ ([tidy c] ++ T.drop i)) := by
  obtain ⟨h0, h1, h2, h3, h4⟩ := h
  have h1' : ∀ x ∈ T.take i, x.kb < (tidy c).kb := fun x hx => by rw [tidy_kb]; exact h1 x hx
  constructor
  · intro e
    obtain ⟨y, hy, hk⟩ := h3 e
    have hi := (List.getElem?_eq_some_iff.1 hy).1
    have hn : ¬ y.kb < (tidy c).kb := by rw [tidy_kb, hk]; exact lt_irr _
    have := putC_stop h1' hy hn
    rw [if_pos (by rw [tidy_kb, hk])] at this
    refine ⟨hi, ?_⟩
    rw [this, List.set_eq_take_append_cons_drop, if_pos hi]
    simp
  · intro e
    cases hy : T[i]? with
    | none =>
      rw [putC_end h1' (by rw [List.getElem?_eq_none_iff] at hy; exact hy), List.append_assoc]
    | some y =>
      have hi := (List.getElem?_eq_some_iff.1 hy).1
      have hmem : y ∈ T.drop i := by rw [List.drop_eq_getElem_cons hi]; rw [List.getElem?_eq_getElem hi] at hy; injection hy with hy; simp [hy]
      have hn : ¬ y.kb < (tidy c).kb := by rw [tidy_kb]; exact h2 y hmem
      have := putC_stop h1' hy hn
      rw [if_neg (by rw [tidy_kb]; exact h4 e y hy)] at this
      rw [this, List.append_assoc]
theorem tidy_small4 {c : Chg} (h : c.k.size ≤ 4000 ∧ c.v.size ≤ 4000) : (tidy c).k.size ≤ 4000 ∧ (tidy c).v.size ≤ 4000 := by
  unfold tidy
  split
  · exact ⟨h.1, by show 0 ≤ _; omega⟩
  · exact h
/-- how many pairs there are then -/
def pairsN (pairs : Int) (old new : Bool) : Int := pairs - (one old : Int) + (one new : Int)
theorem put_pure {H : Nat} {lim pairs p : Int} {T : List Chg} {Ls : List (List Chg)} {M : List Chg} (hp : EngP H lim pairs T Ls) (hM : absL (T :: Ls) = M) {c : Chg} (hc : c.k.size ≤ 4000 ∧ c.v.size ≤ 4000) (hpp : p = pairsN pairs (look c.kb M).isSome (!c.g)) :
    EngP (H + 1) lim p (putC (tidy c) T) Ls ∧ absL (putC (tidy c) T :: Ls) = mapP c M := by
  have hT := hp.runs T (by simp)
  have hR : ∀ r ∈ Ls, Run r := fun r hr => hp.runs r (List.mem_cons_of_mem _ hr)
  have habs := abs_put hT hR c
  rw [hM] at habs
  refine ⟨⟨hp.lim1, fun r hr => ?_, hp.full, ?_, ?_, fun r hr x hx => ?_⟩, habs⟩
  · rcases List.mem_cons.1 hr with rfl | hr
    · exact run_put hT c
    · exact hR r hr
  · rw [habs, hpp]
    have h1 := len_mapP c (l := M) (hM ▸ srt_abs _)
    have h2 := hp.num
    rw [hM] at h2
    unfold pairsN
    omega
  · have := len_putC (tidy c) T
    have := hp.held
    omega
  · rcases List.mem_cons.1 hr with rfl | hr
    · rcases mem_putC hx with rfl | hx
      · exact tidy_small4 hc
      · exact hp.small T (by simp) x hx
    · exact hp.small r (List.mem_cons_of_mem _ hr) x hx
/-- an engine beside other blocks that turn -/
theorem EngAt.frm {S : Nat → Prop} {w w1 : World} {e : Nat} {lim pairs : Int} {tv rv : Value} {T : List Chg} {rs : Crs} (h : EngAt w e lim pairs tv rv T rs) (hf : Frm S w w1) (he : ¬ S e) (ht : ∀ g, tv.ownBlock = some g → ¬ S g) (hr : ∀ g, rv.ownBlock = some g → ¬ S g) (hc : ∀ r ∈ rs, ∀ g, r.1.ownBlock = some g → ¬ S g) : EngAt w1 e lim pairs tv rv T rs := by
  refine ⟨h.box.frm hf he, h.tab.frm hf ht, ?_, h.offR, h.offC, fun g hg => Nat.lt_of_lt_of_le (h.oldR g hg) hf.size, fun r hr g hg => Nat.lt_of_lt_of_le (h.oldC r hr g hg) hf.size, h.kindR.frm hf hr, fun r hr' => (h.kindC r hr').frm hf (hc r hr')⟩
  obtain ⟨A, c, rfl, h1, h2, h3⟩ := h.run
  refine ⟨A, c, rfl, h1, h2, h3.1.frm hf (fun a ea => hr _ (by rw [ea]; rfl)), fun r hrr => ?_⟩
  obtain ⟨A', m', c', e1, g1, g2, g3⟩ := h3.2 r hrr
  exact ⟨A', m', c', e1, g1, g2, chs_frm g3 hf fun a ea => hc r hrr _ (by rw [e1, ea]; rfl)⟩
/-- the number of pairs is written -/
theorem EngAt.set1 {w : World} {e : Nat} {lim pairs : Int} {tv rv : Value} {T : List Chg} {rs : Crs} (h : EngAt w e lim pairs tv rv T rs) (hte : tv.ownBlock ≠ some e) (p : Int) : EngAt (w.setCell ⟨e, 1, none⟩ (.int .i64 p)) e lim p tv rv T rs ∧ Frm (fun i => i = e) w (w.setCell ⟨e, 1, none⟩ (.int .i64 p)) := by
  have hf : Frm (fun i => i = e) w (w.setCell ⟨e, 1, none⟩ (.int .i64 p)) := Frm.set (S := fun i => i = e) (Frm.refl _ _) (.inl rfl) _
  refine ⟨⟨eng_set1 h.box _, h.tab.frm hf fun g hg h' => hte (h' ▸ hg), ?_, h.offR, h.offC, fun g hg => Nat.lt_of_lt_of_le (h.oldR g hg) hf.size, fun r hr g hg => Nat.lt_of_lt_of_le (h.oldC r hr g hg) hf.size, h.kindR.frm hf fun g hg h' => h.offR.1 (h' ▸ hg), fun r hr => (h.kindC r hr).frm hf fun g hg h' => (h.offC r hr).1 (h' ▸ hg)⟩, hf⟩
  obtain ⟨A, c, rfl, h1, h2, h3⟩ := h.run
  refine ⟨A, c, rfl, h1, h2, h3.1.frm hf (fun a ea h' => h.offR.1 (by rw [ea]; exact congrArg some h')), fun r hrr => ?_⟩
  obtain ⟨A', m', c', e1, g1, g2, g3⟩ := h3.2 r hrr
  exact ⟨A', m', c', e1, g1, g2, chs_frm g3 hf fun a ea h' => (h.offC r hrr).1 (by rw [e1, ea]; exact congrArg some h')⟩
/-- an engine's table never lies in its box -/
theorem EngAt.apart {w : World} {e : Nat} {lim pairs : Int} {tv rv : Value} {T : List Chg} {rs : Crs} (h : EngAt w e lim pairs tv rv T rs) : tv.ownBlock ≠ some e := by
  intro h1
  have hb : w.heap[e]? = some (.cells #[.int .i64 lim, .int .i64 pairs, tv, rv] 86 (0, 0)) := h.box
  rcases h.tab.2 with ⟨hv, -⟩ | ⟨g, cap, cur, hv, -, hg, -⟩
  · rw [hv] at h1
    cases h1
  · rw [hv] at h1
    injection h1 with h1
    have h1 : g = e := h1
    rw [h1, hb] at hg
    injection hg with hg
    injection hg with _ hg _
    exact absurd hg (by decide)
/-- a new table -/
theorem ins_mem {w0 w1 : World} {e B : Nat} {lim pairs : Int} {tv rv v' : Value} {T L : List Chg} {rs : Crs} (h : EngAt w0 e lim pairs tv rv T rs) (ho : OwnChs w1 B v' L) (hg : w0.grownBy w1 tv.ownBlock) (hn : v'.ownBlock = tv.ownBlock ∨ ∃ g, w0.heap.size ≤ g ∧ v'.ownBlock = some g) :
    EngAt (w1.setCell ⟨e, 2, none⟩ v') e lim pairs v' rv L rs ∧ Frm (fun i => i = e ∨ tv.ownBlock = some i) w0 (w1.setCell ⟨e, 2, none⟩ v') := by
  have hap := h.apart
  have hf0 : Frm (fun i => i = e ∨ tv.ownBlock = some i) w0 w1 := (Frm.grown hg).mono fun i hi => .inr hi
  have hf1 : Frm (fun i => i = e) w1 (w1.setCell ⟨e, 2, none⟩ v') := Frm.set (S := fun i => i = e) (Frm.refl _ _) (.inl rfl) _
  have hf : Frm (fun i => i = e ∨ tv.ownBlock = some i) w0 (w1.setCell ⟨e, 2, none⟩ v') := hf0.trans hf1 fun i hi => .inl (.inl hi)
  have he := h.box.lt
  have hbx : Box w1 e 86 #[.int .i64 lim, .int .i64 pairs, tv, rv] := h.box.frm (Frm.grown hg) hap
  have hv : ∀ g, v'.ownBlock = some g → g ≠ e ∧ (tv.ownBlock = some g ∨ w0.heap.size ≤ g) := fun g hg' => by
    rcases hn with e1 | ⟨q, hq, e1⟩
    · rw [e1] at hg'
      exact ⟨fun h' => hap (h' ▸ hg'), .inl hg'⟩
    · rw [e1] at hg'
      injection hg' with hg'
      exact ⟨by omega, .inr (by omega)⟩
  obtain ⟨A, c, hrv, h1, h2, h3⟩ := h.run
  have hin : ∀ {v : Value}, (∀ g, v.ownBlock = some g → g < w0.heap.size) → (∀ g, tv.ownBlock = some g → v.ownBlock ≠ some g) → ∀ g, v'.ownBlock = some g → v.ownBlock ≠ some g := fun h1 h2 g hg' h' => by
    rcases (hv g hg').2 with h5 | h5
    · exact h2 g h5 h'
    · have := h1 g h'
      omega
  refine ⟨⟨eng_set2 hbx _, own_baseN (ho.frm hf1 fun g hg' h' => (hv g hg').1 h') (Nat.zero_le _), ⟨A, c, hrv, h1, h2, h3.1.frm hf fun a ea h' => ?_, fun r hr => ?_⟩, ⟨h.offR.1, hin h.oldR h.offR.2⟩, fun r hr => ⟨(h.offC r hr).1, hin (h.oldC r hr) (h.offC r hr).2⟩, fun g hg => Nat.lt_of_lt_of_le (h.oldR g hg) hf.size, fun r hr g hg => Nat.lt_of_lt_of_le (h.oldC r hr g hg) hf.size, h.kindR.frm hf fun g hg h' => h'.elim (fun h5 => h.offR.1 (h5 ▸ hg)) fun h5 => h.offR.2 g h5 hg, fun r hr => (h.kindC r hr).frm hf fun g hg h' => h'.elim (fun h5 => (h.offC r hr).1 (h5 ▸ hg)) fun h5 => (h.offC r hr).2 g h5 hg⟩, hf⟩
  · rcases h' with h' | h'
    · exact h.offR.1 (by rw [hrv, ea]; exact congrArg some h')
    · exact h.offR.2 _ h' (by rw [hrv, ea]; rfl)
  · obtain ⟨A', m', c', e1, g1, g2, g3⟩ := h3.2 r hr
    refine ⟨A', m', c', e1, g1, g2, chs_frm g3 hf fun a ea h' => ?_⟩
    rcases h' with h' | h'
    · exact (h.offC r hr).1 (by rw [e1, ea]; exact congrArg some h')
    · exact (h.offC r hr).2 _ h' (by rw [e1, ea]; rfl)
/-- a change is written over one of the table -/
theorem tab_mem {w : World} {e i : Nat} {lim pairs : Int} {tv rv : Value} {T : List Chg} {rs : Crs} (h : EngAt w e lim pairs tv rv T rs) (hi : i < T.length) (x : Chg) :
    ∃ g c, tv = .slice (some ⟨g, 0, none⟩) T.length c ∧ ((∃ u, w.cell? ⟨g, i * 3, none⟩ = some u) ∧ (∃ u, (w.setCell ⟨g, i * 3, none⟩ (.string x.k)).cell? ⟨g, i * 3 + 1, none⟩ = some u) ∧ (∃ u, ((w.setCell ⟨g, i * 3, none⟩ (.string x.k)).setCell ⟨g, i * 3 + 1, none⟩ (.string x.v)).cell? ⟨g, i * 3 + 2, none⟩ = some u)) ∧
      (w.frozen? ⟨g, i * 3, none⟩ = false ∧ (w.setCell ⟨g, i * 3, none⟩ (.string x.k)).frozen? ⟨g, i * 3 + 1, none⟩ = false ∧ ((w.setCell ⟨g, i * 3, none⟩ (.string x.k)).setCell ⟨g, i * 3 + 1, none⟩ (.string x.v)).frozen? ⟨g, i * 3 + 2, none⟩ = false) ∧
      EngAt (((w.setCell ⟨g, i * 3, none⟩ (.string x.k)).setCell ⟨g, i * 3 + 1, none⟩ (.string x.v)).setCell ⟨g, i * 3 + 2, none⟩ (.bool x.g)) e lim pairs tv rv (T.set i x) rs ∧
      Frm (fun j => j = e ∨ tv.ownBlock = some j) w (((w.setCell ⟨g, i * 3, none⟩ (.string x.k)).setCell ⟨g, i * 3 + 1, none⟩ (.string x.v)).setCell ⟨g, i * 3 + 2, none⟩ (.bool x.g)) := by
  obtain ⟨A, c, htv, -⟩ := h.tab.slice
  have ho := h.tab
  unfold OwnChs at ho
  have ho' := ho
  rw [htv] at ho'
  obtain ⟨g, rfl, -⟩ := own_head ho' (by omega)
  have hl := chgCells_len T
  have s1 := ho'.stored (i * 3) (.string x.k)
  have s2 := s1.1.stored (i * 3 + 1) (.string x.v)
  have s3 := s2.1.stored (i * 3 + 2) (.bool x.g)
  have hG : w.grownBy (((w.setCell ⟨g, i * 3, none⟩ (.string x.k)).setCell ⟨g, i * 3 + 1, none⟩ (.string x.v)).setCell ⟨g, i * 3 + 2, none⟩ (.bool x.g)) (some g) := grownBy_trans2 (grownBy_trans2 s1.2 s2.2) s3.2
  have hS : ∀ j, (some g = some j) → tv.ownBlock = some j := fun j hj => by rw [htv]; exact hj
  have hf : Frm (fun j => tv.ownBlock = some j) w (((w.setCell ⟨g, i * 3, none⟩ (.string x.k)).setCell ⟨g, i * 3 + 1, none⟩ (.string x.v)).setCell ⟨g, i * 3 + 2, none⟩ (.bool x.g)) := (Frm.grown hG).mono fun j hj => hS j hj
  refine ⟨g, c, htv, ⟨⟨_, (ho'.cellAt (i * 3) (by omega)).trans (List.getElem?_eq_getElem (by omega))⟩, ⟨_, (s1.1.cellAt (i * 3 + 1) (by omega)).trans (List.getElem?_eq_getElem (by rw [List.length_set]; omega))⟩, ⟨_, (s2.1.cellAt (i * 3 + 2) (by omega)).trans (List.getElem?_eq_getElem (by rw [List.length_set, List.length_set]; omega))⟩⟩, ⟨ho'.frozenAt _, s1.1.frozenAt _, s2.1.frozenAt _⟩, ⟨h.box.frm hf h.apart, ?_, ?_, h.offR, h.offC, fun g hg => Nat.lt_of_lt_of_le (h.oldR g hg) hf.size, fun r hr g hg => Nat.lt_of_lt_of_le (h.oldC r hr g hg) hf.size, h.kindR.frm hf fun g hg h' => h.offR.2 g h' hg, fun r hr => (h.kindC r hr).frm hf fun g hg h' => (h.offC r hr).2 g h' hg⟩, hf.mono fun j hj => .inr hj⟩
  · unfold OwnChs
    rw [List.length_set, chgCells_set2, htv]
    exact s3.1
  · obtain ⟨A, c', hrv, h1, h2, h3⟩ := h.run
    refine ⟨A, c', hrv, h1, h2, h3.1.frm hf (fun a ea h' => h.offR.2 _ h' (by rw [hrv, ea]; rfl)), fun r hrr => ?_⟩
    obtain ⟨A', m', c'', e1, g1, g2, g3⟩ := h3.2 r hrr
    exact ⟨A', m', c'', e1, g1, g2, chs_frm g3 hf fun a ea h' => (h.offC r hrr).2 _ h' (by rw [e1, ea]; rfl)⟩
theorem tab_mem2 {w : World} {e i g n c : Nat} {lim pairs : Int} {rv : Value} {T : List Chg} {rs : Crs} (h : EngAt w e lim pairs (.slice (some ⟨g, 0, none⟩) n c) rv T rs) (hi : i < T.length) (x : Chg) :
    ((∃ u, w.cell? ⟨g, i * 3, none⟩ = some u) ∧ (∃ u, (w.setCell ⟨g, i * 3, none⟩ (.string x.k)).cell? ⟨g, i * 3 + 1, none⟩ = some u) ∧ (∃ u, ((w.setCell ⟨g, i * 3, none⟩ (.string x.k)).setCell ⟨g, i * 3 + 1, none⟩ (.string x.v)).cell? ⟨g, i * 3 + 2, none⟩ = some u)) ∧
      (w.frozen? ⟨g, i * 3, none⟩ = false ∧ (w.setCell ⟨g, i * 3, none⟩ (.string x.k)).frozen? ⟨g, i * 3 + 1, none⟩ = false ∧ ((w.setCell ⟨g, i * 3, none⟩ (.string x.k)).setCell ⟨g, i * 3 + 1, none⟩ (.string x.v)).frozen? ⟨g, i * 3 + 2, none⟩ = false) ∧
      (EngAt (((w.setCell ⟨g, i * 3, none⟩ (.string x.k)).setCell ⟨g, i * 3 + 1, none⟩ (.string x.v)).setCell ⟨g, i * 3 + 2, none⟩ (.bool x.g)) e lim pairs (.slice (some ⟨g, 0, none⟩) n c) rv (T.set i x) rs ∧
      Frm (fun j => j = e ∨ g = j) w (((w.setCell ⟨g, i * 3, none⟩ (.string x.k)).setCell ⟨g, i * 3 + 1, none⟩ (.string x.v)).setCell ⟨g, i * 3 + 2, none⟩ (.bool x.g))) := by
  obtain ⟨g', c', e1, h1, h2, h3, h4⟩ := tab_mem h hi x
  injection e1 with e1 _ _
  injection e1 with e1
  injection e1 with e1
  subst e1
  exact ⟨h1, h2, h3, h4.mono fun j hj => hj.imp id fun h5 => by injection h5⟩
end Go.Proofs.Yteioopcacpihpaa
