/- slices.SortFunc of ranges by where they begin (the kit's contract of the library's sort, in this repo's words). Condition: the row is the call's own. -/
import Derived.Test.YtijcaefpainhcaaRngD
import Derived.Test.YtijcaefpainhcaaShelf
import Derived.Shelf.SlSortCmp.NoneTotal
namespace Go.Proofs.Ytijcaefpainhcaa
open Go.RowKit
open Go.Lib (strCells compareBytes)

def encR (r : Rg) : List Value := [.string r.lo, .string r.hi]
theorem flat_rg (l : List Rg) : (Go.Sort.flatK encR 2 l.toArray).toList = rgCells l := by
  refine List.ext_getElem? fun t => ?_
  by_cases ht : t < l.length * 2
  · have hs : (Go.Sort.flatK encR 2 l.toArray).size = l.length * 2 := by simp
    have hi : t / 2 < l.length := by omega
    have hg := Go.Sort.get_flatK encR 2 l.toArray t (by simpa using ht)
    have e1 : (Go.Sort.flatK encR 2 l.toArray).toList[t]? = some ((Go.Sort.flatK encR 2 l.toArray)[t]!) := by
      rw [Array.getElem?_toList, Array.getElem?_eq_getElem (by omega), getElem!_pos (Go.Sort.flatK encR 2 l.toArray) t (by omega)]
    have e2 : l.toArray[t / 2]! = l[t / 2] := by simp [hi]
    rw [e1, hg, e2]
    obtain ⟨c0, c1⟩ := rgCells_at l (t / 2) l[t / 2] (List.getElem?_eq_getElem hi)
    have hc : t = t / 2 * 2 ∧ t % 2 = 0 ∨ t = t / 2 * 2 + 1 ∧ t % 2 = 1 := by omega
    rcases hc with ⟨e, e0⟩ | ⟨e, e0⟩
    · rw [e0]
      conv => rhs; rw [e]
      rw [c0]; rfl
    · rw [e0]
      conv => rhs; rw [e]
      rw [c1]; rfl
  · rw [List.getElem?_eq_none (by simp; omega), List.getElem?_eq_none (by rw [rgCells_len]; omega)]
theorem own_holds {w : World} {B g c : Nat} {l : List Rg} (h : OwnRgs w B (.slice (some ⟨g, 0, none⟩) l.length c) l) : Go.Sort.HoldsK encR 2 w g 0 l.toArray := by
  intro j hj
  have hj' : j < l.length * 2 := by simpa using hj
  have hc := World.ownsRow.cellAt h j hj'
  have hl : j < (rgCells l).length := by rw [rgCells_len]; exact hj'
  refine ⟨?_, by rw [Nat.zero_add]; exact World.ownsRow.frozenAt h j⟩
  rw [Nat.zero_add, hc, ← flat_rg l, Array.getElem?_toList, Array.getElem?_eq_getElem hj, getElem!_pos (Go.Sort.flatK encR 2 l.toArray) j hj]
  rfl
theorem put_heap {w : World} {g i : Nat} {F : Array Value} (hi : i ≠ g) : (Go.Sort.putRow (id : Value → Value) w g 0 F).heap[i]? = w.heap[i]? := by
  unfold Go.Sort.putRow Go.Sort.mapBlock
  simp [Array.getElem?_modify, Ne.symm hi]
/-- the row as the sort has left it -/
theorem own_sorted {w : World} {B g c m : Nat} {l S : List Rg} (os : Array Obj) (h : OwnRgs w B (.slice (some ⟨g, 0, none⟩) l.length c) l) (hS : S.length = l.length) :
    OwnRgs (Go.Proofs.sortWorldK encR 2 w g 0 m S.toArray os) B (.slice (some ⟨g, 0, none⟩) l.length c) S ∧ w.grownBy (Go.Proofs.sortWorldK encR 2 w g 0 m S.toArray os) (some g) := by
  have hF : (Go.Sort.flatK encR 2 S.toArray).size = l.length * 2 := by simp [hS]
  rcases h.2 with ⟨h0, -⟩ | ⟨g', cap, cur, hv, hB, hg, h1, h2, h3, h4⟩
  · cases h0
  · injection hv with e1 _ e3
    injection e1 with e1
    injection e1 with e1 _ _
    subst e1
    subst e3
    have hgl : g < w.heap.size := (Array.getElem?_eq_some_iff.1 hg).1
    have hsz : (Go.Sort.putRowK encR 2 (Go.Sort.ahead w m) g 0 S.toArray).heap.size = w.heap.size := by
      rw [Go.Sort.size_putRowK]; rfl
    have hblk : ∀ i, i < w.heap.size → (Go.Proofs.sortWorldK encR 2 w g 0 m S.toArray os).heap[i]? = (Go.Sort.putRowK encR 2 (Go.Sort.ahead w m) g 0 S.toArray).heap[i]? := fun i hi => by
      unfold Go.Proofs.sortWorldK Go.Sort.grow
      exact Array.getElem?_append_left (by rw [hsz]; exact hi)
    have hrow : (Go.Proofs.sortWorldK encR 2 w g 0 m S.toArray os).heap[g]? = some (.cells (Go.Sort.putCells id 0 (Go.Sort.flatK encR 2 S.toArray) cur) 23 (0, 0)) := by
      rw [hblk g hgl]
      unfold Go.Sort.putRowK Go.Sort.putRow Go.Sort.mapBlock
      simp only [Array.getElem?_modify, if_true]
      show ((Go.Sort.ahead w m).heap[g]?).map _ = _
      have : (Go.Sort.ahead w m).heap[g]? = some (.cells cur 23 (0, 0)) := hg
      rw [this]
      rfl
    refine ⟨⟨by rw [rgCells_len], .inr ⟨g, c, _, by rw [hS], hB, hrow, by rw [hS]; exact h1, h2, by unfold Go.Sort.putCells; simpa using h3, ?_⟩⟩, ⟨rfl, rfl, rfl, ?_, fun i hi hne => ?_⟩⟩
    · refine List.ext_getElem? fun t => ?_
      rw [List.getElem?_take]
      by_cases ht : t < l.length * 2
      · have htc : t < cur.size := by have : l.length * 2 ≤ c * 2 := Nat.mul_le_mul_right 2 h1; omega
        rw [if_pos (by rw [hS]; exact ht), ← flat_rg S, Array.getElem?_toList, Array.getElem?_toList]
        unfold Go.Sort.putCells
        rw [Array.getElem?_mapIdx, Array.getElem?_eq_getElem htc, Array.getElem?_eq_getElem (by omega)]
        simp only [Option.map_some]
        rw [if_pos ⟨Nat.zero_le _, by omega⟩, Nat.sub_zero, getElem!_pos (Go.Sort.flatK encR 2 S.toArray) t (by omega)]
        rfl
      · rw [if_neg (by rw [hS]; exact ht), List.getElem?_eq_none (by rw [rgCells_len, hS]; omega)]
    · unfold Go.Proofs.sortWorldK Go.Sort.grow
      simp only [Array.size_append]
      omega
    · rw [hblk i hi]
      exact put_heap (fun e => hne (by rw [e]))
theorem ltR (a b : Rg) : ltOf cmpR a b = decide (a.lb < b.lb) := by
  unfold ltOf cmpR
  have h := bytesLess_cmp a.lb b.lb
  rw [bytesLess_lt] at h
  rw [h]
  refine decide_eq_decide.2 ?_
  rcases cmpB_cases a.lb b.lb with e | e | e <;> rw [e] <;> decide
theorem swoR : Go.Sort.SWO (ltOf cmpR) where
  irrefl x := by rw [ltR]; simp [lt_irr]
  trans x y z h1 h2 := by
    rw [ltR, decide_eq_true_eq] at *
    exact List.lt_trans h1 h2
  ntrans x y z h1 h2 := by
    rw [ltR, decide_eq_false_iff_not] at *
    exact le_tr h2 h1
def SortPost (B : Nat) (v : Value) (L : List Rg) (w : World) (e : Ending) (w' : World) : Prop :=
  e = .returned (.tuple #[]) ∧ ∃ S : List Rg, (∀ r, r ∈ S ↔ r ∈ L) ∧ S.length = L.length ∧ RiseR S ∧ OwnRgs w' B v S ∧ w.grownBy w' v.ownBlock
theorem sortR_any (v : Value) (B : Nat) (L : List Rg) (w : World) (h : OwnRgs w B v L) (hn : L.length ≤ 1000000) :
    Calls Try.prog 50 #[v, .func (.func 51) #[] #[]] w (SortPost B v L w) := by
  have h0 := h
  rcases h.2 with ⟨rfl, hl⟩ | ⟨g, cap, cur, rfl, -, hg, -⟩
  · have hL : L = [] := List.eq_nil_of_length_eq_zero hl
    subst hL
    have hc := AnyF.slices_SortFunc_none Try.sort50 none 0 (.func (.func 51) #[] #[]) w
    refine Calls.mono (show Calls Try.prog 50 _ _ _ from hc) ?_
    rintro e w' ⟨rfl, rfl⟩
    exact ⟨rfl, [], by simp, rfl, by simp [RiseR], h0, World.grownBy.refl _ _⟩
  · have hgl : g < w.heap.size := (Array.getElem?_eq_some_iff.1 hg).1
    have eg : ∀ args w, (callFunc 51 args).run Try.prog w = .ok (.enter 51 args) w := enters_of Try.func51 (by kernel_rfl) rfl
    have hcmp : CmpLays Try.prog 51 #[] encR 2 cmpR g 0 L.toArray.size w := fun m os dk _ x y => (cmpR_any x y _).mono fun e w' hh => by
      obtain ⟨rfl, rfl⟩ := hh
      exact ⟨rfl, 0, _, by rw [Go.Sort.alloc_eq_grow, Go.Sort.alloc_eq_grow, Go.Sort.grow_grow]; rfl⟩
    have hc := AnyQ.slices_SortFunc Try.sort50 2 Try.isAgg23 Try.sizeOf23 encR (fun _ => rfl) (fun x v hv => by simp [encR] at hv; rcases hv with rfl | rfl <;> rfl) cmpR swoR 51 #[] g 0 cap L.toArray w eg hcmp (own_holds h0) hgl (by simp; omega)
    refine Calls.mono (show Calls Try.prog 50 _ _ _ from hc) ?_
    rintro e w' ⟨rfl, d', m, os, hp, hs, rfl⟩
    have hsz : d'.size = L.length := by have := hp.1; simpa using this
    obtain ⟨o1, o2⟩ := own_sorted (m := m) (S := d'.toList) os h0 (by simpa using hsz)
    refine ⟨rfl, d'.toList, fun r => ?_, by simpa using hsz, ?_, o1, o2⟩
    · have h3 := hp.2.2.mem_iff (a := r)
      rw [show L.toArray.size = d'.size by simp [hsz]] at h3
      rw [Array.extract_size] at h3
      rw [h3, hsz]
      simp
    · refine List.pairwise_iff_getElem.2 fun i j hi hj hij => ?_
      have h3 := hs i j (Nat.zero_le _) hij (by simp at hj ⊢; omega)
      rw [ltR, decide_eq_false_iff_not, getElem!_pos d' j (by simpa using hj), getElem!_pos d' i (by simpa using hi)] at h3
      exact h3

end Go.Proofs.Ytijcaefpainhcaa
