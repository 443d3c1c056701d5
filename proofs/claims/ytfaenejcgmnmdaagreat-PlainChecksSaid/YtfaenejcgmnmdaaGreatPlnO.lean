/- query gives the rows whose entries lie in the area, by their entries. Condition: low and high are right, and in memory. -/
import Derived.Test.YtfaenejcgmnmdaaGreatPlnM
import Derived.Test.YtfaenejcgmnmdaaGreatPlnN
import Derived.Test.YtfaenejcgmnmdaaGreatRecL
namespace Go.Proofs.YtfaenejcgmnmdaaGreat
open Go.RowKit
open Go.Lib (strCells compareBytes)

/-- the record's key of an entry whose values lie in the area -/
def hitK (low high : List TVal) (e : List UInt8) : Option (List UInt8) :=
  match cutL 4 (e.drop 2) with
  | .ok m (_ :: k) => if liesB m low high then some k else none
  | _ => none
theorem hitK_entry {id : Int} {m low high : List TVal} {k : List UInt8} (he : entryErr id m k = 0) (hi : ∀ u ∈ m, InI64 u.n) : hitK low high (entryT id m k) = if liesB m low high then some k else none := by
  obtain ⟨-, -, h3, h4, -, -⟩ := entryErr_zero he
  unfold hitK
  rw [entryT, if_pos he, idT]
  have e : (([0, UInt8.ofNat id.toNat] ++ keyL m ++ 0 :: k : List UInt8).drop 2) = keyL m ++ 0 :: k := by simp
  rw [e, cutL_key m 4 (0 :: k) (allGood_of h4 hi) (by omega) rfl]
theorem showL_notNull {r : List TVal} : ∀ {l : List Int} {m : List TVal}, showL r l = some m → m.all notNull = true
  | [], m, h => by
    simp [showL] at h
    subst h
    rfl
  | x :: l, m, h => by
    unfold showL at h
    cases hx : r[x.toNat]? with
    | none => rw [hx] at h; cases h
    | some v =>
      rw [hx] at h
      simp only at h
      by_cases hv : v.k = 0
      · simp [hv] at h
      · simp only [hv, if_false] at h
        cases hl : showL r l with
        | none => rw [hl] at h; cases h
        | some m' =>
          rw [hl] at h
          simp only [Option.map_some, Option.some.injEq] at h
          subst h
          simp [List.all_cons, showL_notNull hl, notNull, hv]
/-- what is shown makes an entry without error -/
theorem show_entry {id : Int} {fs : List Int} {r m : List TVal} {k : List UInt8} (hr : GoodRec r) (h : showT id fs r = some m) (hk : keyOk k = true) : entryErr id m k = 0 ∧ ∀ u ∈ m, InI64 u.n := by
  have hmem := showT_mem h
  unfold showT at h
  split at h
  · rename_i hc
    obtain ⟨hc1, hc2⟩ := hc
    have hlen := showL_len h
    have hidx : isIdB id = true ∧ 1 ≤ fs.length ∧ fs.length ≤ 2 := by
      unfold idxErr at hc1
      by_cases e1 : isIdB id = false ∨ fs.length = 0
      · rw [if_pos e1] at hc1; omega
      · rw [if_neg e1] at hc1
        by_cases e2 : 2 < fs.length
        · rw [if_pos e2] at hc1; omega
        · refine ⟨?_, ?_, by omega⟩
          · cases hb : isIdB id with
            | true => rfl
            | false => exact absurd (.inl hb) e1
          · have : ¬ fs.length = 0 := fun e => e1 (.inr e)
            omega
    have hrow : rowErr m = 0 := rowErr_ok.2 ⟨by omega, fun v hv => (rowErr_ok.1 hr.row).2 v (hmem v hv)⟩
    refine ⟨?_, fun u hu => hr.2 u (hmem u hu)⟩
    unfold entryErr
    rw [if_neg (by rw [hidx.1]; simp; intro e; rw [e] at hlen; simp at hlen; omega), if_neg (by omega), if_neg (by omega), if_pos (by simp [showL_notNull h, hk])]
  · cases h
def rowsT (M : Kv (List TVal)) (ks : List (List UInt8)) : Kv (List TVal) := ks.map fun k => (k, (getK k M).getD [])
def queryT (id : Int) (X : List Ix) (low high : List TVal) (lim : Nat) (M : Kv (List TVal)) : Kv (List TVal) := rowsT M (((shownT id X M).filterMap (hitK low high)).take lim)
theorem recOf_map (E : Kv (Value × List TVal)) (k : List UInt8) : recOf k E = (getK k (mapK (·.2) E)).getD [] := by
  rw [mapK_get]
  unfold recOf
  cases getK k E <;> rfl
theorem OwnRows.base {w : World} {b b' : Nat} {v : Value} {rs : Kv (Value × List TVal)} (h : OwnRows w b v rs) (hb : b' ≤ b) : OwnRows w b' v rs := ⟨own_baseN h.1 hb, fun r hr => own_baseN (h.2 r hr) hb⟩
theorem RowsIs.base {w : World} {b b' : Nat} {v : Value} {L : Kv (List TVal)} (h : RowsIs w b v L) (hb : b' ≤ b) : RowsIs w b' v L := by
  obtain ⟨rs, h1, h2⟩ := h
  exact ⟨rs, h1.base hb, h2⟩
theorem RowsIs.slice {w : World} {b : Nat} {v : Value} {L : Kv (List TVal)} (h : RowsIs w b v L) : ∃ A c, v = .slice A L.length c := by
  obtain ⟨rs, h1, h2⟩ := h
  obtain ⟨A, c, e, _⟩ := own_sliceN h1.1
  have : rs.length = L.length := by rw [← h2]; simp [mapK]
  exact ⟨A, c, by rw [e, this]⟩
/-- rows in other blocks than g stay behind the stores into g -/
theorem rows5 {w W : World} {b g : Nat} {v : Value} {L : Kv (List TVal)} {x' y' z' u' v' : Value} (h : RowsIs w b v L) (hg : g < b) (hW : ((((w.setCell ⟨g, 0, none⟩ x').setCell ⟨g, 1, none⟩ y').setCell ⟨g, 2, none⟩ z').setCell ⟨g, 3, none⟩ u').setCell ⟨g, 4, none⟩ v' = W) : RowsIs W b v L := by
  obtain ⟨rs, h1, h2⟩ := h
  exact ⟨rs, ⟨own5 h1.1 hg hW, fun r hr => own5 (h1.2 r hr) hg hW⟩, h2⟩

section
variable {B sb mb d : Nat} {ix : Value} {E : Kv (Value × List TVal)} {X : List Ix} {w : World}
/-- each entry that is shown is that of a record -/
theorem shown_mem {id : Int} (h : Store w B sb mb ix E X d) {e : List UInt8} (he : e ∈ shownT id X (mapK (·.2) E)) : ∃ m k, e = entryT id m k ∧ entryErr id m k = 0 ∧ (∀ u ∈ m, InI64 u.n) ∧ k.length ≤ 16 := by
  unfold shownT at he
  cases hx : X[posI id X]? with
  | none => rw [hx] at he; simp at he
  | some x =>
    rw [hx] at he
    simp only at he
    rw [(List.mergeSort_perm _ _).mem_iff, entsOf, List.mem_filterMap] at he
    obtain ⟨p, hp, hpe⟩ := he
    simp only [mapK, List.mem_map] at hp
    obtain ⟨q, hq, rfl⟩ := hp
    unfold entE at hpe
    cases hs : showT id x.fs q.2.2 with
    | none => rw [hs] at hpe; cases hpe
    | some m =>
      rw [hs] at hpe
      simp only [Option.map_some, Option.some.injEq] at hpe
      obtain ⟨hg, hk⟩ := h.good q hq
      obtain ⟨h1, h2⟩ := show_entry hg hs hk
      exact ⟨m, q.1, hpe.symm, h1, h2, by unfold keyOk at hk; simp at hk; exact hk.2⟩
end
end Go.Proofs.YtfaenejcgmnmdaaGreat
