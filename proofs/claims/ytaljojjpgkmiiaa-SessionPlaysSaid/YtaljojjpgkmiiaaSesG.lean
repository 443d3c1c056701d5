/- Layer 15 in plain words: what a text is as an end, and back. No condition. -/
import Derived.Test.YtaljojjpgkmiiaaSesF
import Derived.Test.YtaljojjpgkmiiaaSpecBack
namespace Go.Proofs.Ytaljojjpgkmiiaa

def txOf (x : List UInt8) : ByteArray := ⟨x.toArray⟩
theorem raw_txOf (L : List (List UInt8)) : raw (L.map txOf) = L := by
  unfold raw
  rw [List.map_map]
  exact (List.map_congr_left fun x _ => rfl).trans (List.map_id L)
theorem txOf_raw (l : List ByteArray) : (raw l).map txOf = l := by
  unfold raw
  rw [List.map_map]
  exact (List.map_congr_left fun x _ => rfl).trans (List.map_id l)
theorem strVals_txOf (L : List (List UInt8)) : (L.map txOf).map Value.string = strVals L := by
  rw [List.map_map]
  rfl
/-- the end that a row of bytes is, and the first error -/
def loadT (b : List UInt8) : SE × Nat :=
  if (getNum b 0).2.2 ≠ 0 then (⟨0, 0, []⟩, (getNum b 0).2.2)
  else if (getNum b ((getNum b 0).2.1 : Nat)).2.2 ≠ 0 then (⟨0, 0, []⟩, (getNum b ((getNum b 0).2.1 : Nat)).2.2)
  else if 1099511627776 < (getNum b 0).1 ∨ 1099511627776 < (getNum b ((getNum b 0).2.1 : Nat)).1 then (⟨0, 0, []⟩, 3)
  else if (getTexts b ((getNum b ((getNum b 0).2.1 : Nat)).2.1 : Nat) 256 65536).2.2 ≠ 0 then (⟨0, 0, []⟩, (getTexts b ((getNum b ((getNum b 0).2.1 : Nat)).2.1 : Nat) 256 65536).2.2)
  else if (getNum b ((getNum b 0).2.1 : Nat)).1 < (getTexts b ((getNum b ((getNum b 0).2.1 : Nat)).2.1 : Nat) 256 65536).1.length ∨ (getTexts b ((getNum b ((getNum b 0).2.1 : Nat)).2.1 : Nat) 256 65536).2.1 < b.length then (⟨0, 0, []⟩, 3)
  else (⟨(getNum b 0).1, (getNum b ((getNum b 0).2.1 : Nat)).1, (getTexts b ((getNum b ((getNum b 0).2.1 : Nat)).2.1 : Nat) 256 65536).1.map txOf⟩, 0)
theorem getTextsFrom_most (l : List UInt8) (most : Int) : ∀ (m p : Nat), (getTextsFrom l most m p).2.2 = 0 → (getTextsFrom l most m p).1.length = m ∧ ∀ x ∈ (getTextsFrom l most m p).1, (x.length : Int) ≤ most
  | 0, p, _ => by simp [getTextsFrom]
  | m + 1, p, h => by
    unfold getTextsFrom at h ⊢
    simp only at h ⊢
    split at h
    · next h1 => exact absurd h h1
    · next h1 =>
      rw [if_neg h1]
      split at h
      · next h2 => exact absurd h h2
      · next h2 =>
        rw [if_neg h2]
        obtain ⟨i1, i2⟩ := getTextsFrom_most l most m (getText l p most).2.1 (by omega)
        refine ⟨by simp [i1], fun x hx => ?_⟩
        simp only [List.mem_cons] at hx
        rcases hx with rfl | hx
        · have h3 : (getText l p most).2.2 = 0 := by omega
          revert h3
          unfold getText
          simp only
          split
          · next h4 => intro h5; exact absurd h5 h4
          · split
            · intro h5; cases h5
            · next h6 =>
              split
              · intro h5; cases h5
              · intro _
                rw [List.length_take]
                omega
        · exact i2 x hx
theorem getTexts_most {l : List UInt8} {p count most : Int} (h : (getTexts l p count most).2.2 = 0) : ((getTexts l p count most).1.length : Int) ≤ count ∧ ∀ x ∈ (getTexts l p count most).1, (x.length : Int) ≤ most := by
  unfold getTexts at h ⊢
  simp only at h ⊢
  split at h
  · next h1 => exact absurd h h1
  · next h1 =>
    rw [if_neg h1]
    split at h
    · cases h
    · next h2 =>
      rw [if_neg h2]
      obtain ⟨h3, h4⟩ := getTextsFrom_most l most _ _ h
      exact ⟨by omega, h4⟩
theorem loadT_good {b : List UInt8} (h : (loadT b).2 = 0) : (loadT b).1.Good := by
  unfold loadT at h ⊢
  split at h
  · next h1 => exact absurd h h1
  · next h1 =>
    rw [if_neg h1]
    split at h
    · next h2 => exact absurd h h2
    · next h2 =>
      rw [if_neg h2]
      split at h
      · cases h
      · next h3 =>
        rw [if_neg h3]
        split at h
        · next h4 => exact absurd h h4
        · next h4 =>
          rw [if_neg h4]
          split at h
          · cases h
          · next h5 =>
            rw [if_neg h5]
            obtain ⟨h6, h7⟩ := getTexts_most (l := b) (p := ((getNum b ((getNum b 0).2.1 : Nat)).2.1 : Nat)) (count := 256) (most := 65536) (by omega)
            refine ⟨by simp only; omega, by simp only; omega, by simp only [List.length_map]; omega, by simp only [List.length_map]; omega, fun x hx => ?_⟩
            obtain ⟨y, hy, rfl⟩ := List.mem_map.1 hx
            have := h7 y hy
            show (y.toArray).size ≤ 65536
            simp
            omega
theorem loadT_save {E : SE} (h : E.Good) : loadT E.save = (E, 0) := by
  have hb : E.save = numForm E.m ++ (numForm E.s ++ textsForm (raw E.l)) := rfl
  have e1 : getNum E.save 0 = (E.m, (numForm E.m).length, 0) := by
    have h1 := getNum_put (l := E.save) (more := numForm E.s ++ textsForm (raw E.l)) (n := E.m) (p := 0) (by have := h.ml; omega) (by omega) hb
    rw [Nat.zero_add] at h1
    exact h1
  have d1 : E.save.drop (numForm E.m).length = numForm E.s ++ textsForm (raw E.l) := by rw [hb]; exact List.drop_left
  have hl : E.save.length = (numForm E.m).length + ((numForm E.s).length + (textsForm (raw E.l)).length) := by rw [hb, List.length_append, List.length_append]
  have e2 : getNum E.save ((numForm E.m).length : Nat) = (E.s, (numForm E.m).length + (numForm E.s).length, 0) := getNum_put (by have := h.sl; omega) (by omega) d1
  have d2 : E.save.drop ((numForm E.m).length + (numForm E.s).length) = textsForm (raw E.l) ++ [] := by rw [List.append_nil]; exact drop_more d1
  have e3 : getTexts E.save ((numForm E.m).length + (numForm E.s).length : Nat) 256 65536 = (raw E.l, (numForm E.m).length + (numForm E.s).length + (textsForm (raw E.l)).length, 0) := by
    refine getTexts_put (fun s hs => ?_) ?_ ?_ (by omega) d2
    · obtain ⟨x, hx, rfl⟩ := List.mem_map.1 hs
      have h1 := h.tx x hx
      have h2 : x.data.toList.length = x.size := (Lib.size_eq x).symm
      omega
    · have := h.ll; unfold raw; rw [List.length_map]; omega
    · have := h.ll; unfold raw; rw [List.length_map]; omega
  unfold loadT
  rw [e1]
  simp only
  rw [e2]
  simp only
  rw [e3]
  simp only
  have h1 := h.ml
  have h2 := h.sl
  have h3 := h.le
  have h4 : (raw E.l).length = E.l.length := by unfold raw; rw [List.length_map]
  rw [if_neg (by simp), if_neg (by simp), if_neg (by omega), if_neg (by simp), if_neg (by omega), txOf_raw]
theorem loadT_back {b : List UInt8} (h : (loadT b).2 = 0) : (loadT b).1.save = b := by
  unfold loadT at h ⊢
  split at h
  · next h1 => exact absurd h h1
  · next h1 =>
    rw [if_neg h1]
    split at h
    · next h2 => exact absurd h h2
    · next h2 =>
      rw [if_neg h2]
      split at h
      · cases h
      · next h3 =>
        rw [if_neg h3]
        split at h
        · next h4 => exact absurd h h4
        · next h4 =>
          rw [if_neg h4]
          split at h
          · cases h
          · next h5 =>
            rw [if_neg h5]
            have a1 := getNum_one (l := b) (p := 0) (by omega)
            have b1 := getNum_bound (l := b) (p := 0) (by omega)
            have a2 := getNum_one (l := b) (p := ((getNum b 0).2.1 : Nat)) (by omega)
            have b2 := getNum_bound (l := b) (p := ((getNum b 0).2.1 : Nat)) (by omega)
            obtain ⟨-, b3, b4, a3⟩ := getTexts_one (l := b) (p := ((getNum b ((getNum b 0).2.1 : Nat)).2.1 : Nat)) (count := 256) (most := 65536) (by omega)
            unfold SE.save
            simp only
            rw [raw_txOf, a1, a2, a3]
            simp only [Int.toNat_natCast, Int.toNat_zero]
            rw [take_join b (by omega) (by omega), take_join b (by omega) (by omega), Nat.sub_zero, List.drop_zero]
            exact List.take_of_length_le (by omega)
end Go.Proofs.Ytaljojjpgkmiiaa
