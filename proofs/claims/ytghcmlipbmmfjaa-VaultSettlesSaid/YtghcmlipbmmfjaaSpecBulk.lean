/- A bound of how many bytes rows have, and how long their frames are, in plain words. -/
import Derived.Test.YtghcmlipbmmfjaaFrmD
namespace Go.Proofs.Ytghcmlipbmmfjaa
open Go.RowKit

/-- how many bytes rows have, with one for each -/
def bulk : List (List UInt8) → Nat
  | [] => 0
  | l :: r => l.length + 1 + bulk r
theorem bulk_app (a b : List (List UInt8)) : bulk (a ++ b) = bulk a + bulk b := by
  induction a with
  | nil => simp [bulk]
  | cons x a ih => simp only [List.cons_append, bulk, ih]; omega
theorem bulk_len (a : List (List UInt8)) : a.length ≤ bulk a := by
  induction a with
  | nil => simp [bulk]
  | cons x a ih => simp only [List.length_cons, bulk]; omega
theorem bulk_mem {a : List (List UInt8)} {l : List UInt8} (h : l ∈ a) : l.length < bulk a := by
  induction a with
  | nil => simp at h
  | cons x a ih =>
    simp only [bulk]
    rcases List.mem_cons.1 h with e | e
    · subst e; omega
    · have := ih e; omega
theorem frames_len (a : List (List UInt8)) : (frames a).length + a.length ≤ 8 * a.length + bulk a := by
  induction a with
  | nil => simp [frames, bulk]
  | cons x a ih => simp only [frames, bulk, List.length_append, frameOf_len, List.length_cons]; omega
theorem brLists_len (rs : Brs) : (brLists rs).length = rs.length := by simp [brLists]
theorem brLists_at {w : World} {B n : Nat} {A : Option Addr} {rs : Brs} (h : HasRs w B A n rs) : (brLists rs).length = n := by rw [brLists_len, h.len]

end Go.Proofs.Ytghcmlipbmmfjaa
