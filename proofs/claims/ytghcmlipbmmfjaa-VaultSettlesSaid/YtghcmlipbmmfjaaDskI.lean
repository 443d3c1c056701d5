/- What the laws of layer 7 say of frames that are appended one by one, in plain words. -/
import Derived.Test.YtghcmlipbmmfjaaDskG
import Derived.Test.YtghcmlipbmmfjaaSpecBulk
namespace Go.Proofs.Ytghcmlipbmmfjaa
open Go.RowKit

/-- where the frame k of a list begins -/
def begD (L : List (List UInt8)) (k : Nat) : Nat := (frames (L.take k)).length
theorem begD_zero (L : List (List UInt8)) : begD L 0 = 0 := by simp [begD, frames]
theorem frames_takeD {L : List (List UInt8)} {k : Nat} {l : List UInt8} (h : L[k]? = some l) : frames (L.take (k + 1)) = frames (L.take k) ++ frameOf l := by
  rw [List.take_add_one, h, Option.toList_some, frames_app, frames_one]
theorem begD_succ {L : List (List UInt8)} {k : Nat} {l : List UInt8} (h : L[k]? = some l) : begD L (k + 1) = begD L k + (8 + l.length) := by
  unfold begD
  rw [frames_takeD h, List.length_append, frameOf_len]
theorem begD_le (L : List (List UInt8)) (k : Nat) : begD L k ≤ 8 * L.length + bulk L := by
  have h1 := frames_len (L.take k)
  have h2 : bulk (L.take k) ≤ bulk L := by
    have := bulk_app (L.take k) (L.drop k)
    rw [List.take_append_drop] at this
    omega
  have h3 : (L.take k).length ≤ L.length := List.length_take_le' _ _
  unfold begD
  omega
/-- a disk with room, checkpoint C and the log F, onto which the first k frames of L were appended -/
def appSt (room : Nat) (C F : List UInt8) (L : List (List UInt8)) (k : Nat) : DState := ⟨room, true, C, F ++ frames (L.take k), (List.range k).map fun i => F.length + begD L i, true⟩
theorem appSt_succ {room : Nat} {C F : List UInt8} {L : List (List UInt8)} {k : Nat} {l : List UInt8} (h : L[k]? = some l) :
    ({ appSt room C F L k with L := (appSt room C F L k).L ++ frameOf l, W := (appSt room C F L k).W ++ [(appSt room C F L k).L.length] } : DState) = appSt room C F L (k + 1) := by
  simp only [appSt, frames_takeD h, List.append_assoc, List.range_succ, List.map_append, List.map_cons, List.map_nil, List.length_append]
  rfl
theorem appSt_len (room : Nat) (C F : List UInt8) (L : List (List UInt8)) (k : Nat) : (appSt room C F L k).L.length = F.length + begD L k := by simp [appSt, begD]
theorem appSt_waits (room : Nat) (C F : List UInt8) (L : List (List UInt8)) (k : Nat) : (appSt room C F L k).W.length = k := by simp [appSt]
theorem appSt_used (room : Nat) (C F : List UInt8) (L : List (List UInt8)) (k : Nat) : (appSt room C F L k).used = takenN C + (F.length + begD L k) := by
  unfold DState.used
  rw [appSt_len]
  rfl
theorem appSt_zero (room : Nat) (C F : List UInt8) (L : List (List UInt8)) : appSt room C F L 0 = ⟨room, true, C, F, [], true⟩ := by simp [appSt, frames]
theorem takenN_nil : takenN [] = 0 := rfl
theorem takenN_le (C : List UInt8) : takenN C ≤ 8 + C.length := by unfold takenN; split <;> omega

/-- what stays of frames behind a crash: those ahead of the frame at place k, and a part of that frame -/
theorem crash_scan (L1 L2 : List (List UInt8)) (h1 : ∀ p ∈ L1, p.length ≤ 65536) (h2 : ∀ p ∈ L2, p.length ≤ 65536) (k c : Nat) (hk : k < L2.length) (hc1 : (frames L1).length + begD L2 k ≤ c) (hc2 : c < (frames L1).length + begD L2 (k + 1)) :
    scanT ((frames L1 ++ frames L2).take c) = (L1 ++ L2.take k, (frames L1).length + begD L2 k) := by
  have hall : ∀ p ∈ L1 ++ L2, p.length ≤ 65536 := fun p hp => by
    rcases List.mem_append.1 hp with h | h
    · exact h1 p h
    · exact h2 p h
  have e : ∀ j, (L1 ++ L2).take (L1.length + j) = L1 ++ L2.take j := fun j => by rw [List.take_append, List.take_of_length_le (by omega)]; simp
  have el : ∀ j, (frames ((L1 ++ L2).take (L1.length + j))).length = (frames L1).length + begD L2 j := fun j => by rw [e, frames_app, List.length_append]; rfl
  have h := scan_cut (L1 ++ L2) hall (L1.length + k) c (by rw [List.length_append]; omega) (by rw [el]; exact hc1) (fun _ => by rw [Nat.add_assoc, el]; exact hc2)
  rw [← frames_app, h, el, e]
theorem all_scan (L1 L2 : List (List UInt8)) (h1 : ∀ p ∈ L1, p.length ≤ 65536) (h2 : ∀ p ∈ L2, p.length ≤ 65536) : scanT (frames L1 ++ frames L2) = (L1 ++ L2, (frames L1 ++ frames L2).length) := by
  rw [← frames_app]
  exact scan_all _ fun p hp => by
    rcases List.mem_append.1 hp with h | h
    · exact h1 p h
    · exact h2 p h

/-- rows from place k on -/
theorem HasRs.drop {w : World} {B n : Nat} {A : Option Addr} {rs : Brs} (h : HasRs w B A n rs) {k cap : Nat} (hk : k ≤ n) (hc : n ≤ cap) : HasRs w B (if cap = k then A else A.map (·.add k)) (n - k) (rs.drop k) := by
  refine ⟨?_, fun r hr => h.2 r (List.mem_of_mem_drop hr)⟩
  have := Has.cut h.1 hk hc
  unfold brCells at this ⊢
  rwa [← List.map_drop] at this
theorem brLists_take (rs : Brs) (k : Nat) : brLists (rs.take k) = (brLists rs).take k := by simp [brLists, List.map_take]
theorem brLists_drop (rs : Brs) (k : Nat) : brLists (rs.drop k) = (brLists rs).drop k := by simp [brLists, List.map_drop]
theorem quietM {P : Program} {f : FuncId} {args : Array Value} {w : World} {n : Nat} {v v' : Value}
    (h : Calls P f args (w.drewN n) fun e w' => e = .returned v ∧ ∃ m, w' = (w.drewN n).drewN m) (hv : v = v') : Calls P f args (w.drewN n) fun e w'' => e = .returned v' ∧ ∃ m, w'' = w.drewN m := hv ▸ Calls.quiet_of h

end Go.Proofs.Ytghcmlipbmmfjaa
