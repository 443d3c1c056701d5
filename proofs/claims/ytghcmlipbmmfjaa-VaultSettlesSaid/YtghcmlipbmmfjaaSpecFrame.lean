/- Layer 6 as plain mathematics: a frame, what bytes begin with, what frames stand in bytes, and frames that are cut off. Nothing of the translated program is named here. -/
import Derived.Test.YtghcmlipbmmfjaaSpecSum
namespace Go.Proofs.Ytghcmlipbmmfjaa

/-- the frame of a payload -/
def frameOf (p : List UInt8) : List UInt8 := sumPut p.length ++ (sumPut (sumOf (sumPut p.length ++ p)) ++ p)
/-- how many bytes the payload would have -/
def sizeAt (b : List UInt8) : Nat := sumNum 0 (b.take 4)
def payAt (b : List UInt8) : List UInt8 := (b.drop 8).take (sizeAt b)
/-- what is wrong with the frame with which bytes begin -/
def firstErr (b : List UInt8) : Nat :=
  if b.length < 8 then 2 else if 65536 < sizeAt b then 4 else if b.length < 8 + sizeAt b then 2
  else if sumOf (b.take 4 ++ payAt b) = sumNum 0 ((b.drop 4).take 4) then 0 else 5
def scanF : Nat → List UInt8 → List (List UInt8) × Nat
  | 0, _ => ([], 0)
  | f + 1, b => if firstErr b = 0 then (payAt b :: (scanF f (b.drop (8 + sizeAt b))).1, 8 + sizeAt b + (scanF f (b.drop (8 + sizeAt b))).2) else ([], 0)
/-- the frames that stand in bytes, and how many bytes they take -/
def scanT (b : List UInt8) : List (List UInt8) × Nat := scanF b.length b
def frames : List (List UInt8) → List UInt8
  | [] => []
  | p :: l => frameOf p ++ frames l

theorem sumOf_lt (l : List UInt8) : sumOf l < 4294967296 := sumMore_lt 0 l
theorem frameOf_len (p : List UInt8) : (frameOf p).length = 8 + p.length := by simp [frameOf, sumPut_len]; omega
theorem firstErr_len {b : List UInt8} (h : firstErr b = 0) : 8 + sizeAt b ≤ b.length ∧ sizeAt b ≤ 65536 := by
  unfold firstErr at h
  split at h
  · cases h
  · split at h
    · cases h
    · split at h
      · cases h
      · omega
theorem payAt_len {b : List UInt8} (h : 8 + sizeAt b ≤ b.length) : (payAt b).length = sizeAt b := by
  unfold payAt
  rw [List.length_take, List.length_drop]
  omega
theorem firstErr_short {b : List UInt8} (h : b.length < 8) : firstErr b = 2 := by unfold firstErr; rw [if_pos h]
theorem scanF_eq : ∀ (f g : Nat) (b : List UInt8), b.length ≤ f → b.length ≤ g → scanF f b = scanF g b
  | 0, 0, b, _, _ => rfl
  | 0, g + 1, b, h, _ => by
    have : firstErr b = 2 := firstErr_short (by omega)
    simp [scanF, this]
  | f + 1, 0, b, _, h => by
    have : firstErr b = 2 := firstErr_short (by omega)
    simp [scanF, this]
  | f + 1, g + 1, b, h, h' => by
    unfold scanF
    by_cases e : firstErr b = 0
    · have hl : (b.drop (8 + sizeAt b)).length ≤ b.length - 8 := by rw [List.length_drop]; omega
      rw [if_pos e, if_pos e, scanF_eq f g _ (by omega) (by omega)]
    · rw [if_neg e, if_neg e]
theorem scanT_step {b : List UInt8} (h : firstErr b = 0) : scanT b = (payAt b :: (scanT (b.drop (8 + sizeAt b))).1, 8 + sizeAt b + (scanT (b.drop (8 + sizeAt b))).2) := by
  have hl := (firstErr_len h).1
  unfold scanT
  rw [scanF_eq b.length (b.length - 1 + 1) b (by omega) (by omega)]
  rw [scanF, if_pos h, scanF_eq (b.length - 1) (b.drop (8 + sizeAt b)).length _ (by rw [List.length_drop]; omega) (Nat.le_refl _)]
theorem scanT_end {b : List UInt8} (h : firstErr b ≠ 0) : scanT b = ([], 0) := by
  unfold scanT
  cases hb : b.length with
  | zero => rfl
  | succ k => rw [scanF, if_neg h]
theorem scanT_short {b : List UInt8} (h : b.length < 8) : scanT b = ([], 0) := scanT_end (by rw [firstErr_short h]; omega)

theorem take_four (p r : List UInt8) : (frameOf p ++ r).take 4 = sumPut p.length := by
  unfold frameOf
  rw [List.append_assoc, List.take_left' (sumPut_len _)]
theorem drop_four (p r : List UInt8) : ((frameOf p ++ r).drop 4).take 4 = sumPut (sumOf (sumPut p.length ++ p)) := by
  unfold frameOf
  rw [List.append_assoc, List.drop_left' (sumPut_len _), List.append_assoc, List.take_left' (sumPut_len _)]
theorem drop_eight (p r : List UInt8) : (frameOf p ++ r).drop 8 = p ++ r := by
  unfold frameOf
  rw [show (8 : Nat) = 4 + 4 from rfl, ← List.drop_drop, List.append_assoc, List.drop_left' (sumPut_len _), List.append_assoc, List.drop_left' (sumPut_len _)]
theorem first_frame {p : List UInt8} (h : p.length ≤ 65536) (r : List UInt8) : sizeAt (frameOf p ++ r) = p.length ∧ payAt (frameOf p ++ r) = p ∧ firstErr (frameOf p ++ r) = 0 := by
  have h1 : sizeAt (frameOf p ++ r) = p.length := by
    unfold sizeAt
    rw [take_four, sumNum_put (by omega)]
  have h2 : payAt (frameOf p ++ r) = p := by
    unfold payAt
    rw [h1, drop_eight, List.take_left' rfl]
  refine ⟨h1, h2, ?_⟩
  have hl := frameOf_len p
  unfold firstErr
  rw [h1, h2, take_four, drop_four, sumNum_put (sumOf_lt _), if_neg (by rw [List.length_append]; omega), if_neg (by omega), if_neg (by rw [List.length_append]; omega), if_pos rfl]
/-- what a frame that is cut off begins with is none -/
theorem first_cut {p : List UInt8} (h : p.length ≤ 65536) (r : List UInt8) {k : Nat} (hk : k < 8 + p.length) : firstErr ((frameOf p ++ r).take k) ≠ 0 := by
  by_cases h8 : k < 8
  · rw [firstErr_short (by rw [List.length_take]; omega)]
    omega
  · intro e
    have h1 := (firstErr_len e).1
    have h2 : sizeAt ((frameOf p ++ r).take k) = p.length := by
      unfold sizeAt
      rw [List.take_take, Nat.min_eq_left (by omega), take_four, sumNum_put (by omega)]
    rw [List.length_take] at h1
    omega
theorem frames_app (a b : List (List UInt8)) : frames (a ++ b) = frames a ++ frames b := by
  induction a with
  | nil => rfl
  | cons p a ih => simp [frames, ih]
theorem frames_one (p : List UInt8) : frames [p] = frameOf p := by simp [frames]
theorem scan_frames : ∀ (l : List (List UInt8)) (r : List UInt8), (∀ p ∈ l, p.length ≤ 65536) → scanT (frames l ++ r) = (l ++ (scanT r).1, (frames l).length + (scanT r).2)
  | [], r, _ => by simp [frames]
  | p :: l, r, h => by
    obtain ⟨h1, h2, h3⟩ := first_frame (h p (by simp)) (frames l ++ r)
    have e : (frameOf p ++ (frames l ++ r)).drop (8 + p.length) = frames l ++ r := List.drop_left' (frameOf_len p)
    simp only [frames, List.append_assoc]
    rw [scanT_step h3, h1, h2, e, scan_frames l r fun q hq => h q (by simp [hq])]
    simp [frameOf_len, Nat.add_assoc]
theorem scan_all (l : List (List UInt8)) (h : ∀ p ∈ l, p.length ≤ 65536) : scanT (frames l) = (l, (frames l).length) := by
  have e := scan_frames l [] h
  have e0 : scanT [] = ([], 0) := scanT_short (Nat.zero_lt_succ 7)
  rw [List.append_nil, e0] at e
  simpa using e
theorem scan_tail (l : List (List UInt8)) (r : List UInt8) (h : ∀ p ∈ l, p.length ≤ 65536) (hr : r.length < 8) : scanT (frames l ++ r) = (l, (frames l).length) := by
  rw [scan_frames l r h, scanT_short hr]
  simp
theorem scan_cut (l : List (List UInt8)) (h : ∀ p ∈ l, p.length ≤ 65536) (k c : Nat) (hk : k ≤ l.length) (h1 : (frames (l.take k)).length ≤ c) (h2 : k < l.length → c < (frames (l.take (k + 1))).length) :
    scanT ((frames l).take c) = (l.take k, (frames (l.take k)).length) := by
  have e : frames l = frames (l.take k) ++ frames (l.drop k) := by rw [← frames_app, List.take_append_drop]
  have et : (frames l).take c = frames (l.take k) ++ (frames (l.drop k)).take (c - (frames (l.take k)).length) := by
    rw [e, List.take_append, List.take_of_length_le (by omega)]
  rw [et, scan_frames _ _ fun p hp => h p (List.mem_of_mem_take hp)]
  have hend : scanT ((frames (l.drop k)).take (c - (frames (l.take k)).length)) = ([], 0) := by
    by_cases hlt : k < l.length
    · have hd : l.drop k = l[k] :: l.drop (k + 1) := List.drop_eq_getElem_cons hlt
      have h3 := h2 hlt
      rw [List.take_succ_eq_append_getElem hlt, frames_app, frames_one, List.length_append, frameOf_len] at h3
      rw [hd]
      exact scanT_end (first_cut (h _ (List.getElem_mem hlt)) _ (by omega))
    · rw [List.drop_eq_nil_of_le (by omega)]
      exact scanT_short (by simp [frames])
  rw [hend]
  simp

/-- the document's comparison of a whole frame is the one of its sum -/
theorem frame_same {b : List UInt8} (h8 : ¬ b.length < 8) (hl : ¬ b.length < 8 + sizeAt b) : frameOf (payAt b) = b.take (8 + sizeAt b) ↔ sumOf (b.take 4 ++ payAt b) = sumNum 0 ((b.drop 4).take 4) := by
  have h4 : (b.take 4).length = 4 := by rw [List.length_take]; omega
  have h4' : ((b.drop 4).take 4).length = 4 := by rw [List.length_take, List.length_drop]; omega
  have hp : (payAt b).length = sizeAt b := payAt_len (by omega)
  have hput : sumPut (payAt b).length = b.take 4 := by rw [hp]; exact sumPut_num h4
  have e : b.take (8 + sizeAt b) = b.take 4 ++ ((b.drop 4).take 4 ++ payAt b) := by
    unfold payAt
    rw [show 8 + sizeAt b = 4 + (4 + sizeAt b) from by omega, List.take_add, List.take_add, List.drop_drop]
  unfold frameOf
  rw [hput, e]
  constructor
  · intro h
    have h1 := List.append_cancel_left h
    have h2 := (List.append_inj h1 (by rw [h4', sumPut_len])).1
    have h3 := congrArg (sumNum 0) h2
    rwa [sumNum_put (sumOf_lt _)] at h3
  · intro h
    rw [h, sumPut_num h4']

end Go.Proofs.Ytghcmlipbmmfjaa
