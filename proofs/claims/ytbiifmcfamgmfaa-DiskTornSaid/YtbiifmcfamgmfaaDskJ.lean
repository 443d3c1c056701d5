/- A byte that is turned in a frame's sum or payload: what is scanned then, in plain words. -/
import Derived.Test.YtbiifmcfamgmfaaDskI
namespace Go.Proofs.Ytbiifmcfamgmfaa
open Go.RowKit

theorem frame_turned {l : List UInt8} (hl : l.length ≤ 65536) (r : List UInt8) (j : Nat) (v x : UInt8) (h4 : 4 ≤ j) (hj : j < 8 + l.length) (hx : (frameOf l)[j]? = some x) (hv : v ≠ x) : firstErr ((frameOf l).set j v ++ r) ≠ 0 := by
  intro e
  have hfl := frameOf_len l
  have hsl : ((frameOf l).set j v).length = 8 + l.length := by rw [List.length_set, hfl]
  have htake : ((frameOf l).set j v ++ r).take 4 = sumPut l.length := by
    rw [List.take_append_of_le_length (by omega), List.take_set_of_le (by omega)]
    have := take_four l []
    rwa [List.append_nil] at this
  have hsz : sizeAt ((frameOf l).set j v ++ r) = l.length := by
    unfold sizeAt
    rw [htake, sumNum_put (by omega)]
  have hlen : ¬ ((frameOf l).set j v ++ r).length < 8 + sizeAt ((frameOf l).set j v ++ r) := by
    rw [hsz, List.length_append, hsl]
    omega
  have h8 : ¬ ((frameOf l).set j v ++ r).length < 8 := by
    rw [List.length_append, hsl]
    omega
  have hsum : sumOf (((frameOf l).set j v ++ r).take 4 ++ payAt ((frameOf l).set j v ++ r)) = sumNum 0 ((((frameOf l).set j v ++ r).drop 4).take 4) := by
    unfold firstErr at e
    rw [if_neg h8, if_neg (by rw [hsz]; omega), if_neg hlen] at e
    by_cases hs : sumOf (((frameOf l).set j v ++ r).take 4 ++ payAt ((frameOf l).set j v ++ r)) = sumNum 0 ((((frameOf l).set j v ++ r).drop 4).take 4)
    · exact hs
    · rw [if_neg hs] at e
      omega
  have hfr := (frame_same h8 hlen).2 hsum
  rw [hsz, List.take_left' hsl] at hfr
  have hpl : (payAt ((frameOf l).set j v ++ r)).length = l.length := by
    rw [payAt_len (by omega), hsz]
  obtain ⟨p, hp⟩ : ∃ p, payAt ((frameOf l).set j v ++ r) = p := ⟨_, rfl⟩
  rw [hp] at hfr hpl
  have hd8 : ∀ q : List UInt8, (frameOf q).drop 8 = q := fun q => by
    have := drop_eight q []
    rwa [List.append_nil, List.append_nil] at this
  have hne : (frameOf l).set j v ≠ frameOf l := fun h => by
    have h1 : ((frameOf l).set j v)[j]? = some v := by rw [List.getElem?_set_self (by omega)]
    rw [h, hx] at h1
    injection h1 with h1
    exact hv h1.symm
  by_cases hj8 : j < 8
  · have h1 : ((frameOf l).set j v).drop 8 = l := by rw [List.drop_set_of_lt hj8, hd8]
    rw [← hfr, hd8] at h1
    rw [h1] at hfr
    exact hne hfr.symm
  · have h1 : p = l.set (j - 8) v := by
      have h2 : ((frameOf l).set j v).drop 8 = l.set (j - 8) v := by rw [List.drop_set, if_neg (by omega), hd8]
      rw [← hfr, hd8] at h2
      exact h2
    have h2 : ((frameOf p).take 8) = (frameOf l).take 8 := by rw [hfr, List.take_set_of_le (by omega)]
    have ht8 : ∀ q : List UInt8, (frameOf q).take 8 = sumPut q.length ++ sumPut (sumOf (sumPut q.length ++ q)) := fun q => by
      unfold frameOf
      rw [← List.append_assoc]
      exact List.take_left' (by simp [sumPut_len])
    rw [ht8, ht8, hpl] at h2
    have h3 := List.append_cancel_left h2
    have h4' := congrArg (sumNum 0) h3
    rw [sumNum_put (sumOf_lt _), sumNum_put (sumOf_lt _)] at h4'
    have hxl : l[j - 8]? = some x := by
      have h5 : ((frameOf l).drop 8)[j - 8]? = some x := by rw [List.getElem?_drop, show 8 + (j - 8) = j from by omega]; exact hx
      rwa [hd8] at h5
    have e1 : sumPut l.length ++ p = (sumPut l.length ++ l).set (4 + (j - 8)) v := by rw [h1, List.set_append_right _ _ (by rw [sumPut_len]; omega), sumPut_len, Nat.add_sub_cancel_left]
    have e2 : sumPut l.length ++ l = (sumPut l.length ++ l).set (4 + (j - 8)) x := by
      refine (List.ext_getElem? fun i => ?_).symm
      rw [List.getElem?_set]
      by_cases hi : 4 + (j - 8) = i
      · rw [if_pos hi]
        subst hi
        rw [if_pos (by rw [List.length_append, sumPut_len]; omega), List.getElem?_append_right (by rw [sumPut_len]; omega), sumPut_len, Nat.add_sub_cancel_left, hxl]
      · rw [if_neg hi]
    rw [e1] at h4'
    have e3 := h4'.trans (congrArg sumOf e2)
    exact hv (sum_tells_set _ _ _ _ (by rw [List.length_append, sumPut_len]; omega) e3)

/-- the byte at place j of the frame k of a log is turned: the frames ahead of it are told, and no more -/
theorem torn_scan {L : List (List UInt8)} (hL : ∀ p ∈ L, p.length ≤ 65536) {k j : Nat} {l : List UInt8} (hk : L[k]? = some l) (h4 : 4 ≤ j) (hj : j < 8 + l.length) (x y : UInt8) (hx : (frames L)[begD L k + j]? = some x) (hy : y ≠ 0) :
    scanT ((frames L).set (begD L k + j) (x ^^^ y)) = (L.take k, begD L k) := by
  have hkl := (List.getElem?_eq_some_iff.1 hk).1
  have e : frames L = frames (L.take k) ++ (frameOf l ++ frames (L.drop (k + 1))) := by
    conv => lhs; rw [← List.take_append_drop k L, frames_app, List.drop_eq_getElem_cons hkl]
    have : L[k] = l := by
      have := List.getElem?_eq_getElem hkl
      rw [hk] at this
      injection this with this
      exact this.symm
    rw [this]
    rfl
  have hfl := frameOf_len l
  have hx' : (frameOf l)[j]? = some x := by
    rw [e, List.getElem?_append_right (by unfold begD; omega), show begD L k + j - (frames (L.take k)).length = j from by unfold begD; omega, List.getElem?_append_left (by omega)] at hx
    exact hx
  have hv : x ^^^ y ≠ x := fun h => hy (by
    have h1 := congrArg (fun z => x ^^^ z) h
    simpa [← UInt8.xor_assoc] using h1)
  have e2 : (frames L).set (begD L k + j) (x ^^^ y) = frames (L.take k) ++ ((frameOf l).set j (x ^^^ y) ++ frames (L.drop (k + 1))) := by
    rw [e, List.set_append_right _ _ (by unfold begD; omega), show begD L k + j - (frames (L.take k)).length = j from by unfold begD; omega, List.set_append_left _ _ (by omega)]
  rw [e2, scan_frames _ _ fun p hp => hL p (List.mem_of_mem_take hp), scanT_end (frame_turned (hL l (List.mem_of_getElem? hk)) _ j _ x h4 hj hx' hv)]
  simp [begD]

end Go.Proofs.Ytbiifmcfamgmfaa
