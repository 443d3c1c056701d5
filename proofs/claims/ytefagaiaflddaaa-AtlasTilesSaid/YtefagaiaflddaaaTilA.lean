/- What AtlasTiles asks, in plain words: what a plan leaves of who has a text; and a map beside its own box in memory. No condition. -/
import Derived.Test.YtefagaiaflddaaaSpecAtt
import Derived.Test.YtefagaiaflddaaaActC
import Derived.Test.YtefagaiaflddaaaAtG
namespace Go.Proofs.Ytefagaiaflddaaa
open Go.RowKit
open Go.Lib (strCells compareBytes)

theorem go_err {ep : Int} {l : List Pt} {r : Option (List Pt)} {me : Int} {ml : List Pt} {mz : Int} (e : goT ep l r = (me, ml, mz)) (hz : mz ≠ 0) : me = 0 ∧ ml = [] := by
  unfold goT at e
  split at e
  · injection e with e1 e2; injection e2 with e2 e3; exact ⟨e1.symm, e2.symm⟩
  · cases r with
    | none => injection e with e1 e2; injection e2 with e2 e3; exact ⟨e1.symm, e2.symm⟩
    | some l' =>
      simp only at e
      split at e
      · injection e with e1 e2; injection e2 with e2 e3; exact ⟨e1.symm, e2.symm⟩
      · injection e with e1 e2; injection e2 with e2 e3; exact absurd e3.symm hz
/-- what a plan comes to -/
theorem out_ok {k ep node : Int} {l : List Pt} {s : ByteArray} {me : Int} {ml : List Pt} {mz : Int} (hr : RightP l) (h : outM k ep l s node = (me, ml, mz)) :
    (mz ≠ 0 → me = 0 ∧ ml = []) ∧ (mz = 0 → RightP ml ∧ ((k = 1 ∨ k = 2 ∨ k = 3) → me = ep + 1) ∧ (¬ (k = 1 ∨ k = 2 ∨ k = 3) → me = ep) ∧
      ∀ x, nodeAt ml x = if k = 3 ∧ holdN l x = holdN l s.data.toList then node else nodeAt l x) := by
  unfold outM at h
  split at h
  · rename_i hk
    unfold actT at h
    split at h
    · rename_i h1
      refine ⟨fun hz => go_err h hz, fun hz => ?_⟩
      subst hz
      obtain ⟨-, -, -, h2, h3, h4⟩ := go_right (fun hr l' e => split_right hr e) h
      exact ⟨h4, fun _ => h3, fun h9 => absurd hk h9, fun x => by rw [who_split hr h2 x, if_neg (by omega)]⟩
    · rename_i h1
      split at h
      · rename_i h2'
        refine ⟨fun hz => go_err h hz, fun hz => ?_⟩
        subst hz
        obtain ⟨-, -, -, h2, h3, h4⟩ := go_right (fun hr l' e => merge_right hr e) h
        exact ⟨h4, fun _ => h3, fun h9 => absurd hk h9, fun x => by rw [who_merge hr h2 x, if_neg (by omega)]⟩
      · rename_i h2'
        refine ⟨fun hz => go_err h hz, fun hz => ?_⟩
        subst hz
        obtain ⟨-, -, -, h2, h3, h4⟩ := go_right (fun hr l' e => move_right hr e) h
        refine ⟨h4, fun _ => h3, fun h9 => absurd hk h9, fun x => ?_⟩
        rw [who_move hr h2 x]
        by_cases h5 : holdN l x = holdN l s.data.toList
        · rw [if_pos h5, if_pos ⟨by omega, h5⟩]
        · rw [if_neg h5, if_neg (fun h6 => h5 h6.2)]
  · rename_i hk
    injection h with h1 h2
    injection h2 with h2 h3
    subst h1 h2 h3
    exact ⟨fun h => absurd rfl h, fun _ => ⟨hr, fun h9 => absurd h9 hk, fun _ => rfl, fun x => by rw [if_neg (by omega)]⟩⟩
theorem find_right {ep : Int} {l : List Pt} (h1 : 1 ≤ ep) (h2 : ep ≤ 100) (hr : RightP l) (x : List UInt8) : findT ep l x = (holdN l x, true) := if_pos (check_zero.2 ⟨h1, by omega, hr⟩)
theorem of_rightT {ep : Int} {l : List Pt} (h1 : 1 ≤ ep) (h2 : ep ≤ 100) (hr : RightP l) {j : Nat} (hj : j < l.length) : ofT ep l (j : Int) = ((ptAt l j).lo, hiOf l j, true) := by
  unfold ofT
  rw [if_pos ⟨check_zero.2 ⟨h1, by omega, hr⟩, by omega, by omega⟩]
  rfl
/-- a part's range has a text just if the part has it -/
theorem of_has {l : List Pt} (hr : RightP l) {j : Nat} {p : Pt} (hp : l[j]? = some p) (x : List UInt8) : (¬ x < p.lb ∧ (hiOf l j = ⟨#[]⟩ ∨ x < (hiOf l j).data.toList)) ↔ j = holdN l x := by
  have hjl := (List.getElem?_eq_some_iff.1 hp).1
  rw [← has_iff hr hp]
  refine and_congr_right fun _ => ?_
  unfold hiOf
  by_cases h : j + 1 < l.length
  · rw [if_pos h]
    obtain ⟨q, hq⟩ : ∃ q, l[j + 1]? = some q := ⟨_, List.getElem?_eq_getElem h⟩
    rw [ptAt_of hq, hq]
    have hne : q.lo ≠ ⟨#[]⟩ := fun e => by
      have h9 := rise_at hr.rise (Nat.lt_succ_self j) hp hq
      unfold Pt.lb at h9
      rw [e] at h9
      exact not_lt_nil _ h9
    constructor
    · rintro (h9 | h9)
      · exact absurd h9 hne
      · intro q' e; injection e with e; subst e; exact h9
    · exact fun h9 => .inr (h9 q rfl)
  · rw [if_neg h]
    exact ⟨fun _ q hq => by have := (List.getElem?_eq_some_iff.1 hq).1; omega, fun _ => .inl rfl⟩
/-- how many of the first parts have a text -/
noncomputable def inN (l : List Pt) (x : List UInt8) (j : Nat) : Nat := if holdN l x < j then 1 else 0
theorem inN_step {l : List Pt} {x : List UInt8} {j : Nat} : inN l x (j + 1) = if j = holdN l x then inN l x j + 1 else inN l x j := by
  unfold inN
  by_cases h : j = holdN l x
  · rw [if_pos h, if_pos (by omega), if_neg (by omega)]
  · rw [if_neg h]
    by_cases h2 : holdN l x < j
    · rw [if_pos (by omega), if_pos h2]
    · rw [if_neg (by omega), if_neg h2]
theorem inN_le (l : List Pt) (x : List UInt8) (j : Nat) : inN l x j ≤ 1 := by unfold inN; split <;> omega
theorem inN_end {l : List Pt} (hr : RightP l) (x : List UInt8) : inN l x l.length = 1 := if_pos (hold_lt (hold_is hr x))

theorem one_right {node : Int} (h1 : 1 ≤ node) (h2 : node ≤ 4) : RightP [(⟨⟨#[]⟩, node⟩ : Pt)] :=
  ⟨by simp, by simp, fun p hp => by simp at hp; subst hp; rfl, List.pairwise_singleton _ _, fun p hp => by simp at hp; subst hp; exact ⟨by simp [Pt.lb], h1, h2⟩⟩
/-- the parts of a map don't lie in its box -/
theorem pts_far {wx : World} {B n : Nat} {A : Option Addr} {l : List Pt} {bm : Nat} {t : TypeId} {y : Value} {A' : Option Addr} {n' c' : Nat} (h : HasPts wx B A n l) (hb : Box wx bm t #[y, .slice A' n' c']) (i : Nat) (v : Value) : HasPts (wx.setCell ⟨bm, i, none⟩ v) B A n l := by
  refine ⟨h.1, h.2.1, fun k u hu => ?_⟩
  obtain ⟨a, rfl, hab, hc⟩ := h.2.2 k u hu
  refine ⟨a, rfl, hab, (World.cell?_setCell_other wx ⟨bm, i, none⟩ (a.add k) v fun e => ?_).trans hc⟩
  have hn : 0 < n := by
    rcases Nat.eq_zero_or_pos n with h0 | h0
    · have := List.eq_nil_of_length_eq_zero (h.1.trans h0)
      subst this
      simp [ptCells] at hu
    · exact h0
  obtain ⟨a', p, e2, -, -, -, h2⟩ := h.at_ hn
  injection e2 with e2
  subst e2
  have e3 : (a.add (0 * 2)).block = bm := by rw [addr_block, ← addr_block a k, ← e]
  rw [e3, hb.cell] at h2
  rcases hoff : (a.add (0 * 2)).off with _ | q
  · rw [hoff] at h2; simp at h2
  · rw [hoff] at h2; simp at h2
/-- a map in its box: block bm; all of it is newer than w0 or was there -/
structure TMap (w0 : World) (bm : Nat) (ep : Int) (l : List Pt) (A : Option Addr) (n c : Nat) (wx : World) : Prop where
  box : Box wx bm 24 #[.int .i64 ep, .slice A n c]
  pts : HasPts wx wx.heap.size A n l
  bel : Below w0.heap.size w0 wx
  old : w0.heap.size ≤ bm
theorem TMap.next {w0 wx wy : World} {bm n c : Nat} {ep : Int} {l : List Pt} {A : Option Addr} (h : TMap w0 bm ep l A n c wx) (hb : Below wx.heap.size wx wy) : TMap w0 bm ep l A n c wy :=
  ⟨h.box.below hb h.box.lt, (h.pts.belowOf hb (Nat.le_refl _)).more hb.size, h.bel.trans (hb.mono h.bel.size), h.old⟩
/-- another map is stored to the box -/
theorem TMap.put {w0 wx : World} {bm n c bn n2 c2 : Nat} {ep ep2 : Int} {l l2 : List Pt} {A A2 : Option Addr} (h : TMap w0 bm ep l A n c wx) (h2 : TMap w0 bn ep2 l2 A2 n2 c2 wx) :
    TMap w0 bm ep2 l2 A2 n2 c2 ((wx.setCell ⟨bm, 0, none⟩ (.int .i64 ep2)).setCell ⟨bm, 1, none⟩ (.slice A2 n2 c2)) := by
  have hb := set2q (.int .i64 ep2) (.slice A2 n2 c2) h.box
  have h3 := pts_far h2.pts h.box 0 (.int .i64 ep2)
  have hb1 : Box (wx.setCell ⟨bm, 0, none⟩ (.int .i64 ep2)) bm 24 #[.int .i64 ep2, .slice A n c] := by have h8 := h.box.set_ 0 (.int .i64 ep2); simpa using h8
  have h4 := pts_far h3 hb1 1 (.slice A2 n2 c2)
  exact ⟨hb, by simpa using h4, (h.bel.setCell h.old _).setCell h.old _, h.old⟩
theorem pts_put2 {wx : World} {B n : Nat} {A : Option Addr} {l : List Pt} {bm : Nat} {e : Int} {A' : Option Addr} {n' c' : Nat} (h : HasPts wx B A n l) (hb : Box wx bm 24 #[.int .i64 e, .slice A' n' c']) (me : Int) (A2 : Option Addr) (n2 c2 : Nat) :
    HasPts ((wx.setCell ⟨bm, 0, none⟩ (.int .i64 me)).setCell ⟨bm, 1, none⟩ (.slice A2 n2 c2)) B A n l := by
  have hb1 : Box (wx.setCell ⟨bm, 0, none⟩ (.int .i64 me)) bm 24 #[.int .i64 me, .slice A' n' c'] := by have h8 := hb.set_ 0 (.int .i64 me); simpa using h8
  exact pts_far (pts_far h hb 0 _) hb1 1 _
end Go.Proofs.Ytefagaiaflddaaa
