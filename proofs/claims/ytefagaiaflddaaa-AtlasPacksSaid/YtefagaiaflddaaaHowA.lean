/- What atlas's plans make of a right map's parts: Split's. Condition: the parts are a row of the call's own. -/
import Derived.Test.YtefagaiaflddaaaAtF
import Derived.Test.YtefagaiaflddaaaInsP
import Derived.Test.YtefagaiaflddaaaDelP
import Derived.Test.YtefagaiaflddaaaClnP
import Derived.Deep.RegionWith
namespace Go.Proofs.Ytefagaiaflddaaa
open Go.RowKit
open Go.Lib (strCells compareBytes)

/-- what a plan makes of parts: below B nothing has turned -/
def HowPost (r : Option (List Pt)) (B : Nat) (w : World) (e : Ending) (w' : World) : Prop :=
  Below B w w' ∧ ((r = none ∧ e = .returned (.tuple #[.slice none 0 0, .bool false])) ∨ ∃ l' v', r = some l' ∧ e = .returned (.tuple #[v', .bool true]) ∧ OwnPts w' B v' l')
theorem below_box_drew (W : World) : Below W.heap.size W W.drew := (Below.refl _ _).drew
theorem grown_below {B : Nat} {w w' : World} {v : Value} {l : List Pt} (h : OwnPts w B v l) (hB : B ≤ w.heap.size) (hg : w.grownBy w' v.ownBlock) : Below B w w' :=
  ⟨hg.os, hg.tape, hg.output, hg.size, fun i hi => hg.block i (by omega) fun e => by have := (h.lt i e.symm).1; omega⟩
set_option maxRecDepth 100000 in
set_option maxHeartbeats 3200000 in
theorem howSplit_any (B bx : Nat) (v : Value) (l : List Pt) (s : ByteArray) (w : World) (h : OwnPts w B v l) (hB : B ≤ w.heap.size) (hr : RightP l) (hbx : Box w bx 9 #[.string s]) (hs : s.size ≤ maxLen) :
    Calls Try.prog 37 #[v, .pointer (some ⟨bx, 0, none⟩)] w (HowPost (splitP l s) B w) := by
  unfold maxLen at hs
  obtain ⟨A, c, rfl, hnc, hcm, hx⟩ := h.slice
  obtain ⟨r, hre⟩ : ∃ r, splitP l s = r := ⟨_, rfl⟩
  rw [hre]
  have Hre := Lib.hid hre
  obtain ⟨n, hn⟩ : ∃ n, l.length = n := ⟨_, rfl⟩
  have Hn := Lib.hid hn
  have hn8 : n ≤ 8 := by rw [← hn]; exact hr.most
  obtain ⟨i, hie⟩ : ∃ i, holdN l s.data.toList = i := ⟨_, rfl⟩
  have Hie := Lib.hid hie
  have hil : i < n := by rw [← hie, ← hn]; exact hold_lt (hold_is hr _)
  have Hh := Lib.hid (holder_any A l.length c _ l s w hx (Nat.le_refl _) hr)
  have HO := Lib.hid h
  have HX := Lib.hid hx
  have HB := Lib.hid hbx
  rw [hn] at Hh HO HX hnc ⊢
  rw [hie] at Hh
  have c0 : w.cell? ⟨bx, 0, none⟩ = some (.string s) := hbx.cell 0
  clear h hr hbx hx hre hn hie
  go_enter Try.func37, Try.ntmps37
  go_wp2_with fail
  refine Hh.out.mono ?_
  rintro e w1 ⟨rfl, hb1⟩
  have Hb1 := Lib.hid hb1
  have hs1 : w.heap.size ≤ w1.heap.size := hb1.size
  obtain ⟨a, p, rfl, hab, hp, d0, d1⟩ := (HX.out.belowOf hb1 (Nat.le_refl _)).at_ hil
  have Hp : Hid (ptAt l i = p) := Lib.hid (ptAt_of hp)
  obtain ⟨plo, pn⟩ := p
  simp only at d0 d1
  have c1 : w1.cell? ⟨bx, 0, none⟩ = some (.string s) := (HB.out.below hb1 HB.out.lt).cell 0
  have hi0 : (0 : Int) ≤ (i : Int) := by omega
  have hi1 : (i : Int) < (n : Int) := by omega
  clear hb1 hp hab c0 Hh
  by_cases he : plo = s
  · have hd := text_eq plo s
    rw [decide_eq_true he] at hd
    have E : Hid (r = none) := Lib.hid (by rw [← Hre.out]; unfold splitP; rw [Hie.out, Hp.out]; exact if_pos (.inl (by unfold Pt.lb; rw [he])))
    clear he
    go_wp2
    go_quiet (fail)
    go_wp2
    go_ret2
    exact ⟨below_dr (Hb1.out.mono hB) _, .inl ⟨E.out, rfl⟩⟩
  · have hd := text_eq plo s
    rw [decide_eq_false he] at hd
    have Hne : Hid (plo.data.toList ≠ s.data.toList) := Lib.hid fun e => he (bytes_ext e)
    clear he
    by_cases hlen : 100 < s.size
    · have hl2 : decide ((100 : Int) < (s.size : Int)) = true := decide_eq_true (by omega)
      have hl3 : decide (100 < s.size) = true := decide_eq_true hlen
      have E : Hid (r = none) := Lib.hid (by rw [← Hre.out]; unfold splitP; exact if_pos (.inr (.inl (by rw [← Lib.size_eq]; exact hlen))))
      go_wp2
      go_quiet (fail)
      go_wp2
      go_ret2
      exact ⟨below_dr (Hb1.out.mono hB) _, .inl ⟨E.out, rfl⟩⟩
    · have hl2 : decide ((100 : Int) < (s.size : Int)) = false := decide_eq_false (by omega)
      have hl3 : decide (100 < s.size) = false := decide_eq_false hlen
      by_cases h8 : n = 8
      · have hd8 : ((n : Int) == 8) = true := by rw [h8]; rfl
        have E : Hid (r = none) := Lib.hid (by rw [← Hre.out]; unfold splitP; exact if_pos (.inr (.inr (by rw [Hn.out]; exact h8))))
        clear h8
        go_wp2
        go_quiet (fail)
        go_wp2
        go_ret2
        exact ⟨below_dr (Hb1.out.mono hB) _, .inl ⟨E.out, rfl⟩⟩
      · have hd8 : ((n : Int) == 8) = false := by
          have : ¬ ((n : Int) = 8) := by omega
          simpa using this
        have E : Hid (r = some (l.take (i + 1) ++ ([⟨s, pn⟩] ++ l.drop (i + 1)))) := Lib.hid (by
          rw [← Hre.out]
          unfold splitP
          rw [Hie.out, Hp.out, if_neg]
          · rfl
          · rintro (h1 | h1 | h1)
            · exact Hne.out h1
            · rw [← Lib.size_eq] at h1; exact hlen h1
            · rw [Hn.out] at h1; exact h8 h1)
        clear h8
        go_wp2
        go_quiet (fail)
        generalize hw2 : w1.drewN _ = w2 at *
        have hbq : Below w1.heap.size w1 w2 := by rw [← hw2]; exact below_dr (Below.refl _ _) _
        have Hb2 : Hid (Below w.heap.size w w2) := Lib.hid (Hb1.out.trans (hbq.mono hs1))
        have hs2 : w.heap.size ≤ w2.heap.size := Hb2.out.size
        have e1 : w2.cell? ⟨(a.add (i * 2)).block, (a.add (i * 2)).off + 1, none⟩ = some (.int .i64 pn) := by
          obtain ⟨a', p', ea, -, hp', -, f1⟩ := (HX.out.belowOf Hb2.out (Nat.le_refl _)).at_ hil
          injection ea with ea
          subst ea
          rw [← ptAt_of hp', Hp.out] at f1
          exact f1
        have c2 : w2.cell? ⟨bx, 0, none⟩ = some (.string s) := (HB.out.below Hb2.out HB.out.lt).cell 0
        have hno : (Value.slice (some a) n c).ownBlock ≠ some w2.heap.size := fun e => by have := (HO.out.lt _ e).2; omega
        have HI := Lib.hid (fun wx (hx : Below w2.heap.size w2 wx) (hb : Box wx w2.heap.size 46 #[.string s, .int .i64 pn]) => insert_any (.slice (some a) n c) B w2.heap.size n (i + 1) l ⟨s, pn⟩ wx (HO.out.below (Hb2.out.trans (hx.mono hs2))) Hn.out (by omega) (Nat.le_trans (Nat.le_trans hB hs2) hx.size) (by omega) hno hb)
        have Hl1 := Lib.hid (below_box (w := w2) (Obj.cells #[.string s, .int .i64 pn] 46)).drew
        have Hc4 : Hid (Calls Try.prog 38 #[.slice (some a) n c, .int .i64 ((i + 1 : Nat) : Int), .slice (some ⟨w2.heap.size, 0, none⟩) 1 1] (w2.alloc (Obj.cells #[.string s, .int .i64 pn] 46)).drew (InsPost B (.slice (some a) n c) (l.take (i + 1) ++ ([⟨s, pn⟩] ++ l.drop (i + 1))) (w2.alloc (Obj.cells #[.string s, .int .i64 pn] 46)).drew)) := Lib.hid (HI.out _ Hl1.out ((Box.made w2 _ _).below (below_box_drew _) (by simp)))
        have hi2 : ((i + 1 : Nat) : Int) = (i : Int) + 1 := by omega
        rw [hi2] at Hc4
        have hwi : IntKind.i64.wrap ((i : Int) + 1) = (i : Int) + 1 := IntWalk.i64_in _ (by omega)
        clear hw2 hbq hno c1 d0 d1 hi2 HI
        go_wp2
        go_region_with (first | (go_at_call 38; refine Hc4.out.mono ?_; rintro e' w4 ⟨v4, rfl, o4, g4, -⟩; have H4 := Lib.hid (And.intro o4 g4); clear o4 g4))
        all_goals
          have HE : Hid (Below B w w4) := Lib.hid ((Hb2.out.mono hB).trans ((Hl1.out.mono (Nat.le_trans hB hs2)).trans (grown_below (HO.out.below (Hb2.out.trans (Hl1.out.mono hs2))) (Nat.le_trans (Nat.le_trans hB hs2) Hl1.out.size) H4.out.2)))
          go_wp2
          go_ret2
          exact ⟨HE.out, .inr ⟨_, _, E.out, rfl, H4.out.1⟩⟩
end Go.Proofs.Ytefagaiaflddaaa
