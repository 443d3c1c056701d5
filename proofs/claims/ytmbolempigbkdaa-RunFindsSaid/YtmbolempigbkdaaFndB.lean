/- Live of the program and of the document, and SamePairs. Condition: few changes with short texts, in memory. -/
import Derived.Test.YtmbolempigbkdaaFndA
namespace Go.Proofs.Ytmbolempigbkdaa
open Go.RowKit
open Go.Lib (strCells compareBytes)

/-- a key with its value -/
abbrev Pr := ByteArray × ByteArray
def prCells : List Pr → List Value
  | [] => []
  | p :: l => .string p.1 :: .string p.2 :: prCells l
theorem prCells_len (l : List Pr) : (prCells l).length = l.length * 2 := by
  induction l with
  | nil => rfl
  | cons v l ih => simp only [prCells, List.length_cons, ih]; omega
theorem prCells_app (a b : List Pr) : prCells (a ++ b) = prCells a ++ prCells b := by
  induction a with
  | nil => rfl
  | cons v l ih => simp [prCells, ih]
theorem prCells_at : ∀ (l : List Pr) (i : Nat) (p : Pr), l[i]? = some p → (prCells l)[i * 2]? = some (.string p.1) ∧ (prCells l)[i * 2 + 1]? = some (.string p.2)
  | [], i, v, h => by simp at h
  | w :: l, 0, v, h => by
    simp at h
    subst h
    exact ⟨rfl, rfl⟩
  | w :: l, i + 1, v, h => by
    have ih := prCells_at l i v (by simpa using h)
    rw [show (i + 1) * 2 = i * 2 + 1 + 1 from by omega]
    simpa [prCells] using ih
theorem pr_elem : ElemN Try.prog 61 2 32 (.agg #[.string ⟨#[]⟩, .string ⟨#[]⟩]) := ⟨by kernel_rfl, rfl⟩
def HasPrs (w : World) (B : Nat) (A : Option Addr) (n : Nat) (l : List Pr) : Prop := l.length = n ∧ Has w B A (n * 2) (prCells l)
theorem HasPrs.at_ {w : World} {B n : Nat} {A : Option Addr} {l : List Pr} (h : HasPrs w B A n l) {i : Nat} (hi : i < n) : ∃ a p, A = some a ∧ a.block < B ∧ l[i]? = some p ∧ w.cell? (a.add (i * 2)) = some (.string p.1) ∧ w.cell? ⟨(a.add (i * 2)).block, (a.add (i * 2)).off + 1, none⟩ = some (.string p.2) := by
  obtain ⟨hl, hh⟩ := h
  have hil : i < l.length := by omega
  obtain ⟨c0, c1⟩ := prCells_at l i l[i] (List.getElem?_eq_getElem hil)
  obtain ⟨a, rfl, hb, hc⟩ := hh.all (by omega)
  refine ⟨a, _, rfl, hb, List.getElem?_eq_getElem hil, hc _ _ c0, ?_⟩
  rw [← chg_step a _ 1 (by omega)]
  exact hc _ _ c1
def OwnPrs (w : World) (B : Nat) (v : Value) (l : List Pr) : Prop := w.ownsRow B 61 2 v l.length (prCells l)
theorem OwnPrs.slice {w : World} {B : Nat} {v : Value} {l : List Pr} (h : OwnPrs w B v l) : ∃ A c, v = .slice A l.length c ∧ l.length ≤ c ∧ c ≤ maxLen ∧ HasPrs w w.heap.size A l.length l := by
  obtain ⟨A, c, e, h1, h2, h3⟩ := own_sliceN h
  exact ⟨A, c, e, h1, h2, rfl, h3⟩
theorem OwnPrs.nil (w : World) (B : Nat) : OwnPrs w B (.slice none 0 0) [] := World.ownsRow_nil _ _ _ _
theorem OwnPrs.below {w w' : World} {B : Nat} {v : Value} {l : List Pr} (h : OwnPrs w B v l) (hb : Below w.heap.size w w') : OwnPrs w' B v l := own_belowN h hb
def GivesP (B : Nat) (l : List Pr) (w : World) (e : Ending) (w' : World) : Prop := ∃ v', e = .returned v' ∧ OwnPrs w' B v' l ∧ Below B w w'

set_option maxRecDepth 100000 in
set_option maxHeartbeats 1600000 in
theorem samePairs_any (A A' : Option Addr) (n c c' C C' : Nat) (l : List Pr) (w : World) (h : HasPrs w C A n l) (h' : HasPrs w C' A' n l) (hn : n ≤ maxLen) :
    Calls Try.prog 23 #[.slice A n c, .slice A' n c'] w fun e w' => e = .returned (.bool true) ∧ Below w.heap.size w w' := by
  unfold maxLen at hn
  have H := Lib.hid h
  have H' := Lib.hid h'
  clear h h'
  go_enter Try.func23, Try.ntmps23
  go_wp2
  go_loopw [5] (fun i wr => ∃ k : Nat, k ≤ n ∧ i = .int .i64 (k : Int) ∧ ∃ m, wr = w.drewN m) (fun i _ => n - (intOf i).toNat)
  case atStart => exact ⟨0, by omega, rfl, 0, rfl⟩
  case round =>
    obtain ⟨k, hk, rfl, m, rfl⟩ := hrel
    by_cases hlt : k < n
    · obtain ⟨a, v, rfl, _, hv, c0, c1⟩ := H.out.at_ hlt
      obtain ⟨b, u, rfl, _, hu, d0, d1⟩ := H'.out.at_ hlt
      have e : u = v := by rw [hv] at hu; injection hu with h; exact h.symm
      subst e
      clear hv hu
      have hk0 : (0 : Int) ≤ (k : Int) := by omega
      have hk1 : (k : Int) < (n : Int) := by omega
      go_wp2
      go_quiet (fail)
      go_wp2
      go_roundw
      case rel => exact ⟨k + 1, by omega, by go_num, _, rfl⟩
      case measure => simp [intOf]; omega
    · go_wp2
      go_ret
      exact ⟨rfl, below_dr (Below.refl _ _) _⟩

theorem got_setC {W : World} {g : Nat} {t : TypeId} {x y z : Value} (x' y' z' : Value) (h : Box W g t #[x, y, z]) : Box (((W.setCell ⟨g, 0, none⟩ x').setCell ⟨g, 1, none⟩ y').setCell ⟨g, 2, none⟩ z') g t #[x', y', z'] := by
  have := ((h.set_ 0 x').set_ 1 y').set_ 2 z'
  simpa using this
def prOf (c : Chg) : Pr := (c.k, c.v)
def livesL (l : List Chg) : List Pr := (liveL l).map prOf
theorem lives_succ {l : List Chg} {k : Nat} {c : Chg} (h : l[k]? = some c) : livesL (l.take (k + 1)) = livesL (l.take k) ++ (if c.g then [] else [prOf c]) := by
  rw [take_snocC h]
  unfold livesL liveL
  rw [List.filter_append, List.map_append]
  cases e : c.g <;> simp [e]
theorem lives_len (l : List Chg) : (livesL l).length ≤ l.length := by unfold livesL liveL; rw [List.length_map]; exact List.length_filter_le _ _
open Classical in
noncomputable def livesT (l : List Chg) : List Pr := if Run l then livesL l else []
theorem livesT_run {l : List Chg} (h : Run l) : livesT l = livesL l := by unfold livesT; rw [if_pos h]
theorem livesT_no {l : List Chg} (h : ¬ Run l) : livesT l = [] := by unfold livesT; rw [if_neg h]

set_option maxRecDepth 100000 in
set_option maxHeartbeats 3200000 in
theorem live_any (A : Option Addr) (n ca C : Nat) (l : List Chg) (w : World) (h : HasChs w C A n l) (hC : C ≤ w.heap.size) (hn : n ≤ 700) (hs : ∀ x ∈ l, x.k.size ≤ 4000 ∧ x.v.size ≤ 4000) :
    Calls Try.prog 24 #[.slice A n ca] w (GivesP w.heap.size (livesT l) w) := by
  have H := Lib.hid h
  have HC := Lib.hid hC
  have Hl := Lib.hid h.1
  have Hs := Lib.hid hs
  have Hrt := Lib.hid (wrong_any A n ca C l w h (by unfold maxLen; omega) hC)
  clear h hC hs
  by_cases hr : Run l
  · rw [livesT_run hr]
    rw [runB_true hr] at Hrt
    clear hr
    go_enter Try.func24, Try.ntmps24
    go_wp2_with fail
    refine Hrt.out.mono ?_
    rintro e w1 ⟨rfl, hb1⟩
    have Hb1 := Lib.hid hb1
    clear hb1
    go_wp2
    go_loopw [3, 5, 10] (fun o _ i wr => ∃ k : Nat, k ≤ n ∧ i = .int .i64 (k : Int) ∧ OwnPrs wr w.heap.size o (livesL (l.take k)) ∧ Below w.heap.size w wr) (fun _ _ i _ => n - (intOf i).toNat)
    case atStart => exact ⟨0, by omega, rfl, OwnPrs.nil _ _, Hb1.out⟩
    case round =>
      obtain ⟨k, hk, rfl, ho, hb⟩ := hrel
      have Ho := Lib.hid ho
      have Hb := Lib.hid hb
      have hsz := hb.size
      clear hb ho
      by_cases hlt : k < n
      · have Hlen := Lib.hid (lives_len (l.take k))
        have Hlk : Hid ((l.take k).length = k) := Lib.hid (by rw [List.length_take]; have := Hl.out; omega)
        obtain ⟨a, y, rfl, hab, hy, c0, c1, c2⟩ := (H.out.belowOf Hb.out HC.out).at_ hlt
        have Hss := Lib.hid (lives_succ hy)
        have hys := Hs.out y (List.mem_of_getElem? hy)
        have hk0 : (0 : Int) ≤ (k : Int) := by omega
        have hk1 : (k : Int) < (n : Int) := by omega
        clear hy
        obtain ⟨yk, yv, yg⟩ := y
        simp only at c0 c1 c2 hys Hss
        cases yg with
        | true =>
          rw [if_pos rfl, List.append_nil] at Hss
          go_wp2
          go_roundw
          case rel => exact ⟨k + 1, by omega, by go_num, by rw [Hss.out]; exact Ho.out.below (below_box _), Hb.out.alloc hsz _⟩
          case measure => simp [intOf]; omega
        | false =>
          rw [if_neg (by simp)] at Hss
          have Hcl := Lib.hid (fun wx => cloneC_any ⟨yk, yv, false⟩ wx (by simp only; omega) (by simp only; omega))
          unfold cagg at Hcl
          go_wp2_with fail
          refine (Hcl.out _).mono ?_
          rintro e w3 ⟨rfl, hb3⟩
          have hbx := (Box.made wr 38 #[.string yk, .string yv, .bool false]).below hb3 (by simp)
          obtain ⟨r0, r1, r2, f0, f1, f2⟩ := cells_box hbx
          have hbx2 := got_setC (.string yk) (.string yv) (.bool false) hbx
          have HbW : Hid (Below w.heap.size w (((w3.setCell ⟨wr.heap.size, 0, none⟩ (.string yk)).setCell ⟨wr.heap.size, 1, none⟩ (.string yv)).setCell ⟨wr.heap.size, 2, none⟩ (.bool false))) := Lib.hid
            (((((Hb.out.alloc hsz (Obj.cells #[.string yk, .string yv, .bool false] 38)).trans (hb3.mono (by simp only [World.size_alloc]; omega))).setCell hsz _).setCell hsz _).setCell hsz _)
          have Ho3 := (Ho.out.below (below_box (Obj.cells #[.string yk, .string yv, .bool false] 38))).below hb3
          have HoW : Hid (OwnPrs (((w3.setCell ⟨wr.heap.size, 0, none⟩ (.string yk)).setCell ⟨wr.heap.size, 1, none⟩ (.string yv)).setCell ⟨wr.heap.size, 2, none⟩ (.bool false)) w.heap.size _ (livesL (l.take k))) := Lib.hid (own_keepP Ho3 fun g hg => by
            have h1 := (Ho.out.lt g hg).2
            rw [Below.heap_setCell _ _ _ _ (by show g ≠ wr.heap.size; omega), Below.heap_setCell _ _ _ _ (by show g ≠ wr.heap.size; omega), Below.heap_setCell _ _ _ _ (by show g ≠ wr.heap.size; omega)])
          obtain ⟨W, hW⟩ : ∃ W, ((w3.setCell ⟨wr.heap.size, 0, none⟩ (.string yk)).setCell ⟨wr.heap.size, 1, none⟩ (.string yv)).setCell ⟨wr.heap.size, 2, none⟩ (.bool false) = W := ⟨_, rfl⟩
          rw [hW] at hbx2 HbW HoW
          obtain ⟨t0, t1, -, -, -, -⟩ := cells_box hbx2
          have hszW : w.heap.size ≤ W.heap.size := HbW.out.size
          clear hb3 hbx hbx2 Ho3 c0 c1 c2
          go_wp2_with (at_builtin; refine wpList_append_hasN rfl (.tmp 19) (.tmp 25) _ rfl 61 pr_elem (by omega) Try.underlying43 rfl (HoW.out.below (below_box (Obj.cells #[.string yk, .string yv] 61))) rfl (Has.lit W #[.string yk, .string yv] 61) (fun u hu => by simp at hu; rcases hu with rfl | rfl <;> rfl) (by have := Hlen.out; have := Hlk.out; simp only [maxLen]; omega) (by have := Hlen.out; have := Hlk.out; omega) (by simp only [World.size_alloc]; exact Nat.le_succ_of_le hszW) ?_; intro v4 w4 hown4 hg4 _)
          have Hb4 := Lib.hid (below_ownN (HbW.out.alloc hszW (Obj.cells #[.string yk, .string yv] 61)) (HoW.out.below (below_box (Obj.cells #[.string yk, .string yv] 61))) hg4 (by simp only [World.size_alloc]; omega))
          have Hown4 := Lib.hid hown4
          clear hg4 hown4
          go_wp2
          go_roundw
          case rel => exact ⟨k + 1, by omega, by go_num, by rw [Hss.out]; unfold OwnPrs; rw [List.length_append, prCells_app]; exact Hown4.out, Hb4.out⟩
          case measure => simp [intOf]; omega
      · obtain rfl : k = n := by omega
        have E : Hid (l.take k = l) := Lib.hid (List.take_of_length_le (by have := Hl.out; omega))
        rw [E.out] at Ho
        go_wp2
        go_ret
        exact ⟨_, rfl, Ho.out, Hb.out⟩
  · rw [livesT_no hr]
    rw [runB_false hr] at Hrt
    clear hr
    go_enter Try.func24, Try.ntmps24
    go_wp2_with fail
    refine Hrt.out.mono ?_
    rintro e w1 ⟨rfl, hb1⟩
    have Hb1 := Lib.hid hb1
    clear hb1
    go_wp2
    go_ret
    exact ⟨_, rfl, OwnPrs.nil _ _, Hb1.out⟩

set_option maxRecDepth 100000 in
set_option maxHeartbeats 3200000 in
theorem refLive_any (A : Option Addr) (n ca C : Nat) (l : List Chg) (w : World) (h : HasChs w C A n l) (hC : C ≤ w.heap.size) (hn : n ≤ 700) :
    Calls Try.prog 25 #[.slice A n ca] w (GivesP w.heap.size (livesT l) w) := by
  have H := Lib.hid h
  have HC := Lib.hid hC
  have Hl := Lib.hid h.1
  have Hrt := Lib.hid (fun wx (hx : Below w.heap.size w wx) => refRight_any A n ca C l wx (h.belowOf hx hC) (by unfold maxLen; omega) (Nat.le_trans hC hx.size))
  clear h hC
  by_cases hr : Run l
  · rw [livesT_run hr]
    rw [runB_true hr] at Hrt
    clear hr
    go_enter Try.func25, Try.ntmps25
    go_wp2
    go_loopw [3, 4] (fun o i wr => ∃ k : Nat, k ≤ n ∧ i = .int .i64 (k : Int) ∧ OwnPrs wr w.heap.size o (livesL (l.take k)) ∧ Below w.heap.size w wr) (fun _ i _ => n - (intOf i).toNat)
    case atStart => exact ⟨0, by omega, rfl, OwnPrs.nil _ _, Below.refl _ _⟩
    case round =>
      obtain ⟨k, hk, rfl, ho, hb⟩ := hrel
      have Ho := Lib.hid ho
      have Hb := Lib.hid hb
      have hsz := hb.size
      have Hrt1 := Lib.hid (Hrt.out wr hb)
      clear hb ho
      by_cases hlt : k < n
      · go_wp2_with fail
        refine Hrt1.out.mono ?_
        rintro e w2 ⟨rfl, hb2⟩
        have Hb2 := Lib.hid (Hb.out.trans (hb2.mono hsz))
        have hsz2 : w.heap.size ≤ w2.heap.size := Nat.le_trans hsz hb2.size
        have ho2 := Ho.out.below hb2
        clear hb2
        have Hlen := Lib.hid (lives_len (l.take k))
        have Hlk : Hid ((l.take k).length = k) := Lib.hid (by rw [List.length_take]; have := Hl.out; omega)
        obtain ⟨a, y, rfl, hab, hy, c0, c1, c2⟩ := (H.out.belowOf Hb2.out HC.out).at_ hlt
        have Hss := Lib.hid (lives_succ hy)
        have hk0 : (0 : Int) ≤ (k : Int) := by omega
        have hk1 : (k : Int) < (n : Int) := by omega
        clear hy
        obtain ⟨yk, yv, yg⟩ := y
        simp only at c0 c1 c2 Hss
        obtain ⟨N, hN⟩ : ∃ N, (livesL (l.take k)).length = N := ⟨_, rfl⟩
        obtain ⟨Ao, co, rfl, -, -, -⟩ := ho2.slice
        unfold OwnPrs at ho2
        rw [hN] at ho2 Hlen ⊢
        have Ho2 := Lib.hid ho2
        have HN := Lib.hid hN
        clear ho2 hN
        cases yg with
        | true =>
          rw [if_pos rfl, List.append_nil] at Hss
          go_wp2
          go_roundw
          case rel => exact ⟨k + 1, by omega, by go_num, by rw [Hss.out]; unfold OwnPrs; rw [HN.out]; exact Ho2.out, Hb2.out⟩
          case measure => simp [intOf]; omega
        | false =>
          rw [if_neg (by simp)] at Hss
          have Hk : Hid (∀ wx, w2.grownBy wx (Value.slice Ao N co).ownBlock → (wx.cell? (a.add (k * 3)) = some (.string yk) ∧ wx.cell? ⟨(a.add (k * 3)).block, (a.add (k * 3)).off + 1, none⟩ = some (.string yv)) ∧ w2.grownBy wx (Value.slice Ao N co).ownBlock) := Lib.hid fun wx hg => by
            have hb : ∀ {p : Addr} {u : Value}, p.block < C → w2.cell? p = some u → wx.cell? p = some u := fun {p u} hp hu => by
              have hp2 : p.block < w2.heap.size := by have := HC.out; omega
              exact (World.cell?_of_block (w := w2) (hg.block p.block hp2 fun e => by
                have h1 := (Ho2.out.lt _ e.symm).1
                have := HC.out
                omega)).trans hu
            exact ⟨⟨hb (by rw [addr_block]; exact hab) c0, hb (by show (a.add (k * 3)).block < C; rw [addr_block]; exact hab) c1⟩, hg⟩
          have hszL : w.heap.size ≤ (w2.drew.alloc (Obj.cells #[.string yk, .string yv] 61)).heap.size := by simp only [World.size_alloc]; exact Nat.le_succ_of_le hsz2
          go_wp2
          go_region_held3 (fun wx => (wx.cell? (a.add (k * 3)) = some (.string yk) ∧ wx.cell? ⟨(a.add (k * 3)).block, (a.add (k * 3)).off + 1, none⟩ = some (.string yv)) ∧ w2.grownBy wx (Value.slice Ao N co).ownBlock)
            (first | exact Hk.out _ (grown_below (Below.refl _ _).drew _) | exact Hk.out _ (World.grownBy.trans (And.right (by assumption)) (World.grownBy_alloc _ _ _)) | exact Hk.out _ (World.grownBy.trans (And.right (by assumption)) gA))
            (first
              | (refine step_append_hasN (by rfl) _ _ _ (by rfl) 61 pr_elem (by omega) Try.underlying43 (by rfl) (own_belowN Ho2.out ((Below.refl w2.heap.size w2).drew.alloc (Nat.le_refl _) (Obj.cells #[.string yk, .string yv] 61))) (by rfl) (Has.lit w2.drew #[.string yk, .string yv] 61) (fun u hu => by simp at hu; rcases hu with rfl | rfl <;> rfl) (by have := Hlen.out; have := Hlk.out; simp only [maxLen]; omega) (by have := Hlen.out; have := Hlk.out; omega) hszL ?_; intro vA wA oA gA zA))
          all_goals
            have HoA : Hid (OwnPrs wA w.heap.size vA (livesL (l.take k) ++ [prOf ⟨yk, yv, false⟩])) := Lib.hid (by unfold OwnPrs; rw [List.length_append, prCells_app, HN.out]; exact oA)
            have HbA : Hid (Below w.heap.size w wA) := Lib.hid ((Hb2.out.drew.alloc hsz2 (Obj.cells #[.string yk, .string yv] 61)).trans ((Below.refl _ _).grown gA hszL fun g e => (Ho2.out.lt g e).1))
            clear oA gA zA
            go_wp2
            go_roundw
            case rel => exact ⟨k + 1, by omega, by go_num, by rw [Hss.out]; exact HoA.out, HbA.out⟩
            case measure => simp [intOf]; omega
      · obtain rfl : k = n := by omega
        have E : Hid (l.take k = l) := Lib.hid (List.take_of_length_le (by have := Hl.out; omega))
        rw [E.out] at Ho
        go_wp2
        go_ret
        exact ⟨_, rfl, Ho.out, Hb.out⟩
  · rw [livesT_no hr]
    rw [runB_false hr] at Hrt
    have hpos : 0 < n := by
      rw [← Hl.out]
      cases l with
      | nil => exact absurd Run.nil hr
      | cons x l => simp
    clear hr
    have Hrt1 := Lib.hid (Hrt.out _ (Below.refl _ _))
    go_enter Try.func25, Try.ntmps25
    go_wp2
    go_loopw [3, 4] (fun o i wr => i = .int .i64 0 ∧ o = .slice none 0 0 ∧ wr = w) (fun _ i _ => 0)
    case atStart => exact ⟨rfl, rfl, rfl⟩
    case round =>
      obtain ⟨rfl, rfl, rfl⟩ := hrel
      go_wp2_with fail
      refine Hrt1.out.mono ?_
      rintro e w2 ⟨rfl, hb2⟩
      have Hb2 := Lib.hid hb2
      clear hb2
      go_wp2
      go_ret
      exact ⟨_, rfl, OwnPrs.nil _ _, Hb2.out⟩
end Go.Proofs.Ytmbolempigbkdaa
