/- run.Pack gives what the plain text (SpecPk) gives. Condition: sixty changes with short texts at most, in memory. -/
import Derived.Test.YtfmjjjfeooaeeaaPckA
import Derived.Test.YtfmjjjfeooaeeaaHpA
namespace Go.Proofs.Ytfmjjjfeooaeeaa
open Go.RowKit
open Go.Lib (strCells compareBytes)

theorem textForm_le {s : List UInt8} (h : s.length ≤ 4000) : (textForm s).length ≤ 4009 := by
  have := numForm_len9 (k := s.length) (by omega)
  unfold textForm
  rw [List.length_append]
  omega
theorem bodyL_le : ∀ {l : List Chg}, (∀ x ∈ l, x.k.size ≤ 4000 ∧ x.v.size ≤ 4000) → (bodyL l).length ≤ 9000 * l.length
  | [], _ => by simp [bodyL]
  | c :: l, h => by
    have h1 := bodyL_le fun x hx => h x (List.mem_cons_of_mem _ hx)
    have h2 := h c (by simp)
    have h3 := textForm_le (s := c.k.data.toList) (by rw [← Lib.size_eq]; exact h2.1)
    have h4 := textForm_le (s := c.v.data.toList) (by rw [← Lib.size_eq]; exact h2.2)
    have h5 : (numForm (goneN c.g)).length = 1 := by rw [goneN_one]; rfl
    simp only [bodyL, chgForm, List.length_append, List.length_cons] at h1 ⊢
    omega
theorem partsL_len (l : List Chg) : (partsL l).length = 1 + 3 * l.length := by
  unfold partsL
  rw [List.length_cons]
  have : (l.flatMap fun c => [textForm c.k.data.toList, numForm (goneN c.g), textForm c.v.data.toList]).length = 3 * l.length := by
    induction l with
    | nil => rfl
    | cons c l ih => rw [List.flatMap_cons, List.length_append, ih]; simp; omega
  omega
/-- the parts of n changes, of which so many have been laid -/
def partsN (n : Nat) (l : List Chg) : List (List UInt8) := numForm n :: l.flatMap fun c => [textForm c.k.data.toList, numForm (goneN c.g), textForm c.v.data.toList]
theorem partsN_succ {n : Nat} {l : List Chg} {k : Nat} {c : Chg} (h : l[k]? = some c) : partsN n (l.take (k + 1)) = partsN n (l.take k) ++ [textForm c.k.data.toList, numForm (goneN c.g), textForm c.v.data.toList] := by
  rw [take_snocC h]
  simp [partsN]
theorem partsN_len (n : Nat) (l : List Chg) : (partsN n l).length = 1 + 3 * l.length := by have := partsL_len l; simpa [partsN, partsL] using this

theorem OwnPv.snoc {w w' : World} {B : Nat} {v v' : Value} {rs qs : Pvs} (h : OwnPv w B v rs) (hq : ∀ q ∈ qs, w.ownsRow B 5 1 q.1 q.2.length (byteCells q.2)) (h' : w'.ownsRow B 55 1 v' (rs.length + qs.length) (pvCells rs ++ pvCells qs)) (hg : w.grownBy w' v.ownBlock) : OwnPv w' B v' (rs ++ qs) := by
  refine ⟨by rw [List.length_append]; unfold pvCells at h' ⊢; rw [List.map_append]; exact h', fun r hr => ?_⟩
  rcases List.mem_append.1 hr with hr | hr
  · exact own_otherP hg h.own (h.rows r hr) (by decide)
  · exact own_otherP hg h.own (hq r hr) (by decide)
/-- What Pack answers: the bytes of a run, or that it isn't one. -/
def PackPost (B : Nat) (l : List Chg) (w : World) (e : Ending) (w' : World) : Prop :=
  Below B w w' ∧ ((Run l ∧ ∃ v, e = .returned (.tuple #[v, .int .i64 0]) ∧ w'.ownsRow B 5 1 v (packL l).length (byteCells (packL l))) ∨ (¬ Run l ∧ e = .returned (.tuple #[.slice none 0 0, .int .i64 3])))
set_option maxRecDepth 100000 in
set_option maxHeartbeats 3200000 in
theorem pack_any (A : Option Addr) (n ca C : Nat) (l : List Chg) (w : World) (h : HasChs w C A n l) (hC : C ≤ w.heap.size) (hn : n ≤ 60) (hs : ∀ x ∈ l, x.k.size ≤ 4000 ∧ x.v.size ≤ 4000) :
    Calls Try.prog 45 #[.slice A n ca] w (PackPost w.heap.size l w) := by
  have Hw := Lib.hid (wrong_any A n ca C l w h (by unfold maxLen; omega) hC)
  have H := Lib.hid h
  have HC := Lib.hid hC
  have Hs := Lib.hid hs
  have Hl := Lib.hid h.1
  clear h hC hs
  by_cases hr : Run l
  · have Hr := Lib.hid hr
    rw [runB_true hr] at Hw
    clear hr
    go_enter Try.func45, Try.ntmps45
    go_wp2_with fail
    refine Hw.out.mono ?_
    rintro e w1 ⟨rfl, hb1⟩
    have Hb1 := Lib.hid hb1
    clear hb1
    go_wp2_with fail
    refine (num_any (n : Int) w1 (by omega)).mono ?_
    rintro e w2 ⟨v2, rfl, ho2, hb2⟩
    rw [if_neg (by omega), Int.toNat_natCast] at ho2
    obtain ⟨A2, c2, rfl, -, -, -⟩ := own_slice ho2
    have hsz2 : w.heap.size ≤ w2.heap.size := Nat.le_trans Hb1.out.size hb2.size
    have HP : Hid (OwnPv (w2.alloc (.cells #[.slice A2 (numForm n).length c2] 55)) w.heap.size (.slice (some ⟨w2.heap.size, 0, none⟩) 1 1) [(.slice A2 (numForm n).length c2, numForm n)]) := Lib.hid
      ⟨World.ownsRow_lit (base := w.heap.size) (e := 55) (size := 1) w2 #[.slice A2 (numForm n).length c2] 1 hsz2 (by simp [maxLen]) rfl, fun r hr => by
        simp at hr
        subst hr
        exact own_belowN (own_baseN ho2 Hb1.out.size) (below_box _)⟩
    have Hb2 : Hid (Below w.heap.size w (w2.alloc (.cells #[.slice A2 (numForm n).length c2] 55))) := Lib.hid (((Hb1.out.trans (hb2.mono Hb1.out.size))).alloc hsz2 _)
    clear ho2 hb2
    go_wp2
    go_loopw [4, 6, 7, 16] (fun o _ _ i wr => ∃ (k : Nat) (rs : Pvs), k ≤ n ∧ i = .int .i64 (k : Int) ∧ OwnPv wr w.heap.size o rs ∧ Hid (rs.map (·.2) = partsN n (l.take k)) ∧ Below w.heap.size w wr) (fun _ _ _ i _ => n - (intOf i).toNat)
    case atStart => exact ⟨0, _, by omega, rfl, HP.out, Lib.hid rfl, Hb2.out⟩
    case round =>
      clear HP Hb2
      obtain ⟨k, rs, hk, rfl, ho, Hrs, hb⟩ := hrel
      have Ho := Lib.hid ho
      have Hb := Lib.hid hb
      have hsz := hb.size
      clear hb
      by_cases hlt : k < n
      · obtain ⟨a, y, rfl, hab, hy, c0, c1, c3⟩ := (H.out.belowOf Hb.out HC.out).at_ hlt
        have Hy := Lib.hid (partsN_succ (n := n) hy)
        have hys := Hs.out y (List.mem_of_getElem? hy)
        have Hlr : Hid (rs.length = 1 + 3 * k) := Lib.hid (by
          have h1 := congrArg List.length Hrs.out
          rw [partsN_len, List.length_map, List.length_take] at h1
          have := Hl.out
          omega)
        obtain ⟨Ap, cp, rfl, -, -, -⟩ := own_slice ho.own
        obtain ⟨N, hN⟩ : ∃ N, rs.length = N := ⟨_, rfl⟩
        have hgo := ho.own
        rw [hN] at hgo Hlr Ho
        rw [hN]
        obtain ⟨yk, yv, yg⟩ := y
        simp only at c0 c1 c3
        have hg01 : yg = false ∨ yg = true := by cases yg <;> simp
        have Hown := Lib.hid hgo
        have hN60 : N ≤ 181 := by have := Hlr.out; omega
        have HN := Lib.hid hN
        clear hy ho hgo hN hN60
        rcases hg01 with rfl | rfl
        · have Hk : Hid (∀ wx, (wr.alloc (Obj.cells #[.string yk, .string yv, .bool false] 38)).grownBy wx (Value.slice Ap N cp).ownBlock → (wx.cell? ⟨wr.heap.size, 0, none⟩ = some (.string yk) ∧ wx.cell? ⟨wr.heap.size, 1, none⟩ = some (.string yv)) ∧ (wr.alloc (Obj.cells #[.string yk, .string yv, .bool false] 38)).grownBy wx (Value.slice Ap N cp).ownBlock) := Lib.hid fun wx hg => by
            have hbx := (Box.made wr 38 #[.string yk, .string yv, .bool false]).grown hg fun e => by
              have h1 := (Hown.out.lt _ e.symm).2
              exact absurd h1 (Nat.lt_irrefl _)
            exact ⟨⟨hbx.cell 0, hbx.cell 1⟩, hg⟩
          have HownW : Hid ((wr.alloc (Obj.cells #[.string yk, .string yv, .bool false] 38)).ownsRow w.heap.size 55 1 (.slice Ap N cp) N (pvCells rs)) := Lib.hid (own_belowN Hown.out (below_box _))
          have hky : yk.size ≤ 1000000 ∧ yv.size ≤ 1000000 := by have h1 := hys.1; have h2 := hys.2; simp only at h1 h2; omega
          have HszW : Hid (w.heap.size ≤ (wr.alloc (Obj.cells #[.string yk, .string yv, .bool false] 38)).heap.size) := Lib.hid (Nat.le_trans hsz (by simp))
          go_wp2
          go_region_held3 (fun wx => (wx.cell? ⟨wr.heap.size, 0, none⟩ = some (.string yk) ∧ wx.cell? ⟨wr.heap.size, 1, none⟩ = some (.string yv)) ∧ (wr.alloc (Obj.cells #[.string yk, .string yv, .bool false] 38)).grownBy wx (Value.slice Ap N cp).ownBlock)
            (first | exact Hk.out _ (grown_below (Below.refl _ _).drew _) | exact Hk.out _ (World.grownBy.trans (And.right (by assumption)) (grown_below b3 _)) | exact Hk.out _ (World.grownBy.trans (And.right (by assumption)) (grown_below b2 _)) | exact Hk.out _ (World.grownBy.trans (And.right (by assumption)) (grown_below b1 _)) | exact Hk.out _ (World.grownBy.trans (And.right (by assumption)) (World.grownBy_alloc _ _ _)) | exact Hk.out _ (World.grownBy.trans (And.right (by assumption)) gA))
            (first
              | (go_at_call_of 73 (Value.string yk); refine (text_any yk _ hky.1).mono ?_; rintro e w3 ⟨v3, rfl, o3, b1⟩; obtain ⟨A3, m3, rfl, -, -, -⟩ := own_slice o3)
              | (go_at_call 72; refine (num_any 0 _ (by omega)).mono ?_; rintro e w4 ⟨v4, rfl, o4, b2⟩; rw [if_neg (by omega), show (0 : Int).toNat = goneN false from rfl] at o4; obtain ⟨A4, m4, rfl, -, -, -⟩ := own_slice o4)
              | (go_at_call_of 73 (Value.string yv); refine (text_any yv _ hky.2).mono ?_; rintro e w5 ⟨v5, rfl, o5, b3⟩; obtain ⟨A5, m5, rfl, -, -, -⟩ := own_slice o5; have C3 := below_thn (below_thn (below_thn (Below.refl (wr.alloc (Obj.cells #[.string yk, .string yv, .bool false] 38)).heap.size (wr.alloc (Obj.cells #[.string yk, .string yv, .bool false] 38))).drew b1) b2) b3)
              | (refine step_append_hasN (by rfl) _ _ _ (by rfl) 55 pv_elem (by omega) Try.underlying107 (by rfl) (own_belowN HownW.out (C3.alloc C3.size (Obj.cells #[.slice A3 (textForm yk.data.toList).length m3, .slice A4 (numForm (goneN false)).length m4, .slice A5 (textForm yv.data.toList).length m5] 55))) (by rfl) (Has.lit w5 #[.slice A3 (textForm yk.data.toList).length m3, .slice A4 (numForm (goneN false)).length m4, .slice A5 (textForm yv.data.toList).length m5] 55) (fun u hu => by simp at hu; rcases hu with rfl | rfl | rfl <;> rfl) (by have := HN.out; have := Hlr.out; simp only [maxLen]; omega) (by have := Hlr.out; omega) (Nat.le_trans HszW.out (C3.alloc C3.size (Obj.cells #[.slice A3 (textForm yk.data.toList).length m3, .slice A4 (numForm (goneN false)).length m4, .slice A5 (textForm yv.data.toList).length m5] 55)).size) ?_; intro vA wA oA gA zA))
          all_goals
            have W5 := C3.alloc C3.size (Obj.cells #[.slice A3 (textForm yk.data.toList).length m3, .slice A4 (numForm (goneN false)).length m4, .slice A5 (textForm yv.data.toList).length m5] 55)
            have hP5 := (Ho.out.below (below_box (Obj.cells #[.string yk, .string yv, .bool false] 38))).below W5
            have q3 := own_belowN o3 ((below_thn (below_thn (Below.refl w3.heap.size w3) b2) b3).alloc (below_thn (below_thn (Below.refl w3.heap.size w3) b2) b3).size (Obj.cells #[.slice A3 (textForm yk.data.toList).length m3, .slice A4 (numForm (goneN false)).length m4, .slice A5 (textForm yv.data.toList).length m5] 55))
            have q4 := own_belowN o4 (b3.alloc b3.size (Obj.cells #[.slice A3 (textForm yk.data.toList).length m3, .slice A4 (numForm (goneN false)).length m4, .slice A5 (textForm yv.data.toList).length m5] 55))
            have q5 := own_belowN o5 (below_box (Obj.cells #[.slice A3 (textForm yk.data.toList).length m3, .slice A4 (numForm (goneN false)).length m4, .slice A5 (textForm yv.data.toList).length m5] 55))
            have z3 : w.heap.size ≤ w3.heap.size := Nat.le_trans HszW.out b1.size
            have z4 : w.heap.size ≤ w4.heap.size := Nat.le_trans z3 b2.size
            have HPA : Hid (OwnPv wA w.heap.size vA (rs ++ [(.slice A3 (textForm yk.data.toList).length m3, textForm yk.data.toList), (.slice A4 (numForm (goneN false)).length m4, numForm (goneN false)), (.slice A5 (textForm yv.data.toList).length m5, textForm yv.data.toList)])) := Lib.hid (by
              refine hP5.snoc (fun q hq => ?_) (by rw [HN.out]; exact oA) gA
              simp only [List.mem_cons, List.not_mem_nil, or_false] at hq
              rcases hq with rfl | rfl | rfl
              · exact own_baseN q3 HszW.out
              · exact own_baseN q4 z3
              · exact own_baseN q5 z4)
            have HbA : Hid (Below w.heap.size w wA) := Lib.hid ((Hb.out.trans (((below_box _).mono hsz).trans (W5.mono HszW.out))).trans ((Below.refl _ _).grown gA (Nat.le_trans HszW.out W5.size) fun g e => (Hown.out.lt g e).1))
            have HrsA : Hid ((rs ++ [((.slice A3 (textForm yk.data.toList).length m3 : Value), textForm yk.data.toList), (.slice A4 (numForm (goneN false)).length m4, numForm (goneN false)), (.slice A5 (textForm yv.data.toList).length m5, textForm yv.data.toList)]).map (·.2) = partsN n (l.take (k + 1))) := Lib.hid (by
              rw [Hy.out, List.map_append, Hrs.out]
              rfl)
            clear hP5 q3 q4 q5 z3 z4 oA gA zA o3 o4 o5 b1 b2 b3 C3 W5
            go_wp2
            go_roundw
            case rel => exact ⟨k + 1, _, by omega, by go_num, HPA.out, HrsA, HbA.out⟩
            case measure => simp [intOf]; omega
        · have Hk : Hid (∀ wx, (wr.alloc (Obj.cells #[.string yk, .string yv, .bool true] 38)).grownBy wx (Value.slice Ap N cp).ownBlock → (wx.cell? ⟨wr.heap.size, 0, none⟩ = some (.string yk) ∧ wx.cell? ⟨wr.heap.size, 1, none⟩ = some (.string yv)) ∧ (wr.alloc (Obj.cells #[.string yk, .string yv, .bool true] 38)).grownBy wx (Value.slice Ap N cp).ownBlock) := Lib.hid fun wx hg => by
            have hbx := (Box.made wr 38 #[.string yk, .string yv, .bool true]).grown hg fun e => by
              have h1 := (Hown.out.lt _ e.symm).2
              exact absurd h1 (Nat.lt_irrefl _)
            exact ⟨⟨hbx.cell 0, hbx.cell 1⟩, hg⟩
          have HownW : Hid ((wr.alloc (Obj.cells #[.string yk, .string yv, .bool true] 38)).ownsRow w.heap.size 55 1 (.slice Ap N cp) N (pvCells rs)) := Lib.hid (own_belowN Hown.out (below_box _))
          have hky : yk.size ≤ 1000000 ∧ yv.size ≤ 1000000 := by have h1 := hys.1; have h2 := hys.2; simp only at h1 h2; omega
          have HszW : Hid (w.heap.size ≤ (wr.alloc (Obj.cells #[.string yk, .string yv, .bool true] 38)).heap.size) := Lib.hid (Nat.le_trans hsz (by simp))
          go_wp2
          go_region_held3 (fun wx => (wx.cell? ⟨wr.heap.size, 0, none⟩ = some (.string yk) ∧ wx.cell? ⟨wr.heap.size, 1, none⟩ = some (.string yv)) ∧ (wr.alloc (Obj.cells #[.string yk, .string yv, .bool true] 38)).grownBy wx (Value.slice Ap N cp).ownBlock)
            (first | exact Hk.out _ (grown_below (Below.refl _ _).drew _) | exact Hk.out _ (World.grownBy.trans (And.right (by assumption)) (grown_below b3 _)) | exact Hk.out _ (World.grownBy.trans (And.right (by assumption)) (grown_below b2 _)) | exact Hk.out _ (World.grownBy.trans (And.right (by assumption)) (grown_below b1 _)) | exact Hk.out _ (World.grownBy.trans (And.right (by assumption)) (World.grownBy_alloc _ _ _)) | exact Hk.out _ (World.grownBy.trans (And.right (by assumption)) gA))
            (first
              | (go_at_call_of 73 (Value.string yk); refine (text_any yk _ hky.1).mono ?_; rintro e w3 ⟨v3, rfl, o3, b1⟩; obtain ⟨A3, m3, rfl, -, -, -⟩ := own_slice o3)
              | (go_at_call 72; refine (num_any 1 _ (by omega)).mono ?_; rintro e w4 ⟨v4, rfl, o4, b2⟩; rw [if_neg (by omega), show (1 : Int).toNat = goneN true from rfl] at o4; obtain ⟨A4, m4, rfl, -, -, -⟩ := own_slice o4)
              | (go_at_call_of 73 (Value.string yv); refine (text_any yv _ hky.2).mono ?_; rintro e w5 ⟨v5, rfl, o5, b3⟩; obtain ⟨A5, m5, rfl, -, -, -⟩ := own_slice o5; have C3 := below_thn (below_thn (below_thn (Below.refl (wr.alloc (Obj.cells #[.string yk, .string yv, .bool true] 38)).heap.size (wr.alloc (Obj.cells #[.string yk, .string yv, .bool true] 38))).drew b1) b2) b3)
              | (refine step_append_hasN (by rfl) _ _ _ (by rfl) 55 pv_elem (by omega) Try.underlying107 (by rfl) (own_belowN HownW.out (C3.alloc C3.size (Obj.cells #[.slice A3 (textForm yk.data.toList).length m3, .slice A4 (numForm (goneN true)).length m4, .slice A5 (textForm yv.data.toList).length m5] 55))) (by rfl) (Has.lit w5 #[.slice A3 (textForm yk.data.toList).length m3, .slice A4 (numForm (goneN true)).length m4, .slice A5 (textForm yv.data.toList).length m5] 55) (fun u hu => by simp at hu; rcases hu with rfl | rfl | rfl <;> rfl) (by have := HN.out; have := Hlr.out; simp only [maxLen]; omega) (by have := Hlr.out; omega) (Nat.le_trans HszW.out (C3.alloc C3.size (Obj.cells #[.slice A3 (textForm yk.data.toList).length m3, .slice A4 (numForm (goneN true)).length m4, .slice A5 (textForm yv.data.toList).length m5] 55)).size) ?_; intro vA wA oA gA zA))
          all_goals
            have W5 := C3.alloc C3.size (Obj.cells #[.slice A3 (textForm yk.data.toList).length m3, .slice A4 (numForm (goneN true)).length m4, .slice A5 (textForm yv.data.toList).length m5] 55)
            have hP5 := (Ho.out.below (below_box (Obj.cells #[.string yk, .string yv, .bool true] 38))).below W5
            have q3 := own_belowN o3 ((below_thn (below_thn (Below.refl w3.heap.size w3) b2) b3).alloc (below_thn (below_thn (Below.refl w3.heap.size w3) b2) b3).size (Obj.cells #[.slice A3 (textForm yk.data.toList).length m3, .slice A4 (numForm (goneN true)).length m4, .slice A5 (textForm yv.data.toList).length m5] 55))
            have q4 := own_belowN o4 (b3.alloc b3.size (Obj.cells #[.slice A3 (textForm yk.data.toList).length m3, .slice A4 (numForm (goneN true)).length m4, .slice A5 (textForm yv.data.toList).length m5] 55))
            have q5 := own_belowN o5 (below_box (Obj.cells #[.slice A3 (textForm yk.data.toList).length m3, .slice A4 (numForm (goneN true)).length m4, .slice A5 (textForm yv.data.toList).length m5] 55))
            have z3 : w.heap.size ≤ w3.heap.size := Nat.le_trans HszW.out b1.size
            have z4 : w.heap.size ≤ w4.heap.size := Nat.le_trans z3 b2.size
            have HPA : Hid (OwnPv wA w.heap.size vA (rs ++ [(.slice A3 (textForm yk.data.toList).length m3, textForm yk.data.toList), (.slice A4 (numForm (goneN true)).length m4, numForm (goneN true)), (.slice A5 (textForm yv.data.toList).length m5, textForm yv.data.toList)])) := Lib.hid (by
              refine hP5.snoc (fun q hq => ?_) (by rw [HN.out]; exact oA) gA
              simp only [List.mem_cons, List.not_mem_nil, or_false] at hq
              rcases hq with rfl | rfl | rfl
              · exact own_baseN q3 HszW.out
              · exact own_baseN q4 z3
              · exact own_baseN q5 z4)
            have HbA : Hid (Below w.heap.size w wA) := Lib.hid ((Hb.out.trans (((below_box _).mono hsz).trans (W5.mono HszW.out))).trans ((Below.refl _ _).grown gA (Nat.le_trans HszW.out W5.size) fun g e => (Hown.out.lt g e).1))
            have HrsA : Hid ((rs ++ [((.slice A3 (textForm yk.data.toList).length m3 : Value), textForm yk.data.toList), (.slice A4 (numForm (goneN true)).length m4, numForm (goneN true)), (.slice A5 (textForm yv.data.toList).length m5, textForm yv.data.toList)]).map (·.2) = partsN n (l.take (k + 1))) := Lib.hid (by
              rw [Hy.out, List.map_append, Hrs.out]
              rfl)
            clear hP5 q3 q4 q5 z3 z4 oA gA zA o3 o4 o5 b1 b2 b3 C3 W5
            go_wp2
            go_roundw
            case rel => exact ⟨k + 1, _, by omega, by go_num, HPA.out, HrsA, HbA.out⟩
            case measure => simp [intOf]; omega
      · obtain rfl : k = n := by omega
        have E : Hid (l.take k = l) := Lib.hid (List.take_of_length_le (by have := Hl.out; omega))
        obtain ⟨Ap, cp, rfl, hp1, hp2, hph⟩ := own_slice ho.own
        have Hparts : Hid (Parts wr wr.heap.size Ap rs.length (pvCells rs) (rs.map (·.2))) := Lib.hid ⟨hph, by simp [pvCells], fun j hj => by
          rw [List.length_map] at hj
          obtain ⟨A', c', e', -, -, hh⟩ := own_slice (ho.rows rs[j] (List.getElem_mem hj))
          exact ⟨A', rs[j].2.length, c', by simp [pvCells, hj, e'], by simpa [hj] using hh⟩⟩
        have Hflat : Hid (flat (rs.map (·.2)) = packL l) := Lib.hid (by
          rw [Hrs.out, E.out, ← flat_parts]
          unfold partsN partsL
          rw [Hl.out])
        have Hlen : Hid (rs.length = 1 + 3 * k) := Lib.hid (by
          have h1 := congrArg List.length Hrs.out
          rw [partsN_len, List.length_map, List.length_take] at h1
          have := Hl.out
          omega)
        have Hpl : Hid ((packL l).length ≤ 1000000) := Lib.hid (by
          have h1 := bodyL_le Hs.out
          have h2 := numForm_len9 (k := l.length) (by have := Hl.out; omega)
          have := Hl.out
          unfold packL
          rw [List.length_append]
          omega)
        have Hj := Lib.hid (join_any Ap rs.length cp wr.heap.size (pvCells rs) (rs.map (·.2)) wr Hparts.out (Nat.le_refl _) (by rw [Hflat.out]; have := Hpl.out; omega) (by have := Hlen.out; omega))
        rw [Hflat.out] at Hj
        clear hp1 hp2 hph ho
        go_wp2_with fail
        refine Hj.out.mono ?_
        rintro e w6 ⟨v6, rfl, o6, b6⟩
        have HE : Hid (PackPost w.heap.size l w (.returned (.tuple #[v6, .int .i64 0])) w6) := Lib.hid ⟨Hb.out.trans (b6.mono hsz), .inl ⟨Hr.out, v6, rfl, own_baseN o6 hsz⟩⟩
        clear o6 b6
        go_wp2
        go_ret2
        exact HE.out
  · have Hr := Lib.hid hr
    rw [runB_false hr] at Hw
    clear hr
    go_enter Try.func45, Try.ntmps45
    go_wp2_with fail
    refine Hw.out.mono ?_
    rintro e w1 ⟨rfl, hb1⟩
    have Hb1 := Lib.hid hb1
    clear hb1
    go_wp2
    go_ret2
    exact ⟨Hb1.out, .inr ⟨Hr.out, rfl⟩⟩
end Go.Proofs.Ytfmjjjfeooaeeaa
