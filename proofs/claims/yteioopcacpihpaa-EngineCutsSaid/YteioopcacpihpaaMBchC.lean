/- An engine's Compact, Held and Export. Condition: the engine is in memory. -/
import Derived.Test.YteioopcacpihpaaMBchB
import Derived.Test.YteioopcacpihpaaMBchA
namespace Go.Proofs.Yteioopcacpihpaa
open Go.RowKit
open Go.Lib (strCells compareBytes)

/-- a run, none of it gone, with short texts: what an engine is made of -/
structure PairsP (H : Nat) (l : List Chg) : Prop where
  run : Run l
  live : ∀ c ∈ l, c.g = false
  len : l.length ≤ H
  small : ∀ x ∈ l, x.k.size ≤ 4000 ∧ x.v.size ≤ 4000
theorem abs_alone {l : List Chg} (h : Run l) (hl : ∀ c ∈ l, c.g = false) : absL ([] :: aloneL l) = l := by
  have hr : ∀ r ∈ [] :: aloneL l, Run r := fun r hr => by
    rcases List.mem_cons.1 hr with rfl | hr
    · exact Run.nil
    · exact runs_alone h r hr
  refine (abs_ext hr h.2 fun k => ?_).symm
  rw [mlook_cons, mlook_alone, look_nil, Option.none_or]
  cases e : look k l with
  | none => rfl
  | some c => simp [Option.filter, liveB, hl c (look_mem e)]
theorem PairsP.eng {H : Nat} {l : List Chg} (h : PairsP H l) {lim : Int} (hl : 1 ≤ lim) : EngP H lim (l.length : Int) [] (aloneL l) := by
  refine ⟨hl, fun r hr => ?_, fun r hr => ?_, by rw [abs_alone h.run h.live], by rw [sumL_alone]; simpa using h.len, fun r hr x hx => ?_⟩
  · rcases List.mem_cons.1 hr with rfl | hr
    · exact Run.nil
    · exact runs_alone h.run r hr
  · obtain ⟨h1, h2⟩ := alone_mem hr
    rw [h1]; exact h2
  · rcases List.mem_cons.1 hr with rfl | hr
    · simp at hx
    · exact h.small x ((alone_mem hr).1 ▸ hx)
theorem PairsP.of {H : Nat} {lim pairs : Int} {T : List Chg} {Ls : List (List Chg)} (h : EngP H lim pairs T Ls) : PairsP H (absL (T :: Ls)) :=
  ⟨run_abs _, fun _ hc => abs_gone hc, Nat.le_trans (Nat.le_trans (live_len _) (len_mergeS _)) h.total, fun x hx => by
    obtain ⟨r, hr, h2⟩ := abs_from h.runs hx
    exact h.small r hr x h2⟩
/-- an engine anew: it lies in new memory -/
def MadePost (lim : Int) (v : Value) (l : List Chg) (w : World) (e' : Ending) (w' : World) : Prop :=
  ∃ e rv, e' = .returned (.pointer (some ⟨e, 0, none⟩)) ∧ w.heap.size ≤ e ∧ EngAt w' e lim (l.length : Int) (.slice none 0 0) rv [] (aloneR v l) ∧ (∀ g, rv.ownBlock = some g → w.heap.size ≤ g) ∧ Below w.heap.size w w'
set_option maxRecDepth 100000 in
theorem made_any (A : Option Addr) (n c : Nat) (l : List Chg) (limit lim : Int) (w : World) (h : HasChs w w.heap.size A n l) (hnc : n ≤ c) (hcm : c ≤ maxLen) (hk : KindOf w (.slice A n c) 38) (hl : (if limit < 1 then 1 else limit) = lim) :
    Calls Try.prog 53 #[.slice A n c, .int .i64 limit] w (MadePost lim (.slice A n c) l w) := by
  have H := Lib.hid h
  have Hl := Lib.hid h.1
  have Hk := Lib.hid hk
  have Hc := Lib.hid (fun wx => alone_any (.slice A n c) 0 l wx (.inr ⟨A, c, by rw [h.1]⟩))
  have Hnc := Lib.hid (And.intro hnc hcm)
  clear h hk hnc hcm
  go_enter Try.func53, Try.ntmps53
  go_wp2_with fail
  refine (Hc.out _).mono ?_
  rintro e' w1 ⟨rv, rfl, ho, hb⟩
  obtain ⟨Ar, cr, rfl, hr1, hr2, hr3⟩ := own_slice ho
  have hb1 : Below w.heap.size w1 (w1.alloc (.cells #[.int .i64 lim, .int .i64 (n : Int), .slice none 0 0, .slice Ar (aloneR (.slice A n c) l).length cr] 86)) := (Below.refl _ _).alloc hb.size _
  have hb2 : Below w1.heap.size w1 (w1.alloc (.cells #[.int .i64 lim, .int .i64 (n : Int), .slice none 0 0, .slice Ar (aloneR (.slice A n c) l).length cr] 86)) := below_box _
  have hv : ∀ r ∈ aloneR (.slice A n c) l, r = (.slice A n c, l) := fun r hr => by
    unfold aloneR at hr
    split at hr
    · simp at hr
    · simpa using hr
  have HE : Hid (EngAt (w1.alloc (.cells #[.int .i64 lim, .int .i64 (n : Int), .slice none 0 0, .slice Ar (aloneR (.slice A n c) l).length cr] 86)) w1.heap.size lim (l.length : Int) (.slice none 0 0) (.slice Ar (aloneR (.slice A n c) l).length cr) [] (aloneR (.slice A n c) l)) := Lib.hid (by
    rw [Hl.out]
    refine ⟨Box.made _ _ _, OwnChs.nil _ _, ⟨Ar, cr, rfl, hr1, hr2, (hr3.belowOf hb2 (Nat.le_refl _)).more hb2.size, fun r hr => ?_⟩, ⟨fun e1 => by have := (ho.lt _ e1).2; omega, fun g hg => by cases hg⟩, fun r hr => ⟨fun e1 => ?_, fun g hg => by cases hg⟩, fun g hg => ?_, fun r hr g hg => ?_, (own_kind ho).below hb2, fun r hr => ?_⟩
    · obtain rfl := hv r hr
      exact ⟨A, n, c, rfl, Hnc.out.1, Hnc.out.2, ((H.out.belowOf hb (Nat.le_refl _)).belowOf hb1 (Nat.le_refl _)).more (Nat.le_trans hb.size hb2.size)⟩
    · obtain rfl := hv r hr
      have h1 := Hk.out.lt e1
      have h2 := hb.size
      omega
    · have := (ho.lt _ hg).2
      simp only [World.size_alloc]
      omega
    · obtain rfl := hv r hr
      have h1 := Hk.out.lt hg
      have h2 := hb.size
      simp only [World.size_alloc]
      omega
    · obtain rfl := hv r hr
      exact (Hk.out.below hb).below hb2)
  have HF : Hid ((∀ g, (Value.slice Ar (aloneR (.slice A n c) l).length cr).ownBlock = some g → w.heap.size ≤ g) ∧ w.heap.size ≤ w1.heap.size ∧ Below w.heap.size w (w1.alloc (.cells #[.int .i64 lim, .int .i64 (n : Int), .slice none 0 0, .slice Ar (aloneR (.slice A n c) l).length cr] 86))) := Lib.hid ⟨fun g hg => (ho.lt g hg).1, hb.size, hb.trans hb1⟩
  clear ho hb hr1 hr2 hr3 hb1 hb2 hv
  go_wp2
  go_ret
  exact ⟨_, _, rfl, HF.out.2.1, HE.out, HF.out.1, HF.out.2.2⟩
set_option maxRecDepth 100000 in
theorem new_any (limit lim : Int) (w : World) (hl : (if limit < 1 then 1 else limit) = lim) :
    Calls Try.prog 22 #[.int .i64 limit] w (MadePost lim (.slice none 0 0) [] w) := by
  have Hm := Lib.hid (made_any none 0 0 [] limit lim w (HasChs.nil _ _ _) (Nat.le_refl _) (Nat.zero_le _) (fun g hg => by cases hg) hl)
  go_enter Try.func22, Try.ntmps22
  go_wp2_with fail
  refine Hm.out.mono ?_
  rintro e' w1 ⟨e, rv, rfl, h⟩
  have HE := Lib.hid h
  clear h
  go_wp2
  go_ret
  exact ⟨e, rv, rfl, HE.out⟩
set_option maxRecDepth 100000 in
theorem runs_any {w : World} {e : Nat} {lim pairs : Int} {tv rv : Value} {T : List Chg} {rs : Crs} (h : EngAt w e lim pairs tv rv T rs) :
    Calls Try.prog 27 #[.pointer (some ⟨e, 0, none⟩)] w fun e' w' => e' = .returned (.int .i64 (rs.length : Int)) ∧ Below w.heap.size w w' := by
  obtain ⟨A, c, rfl, -⟩ := h.run
  have e3 := (eng_cells h.box).1.2.2.2
  clear h
  go_enter Try.func27, Try.ntmps27
  go_wp2
  first | (go_ret; exact ⟨rfl, Below.refl _ _⟩) | (go_quiet (fail); go_wp2; go_ret; exact ⟨rfl, below_dr (Below.refl _ _) _⟩)
set_option maxRecDepth 100000 in
theorem len_eng {w : World} {e : Nat} {lim pairs : Int} {tv rv : Value} {T : List Chg} {rs : Crs} (h : EngAt w e lim pairs tv rv T rs) :
    Calls Try.prog 42 #[.pointer (some ⟨e, 0, none⟩)] w fun e' w' => e' = .returned (.int .i64 pairs) ∧ Below w.heap.size w w' := by
  have e1 := (eng_cells h.box).1.2.1
  clear h
  go_enter Try.func42, Try.ntmps42
  go_wp2
  first | (go_ret; exact ⟨rfl, Below.refl _ _⟩) | (go_quiet (fail); go_wp2; go_ret; exact ⟨rfl, below_dr (Below.refl _ _) _⟩)
end Go.Proofs.Yteioopcacpihpaa

namespace Go.Proofs.Yteioopcacpihpaa
open Go.RowKit
open Go.Lib (strCells compareBytes)

set_option maxRecDepth 100000 in
set_option maxHeartbeats 3200000 in
theorem packMany_any (A : Option Addr) (n ca C : Nat) (l : List Chg) (w : World) (h : HasChs w C A n l) (hC : C ≤ w.heap.size) (hn : n ≤ 4000) (hs : ∀ x ∈ l, x.k.size ≤ 4000 ∧ x.v.size ≤ 4000) :
    Calls Try.prog 44 #[.slice A n ca] w (PackPost w.heap.size l w) := by
  have Hw := Lib.hid (wrong_any A n ca C l w h (by unfold maxLen; omega) hC)
  have H := Lib.hid h
  have HC := Lib.hid hC
  have Hs := Lib.hid hs
  have Hl := Lib.hid h.1
  clear h hC hs
  by_cases hr : Run l
  · have Hr := Lib.hid hr
    rw [runB_true hr] at Hw
    clear hr
    go_enter Try.func44, Try.ntmps44
    go_wp2_with fail
    refine Hw.out.mono ?_
    rintro e w1 ⟨rfl, hb1⟩
    have Hb1 := Lib.hid hb1
    clear hb1
    go_wp2_with fail
    refine (num_any (n : Int) w1 (by omega)).mono ?_
    rintro e w2 ⟨v2, rfl, ho2, hb2⟩
    rw [if_neg (by omega), Int.toNat_natCast] at ho2
    obtain ⟨A2, c2, rfl, -, -, -⟩ := own_slice ho2
    have hsz2 : w.heap.size ≤ w2.heap.size := Nat.le_trans Hb1.out.size hb2.size
    have HP : Hid (OwnPv (w2.alloc (.cells #[.slice A2 (numForm n).length c2] 63)) w.heap.size (.slice (some ⟨w2.heap.size, 0, none⟩) 1 1) [(.slice A2 (numForm n).length c2, numForm n)]) := Lib.hid
      ⟨World.ownsRow_lit (base := w.heap.size) (e := 63) (size := 1) w2 #[.slice A2 (numForm n).length c2] 1 hsz2 (by simp [maxLen]) rfl, fun r hr => by
        simp at hr
        subst hr
        exact own_belowN (own_baseN ho2 Hb1.out.size) (below_box _)⟩
    have Hb2 : Hid (Below w.heap.size w (w2.alloc (.cells #[.slice A2 (numForm n).length c2] 63))) := Lib.hid (((Hb1.out.trans (hb2.mono Hb1.out.size))).alloc hsz2 _)
    clear ho2 hb2
    go_wp2
    go_loopw [4, 6, 7, 16] (fun o _ _ i wr => ∃ (k : Nat) (rs : Pvs), k ≤ n ∧ i = .int .i64 (k : Int) ∧ OwnPv wr w.heap.size o rs ∧ Hid (rs.map (·.2) = partsN n (l.take k)) ∧ Below w.heap.size w wr) (fun _ _ _ i _ => n - (intOf i).toNat)
    case atStart => exact ⟨0, _, by omega, rfl, HP.out, Lib.hid rfl, Hb2.out⟩
    case round =>
      clear HP Hb2
      obtain ⟨k, rs, hk, rfl, ho, Hrs, hb⟩ := hrel
      have Ho := Lib.hid ho
      have Hb := Lib.hid hb
      have hsz := hb.size
      clear hb
      by_cases hlt : k < n
      · obtain ⟨a, y, rfl, hab, hy, c0, c1, c3⟩ := (H.out.belowOf Hb.out HC.out).at_ hlt
        have Hy := Lib.hid (partsN_succ (n := n) hy)
        have hys := Hs.out y (List.mem_of_getElem? hy)
        have Hlr : Hid (rs.length = 1 + 3 * k) := Lib.hid (by
          have h1 := congrArg List.length Hrs.out
          rw [partsN_len, List.length_map, List.length_take] at h1
          have := Hl.out
          omega)
        obtain ⟨Ap, cp, rfl, -, -, -⟩ := own_slice ho.own
        obtain ⟨N, hN⟩ : ∃ N, rs.length = N := ⟨_, rfl⟩
        have hgo := ho.own
        rw [hN] at hgo Hlr Ho
        rw [hN]
        obtain ⟨yk, yv, yg⟩ := y
        simp only at c0 c1 c3
        have hg01 : yg = false ∨ yg = true := by cases yg <;> simp
        have Hown := Lib.hid hgo
        have hN60 : N ≤ 12001 := by have := Hlr.out; omega
        have HN := Lib.hid hN
        clear hy ho hgo hN hN60
        rcases hg01 with rfl | rfl
        · have Hk : Hid (∀ wx, (wr.alloc (Obj.cells #[.string yk, .string yv, .bool false] 38)).grownBy wx (Value.slice Ap N cp).ownBlock → (wx.cell? ⟨wr.heap.size, 0, none⟩ = some (.string yk) ∧ wx.cell? ⟨wr.heap.size, 1, none⟩ = some (.string yv)) ∧ (wr.alloc (Obj.cells #[.string yk, .string yv, .bool false] 38)).grownBy wx (Value.slice Ap N cp).ownBlock) := Lib.hid fun wx hg => by
            have hbx := (Box.made wr 38 #[.string yk, .string yv, .bool false]).grown hg fun e => by
              have h1 := (Hown.out.lt _ e.symm).2
              exact absurd h1 (Nat.lt_irrefl _)
            exact ⟨⟨hbx.cell 0, hbx.cell 1⟩, hg⟩
          have HownW : Hid ((wr.alloc (Obj.cells #[.string yk, .string yv, .bool false] 38)).ownsRow w.heap.size 63 1 (.slice Ap N cp) N (pvCells rs)) := Lib.hid (own_belowN Hown.out (below_box _))
          have hky : yk.size ≤ 1000000 ∧ yv.size ≤ 1000000 := by have h1 := hys.1; have h2 := hys.2; simp only at h1 h2; omega
          have HszW : Hid (w.heap.size ≤ (wr.alloc (Obj.cells #[.string yk, .string yv, .bool false] 38)).heap.size) := Lib.hid (Nat.le_trans hsz (by simp))
          go_wp2
          go_region_held3 (fun wx => (wx.cell? ⟨wr.heap.size, 0, none⟩ = some (.string yk) ∧ wx.cell? ⟨wr.heap.size, 1, none⟩ = some (.string yv)) ∧ (wr.alloc (Obj.cells #[.string yk, .string yv, .bool false] 38)).grownBy wx (Value.slice Ap N cp).ownBlock)
            (first | exact Hk.out _ (grown_below (Below.refl _ _).drew _) | exact Hk.out _ (World.grownBy.trans (And.right (by assumption)) (grown_below b3 _)) | exact Hk.out _ (World.grownBy.trans (And.right (by assumption)) (grown_below b2 _)) | exact Hk.out _ (World.grownBy.trans (And.right (by assumption)) (grown_below b1 _)) | exact Hk.out _ (World.grownBy.trans (And.right (by assumption)) (World.grownBy_alloc _ _ _)) | exact Hk.out _ (World.grownBy.trans (And.right (by assumption)) gA))
            (first
              | (go_at_call_of 72 (Value.string yk); refine (text_any yk _ hky.1).mono ?_; rintro e w3 ⟨v3, rfl, o3, b1⟩; obtain ⟨A3, m3, rfl, -, -, -⟩ := own_slice o3)
              | (go_at_call 71; refine (num_any 0 _ (by omega)).mono ?_; rintro e w4 ⟨v4, rfl, o4, b2⟩; rw [if_neg (by omega), show (0 : Int).toNat = goneN false from rfl] at o4; obtain ⟨A4, m4, rfl, -, -, -⟩ := own_slice o4)
              | (go_at_call_of 72 (Value.string yv); refine (text_any yv _ hky.2).mono ?_; rintro e w5 ⟨v5, rfl, o5, b3⟩; obtain ⟨A5, m5, rfl, -, -, -⟩ := own_slice o5; have C3 := below_thn (below_thn (below_thn (Below.refl (wr.alloc (Obj.cells #[.string yk, .string yv, .bool false] 38)).heap.size (wr.alloc (Obj.cells #[.string yk, .string yv, .bool false] 38))).drew b1) b2) b3)
              | (refine step_append_hasN (by rfl) _ _ _ (by rfl) 63 pv_elem (by omega) Try.underlying105 (by rfl) (own_belowN HownW.out (C3.alloc C3.size (Obj.cells #[.slice A3 (textForm yk.data.toList).length m3, .slice A4 (numForm (goneN false)).length m4, .slice A5 (textForm yv.data.toList).length m5] 63))) (by rfl) (Has.lit w5 #[.slice A3 (textForm yk.data.toList).length m3, .slice A4 (numForm (goneN false)).length m4, .slice A5 (textForm yv.data.toList).length m5] 63) (fun u hu => by simp at hu; rcases hu with rfl | rfl | rfl <;> rfl) (by have := HN.out; have := Hlr.out; simp only [maxLen]; omega) (by have := Hlr.out; omega) (Nat.le_trans HszW.out (C3.alloc C3.size (Obj.cells #[.slice A3 (textForm yk.data.toList).length m3, .slice A4 (numForm (goneN false)).length m4, .slice A5 (textForm yv.data.toList).length m5] 63)).size) ?_; intro vA wA oA gA zA))
          all_goals
            have W5 := C3.alloc C3.size (Obj.cells #[.slice A3 (textForm yk.data.toList).length m3, .slice A4 (numForm (goneN false)).length m4, .slice A5 (textForm yv.data.toList).length m5] 63)
            have hP5 := (Ho.out.below (below_box (Obj.cells #[.string yk, .string yv, .bool false] 38))).below W5
            have q3 := own_belowN o3 ((below_thn (below_thn (Below.refl w3.heap.size w3) b2) b3).alloc (below_thn (below_thn (Below.refl w3.heap.size w3) b2) b3).size (Obj.cells #[.slice A3 (textForm yk.data.toList).length m3, .slice A4 (numForm (goneN false)).length m4, .slice A5 (textForm yv.data.toList).length m5] 63))
            have q4 := own_belowN o4 (b3.alloc b3.size (Obj.cells #[.slice A3 (textForm yk.data.toList).length m3, .slice A4 (numForm (goneN false)).length m4, .slice A5 (textForm yv.data.toList).length m5] 63))
            have q5 := own_belowN o5 (below_box (Obj.cells #[.slice A3 (textForm yk.data.toList).length m3, .slice A4 (numForm (goneN false)).length m4, .slice A5 (textForm yv.data.toList).length m5] 63))
            have z3 : w.heap.size ≤ w3.heap.size := Nat.le_trans HszW.out b1.size
            have z4 : w.heap.size ≤ w4.heap.size := Nat.le_trans z3 b2.size
            have HPA : Hid (OwnPv wA w.heap.size vA (rs ++ [(.slice A3 (textForm yk.data.toList).length m3, textForm yk.data.toList), (.slice A4 (numForm (goneN false)).length m4, numForm (goneN false)), (.slice A5 (textForm yv.data.toList).length m5, textForm yv.data.toList)])) := Lib.hid (by
              refine hP5.snoc (fun q hq => ?_) (by rw [HN.out]; exact oA) gA
              simp only [List.mem_cons, List.not_mem_nil, or_false] at hq
              rcases hq with rfl | rfl | rfl
              · exact own_baseN q3 HszW.out
              · exact own_baseN q4 z3
              · exact own_baseN q5 z4)
            have HbA : Hid (Below w.heap.size w wA) := Lib.hid ((Hb.out.trans (((below_box _).mono hsz).trans (W5.mono HszW.out))).trans ((Below.refl _ _).grown gA (Nat.le_trans HszW.out W5.size) fun g e => (Hown.out.lt g e).1))
            have HrsA : Hid ((rs ++ [((.slice A3 (textForm yk.data.toList).length m3 : Value), textForm yk.data.toList), (.slice A4 (numForm (goneN false)).length m4, numForm (goneN false)), (.slice A5 (textForm yv.data.toList).length m5, textForm yv.data.toList)]).map (·.2) = partsN n (l.take (k + 1))) := Lib.hid (by
              rw [Hy.out, List.map_append, Hrs.out]
              rfl)
            clear hP5 q3 q4 q5 z3 z4 oA gA zA o3 o4 o5 b1 b2 b3 C3 W5
            go_wp2
            go_roundw
            case rel => exact ⟨k + 1, _, by omega, by go_num, HPA.out, HrsA, HbA.out⟩
            case measure => simp [intOf]; omega
        · have Hk : Hid (∀ wx, (wr.alloc (Obj.cells #[.string yk, .string yv, .bool true] 38)).grownBy wx (Value.slice Ap N cp).ownBlock → (wx.cell? ⟨wr.heap.size, 0, none⟩ = some (.string yk) ∧ wx.cell? ⟨wr.heap.size, 1, none⟩ = some (.string yv)) ∧ (wr.alloc (Obj.cells #[.string yk, .string yv, .bool true] 38)).grownBy wx (Value.slice Ap N cp).ownBlock) := Lib.hid fun wx hg => by
            have hbx := (Box.made wr 38 #[.string yk, .string yv, .bool true]).grown hg fun e => by
              have h1 := (Hown.out.lt _ e.symm).2
              exact absurd h1 (Nat.lt_irrefl _)
            exact ⟨⟨hbx.cell 0, hbx.cell 1⟩, hg⟩
          have HownW : Hid ((wr.alloc (Obj.cells #[.string yk, .string yv, .bool true] 38)).ownsRow w.heap.size 63 1 (.slice Ap N cp) N (pvCells rs)) := Lib.hid (own_belowN Hown.out (below_box _))
          have hky : yk.size ≤ 1000000 ∧ yv.size ≤ 1000000 := by have h1 := hys.1; have h2 := hys.2; simp only at h1 h2; omega
          have HszW : Hid (w.heap.size ≤ (wr.alloc (Obj.cells #[.string yk, .string yv, .bool true] 38)).heap.size) := Lib.hid (Nat.le_trans hsz (by simp))
          go_wp2
          go_region_held3 (fun wx => (wx.cell? ⟨wr.heap.size, 0, none⟩ = some (.string yk) ∧ wx.cell? ⟨wr.heap.size, 1, none⟩ = some (.string yv)) ∧ (wr.alloc (Obj.cells #[.string yk, .string yv, .bool true] 38)).grownBy wx (Value.slice Ap N cp).ownBlock)
            (first | exact Hk.out _ (grown_below (Below.refl _ _).drew _) | exact Hk.out _ (World.grownBy.trans (And.right (by assumption)) (grown_below b3 _)) | exact Hk.out _ (World.grownBy.trans (And.right (by assumption)) (grown_below b2 _)) | exact Hk.out _ (World.grownBy.trans (And.right (by assumption)) (grown_below b1 _)) | exact Hk.out _ (World.grownBy.trans (And.right (by assumption)) (World.grownBy_alloc _ _ _)) | exact Hk.out _ (World.grownBy.trans (And.right (by assumption)) gA))
            (first
              | (go_at_call_of 72 (Value.string yk); refine (text_any yk _ hky.1).mono ?_; rintro e w3 ⟨v3, rfl, o3, b1⟩; obtain ⟨A3, m3, rfl, -, -, -⟩ := own_slice o3)
              | (go_at_call 71; refine (num_any 1 _ (by omega)).mono ?_; rintro e w4 ⟨v4, rfl, o4, b2⟩; rw [if_neg (by omega), show (1 : Int).toNat = goneN true from rfl] at o4; obtain ⟨A4, m4, rfl, -, -, -⟩ := own_slice o4)
              | (go_at_call_of 72 (Value.string yv); refine (text_any yv _ hky.2).mono ?_; rintro e w5 ⟨v5, rfl, o5, b3⟩; obtain ⟨A5, m5, rfl, -, -, -⟩ := own_slice o5; have C3 := below_thn (below_thn (below_thn (Below.refl (wr.alloc (Obj.cells #[.string yk, .string yv, .bool true] 38)).heap.size (wr.alloc (Obj.cells #[.string yk, .string yv, .bool true] 38))).drew b1) b2) b3)
              | (refine step_append_hasN (by rfl) _ _ _ (by rfl) 63 pv_elem (by omega) Try.underlying105 (by rfl) (own_belowN HownW.out (C3.alloc C3.size (Obj.cells #[.slice A3 (textForm yk.data.toList).length m3, .slice A4 (numForm (goneN true)).length m4, .slice A5 (textForm yv.data.toList).length m5] 63))) (by rfl) (Has.lit w5 #[.slice A3 (textForm yk.data.toList).length m3, .slice A4 (numForm (goneN true)).length m4, .slice A5 (textForm yv.data.toList).length m5] 63) (fun u hu => by simp at hu; rcases hu with rfl | rfl | rfl <;> rfl) (by have := HN.out; have := Hlr.out; simp only [maxLen]; omega) (by have := Hlr.out; omega) (Nat.le_trans HszW.out (C3.alloc C3.size (Obj.cells #[.slice A3 (textForm yk.data.toList).length m3, .slice A4 (numForm (goneN true)).length m4, .slice A5 (textForm yv.data.toList).length m5] 63)).size) ?_; intro vA wA oA gA zA))
          all_goals
            have W5 := C3.alloc C3.size (Obj.cells #[.slice A3 (textForm yk.data.toList).length m3, .slice A4 (numForm (goneN true)).length m4, .slice A5 (textForm yv.data.toList).length m5] 63)
            have hP5 := (Ho.out.below (below_box (Obj.cells #[.string yk, .string yv, .bool true] 38))).below W5
            have q3 := own_belowN o3 ((below_thn (below_thn (Below.refl w3.heap.size w3) b2) b3).alloc (below_thn (below_thn (Below.refl w3.heap.size w3) b2) b3).size (Obj.cells #[.slice A3 (textForm yk.data.toList).length m3, .slice A4 (numForm (goneN true)).length m4, .slice A5 (textForm yv.data.toList).length m5] 63))
            have q4 := own_belowN o4 (b3.alloc b3.size (Obj.cells #[.slice A3 (textForm yk.data.toList).length m3, .slice A4 (numForm (goneN true)).length m4, .slice A5 (textForm yv.data.toList).length m5] 63))
            have q5 := own_belowN o5 (below_box (Obj.cells #[.slice A3 (textForm yk.data.toList).length m3, .slice A4 (numForm (goneN true)).length m4, .slice A5 (textForm yv.data.toList).length m5] 63))
            have z3 : w.heap.size ≤ w3.heap.size := Nat.le_trans HszW.out b1.size
            have z4 : w.heap.size ≤ w4.heap.size := Nat.le_trans z3 b2.size
            have HPA : Hid (OwnPv wA w.heap.size vA (rs ++ [(.slice A3 (textForm yk.data.toList).length m3, textForm yk.data.toList), (.slice A4 (numForm (goneN true)).length m4, numForm (goneN true)), (.slice A5 (textForm yv.data.toList).length m5, textForm yv.data.toList)])) := Lib.hid (by
              refine hP5.snoc (fun q hq => ?_) (by rw [HN.out]; exact oA) gA
              simp only [List.mem_cons, List.not_mem_nil, or_false] at hq
              rcases hq with rfl | rfl | rfl
              · exact own_baseN q3 HszW.out
              · exact own_baseN q4 z3
              · exact own_baseN q5 z4)
            have HbA : Hid (Below w.heap.size w wA) := Lib.hid ((Hb.out.trans (((below_box _).mono hsz).trans (W5.mono HszW.out))).trans ((Below.refl _ _).grown gA (Nat.le_trans HszW.out W5.size) fun g e => (Hown.out.lt g e).1))
            have HrsA : Hid ((rs ++ [((.slice A3 (textForm yk.data.toList).length m3 : Value), textForm yk.data.toList), (.slice A4 (numForm (goneN true)).length m4, numForm (goneN true)), (.slice A5 (textForm yv.data.toList).length m5, textForm yv.data.toList)]).map (·.2) = partsN n (l.take (k + 1))) := Lib.hid (by
              rw [Hy.out, List.map_append, Hrs.out]
              rfl)
            clear hP5 q3 q4 q5 z3 z4 oA gA zA o3 o4 o5 b1 b2 b3 C3 W5
            go_wp2
            go_roundw
            case rel => exact ⟨k + 1, _, by omega, by go_num, HPA.out, HrsA, HbA.out⟩
            case measure => simp [intOf]; omega
      · obtain rfl : k = n := by omega
        have E : Hid (l.take k = l) := Lib.hid (List.take_of_length_le (by have := Hl.out; omega))
        obtain ⟨Ap, cp, rfl, hp1, hp2, hph⟩ := own_slice ho.own
        have Hparts : Hid (Parts wr wr.heap.size Ap rs.length (pvCells rs) (rs.map (·.2))) := Lib.hid ⟨hph, by simp [pvCells], fun j hj => by
          rw [List.length_map] at hj
          obtain ⟨A', c', e', -, -, hh⟩ := own_slice (ho.rows rs[j] (List.getElem_mem hj))
          exact ⟨A', rs[j].2.length, c', by simp [pvCells, hj, e'], by simpa [hj] using hh⟩⟩
        have Hflat : Hid (flat (rs.map (·.2)) = packL l) := Lib.hid (by
          rw [Hrs.out, E.out, ← flat_parts]
          unfold partsN partsL
          rw [Hl.out])
        have Hlen : Hid (rs.length = 1 + 3 * k) := Lib.hid (by
          have h1 := congrArg List.length Hrs.out
          rw [partsN_len, List.length_map, List.length_take] at h1
          have := Hl.out
          omega)
        have Hpl : Hid ((packL l).length ≤ 40000000) := Lib.hid (by
          have h1 := bodyL_le Hs.out
          have h2 := numForm_len9 (k := l.length) (by have := Hl.out; omega)
          have := Hl.out
          unfold packL
          rw [List.length_append]
          omega)
        have Hj := Lib.hid (join_any Ap rs.length cp wr.heap.size (pvCells rs) (rs.map (·.2)) wr Hparts.out (Nat.le_refl _) (by rw [Hflat.out]; have := Hpl.out; omega) (by have := Hlen.out; omega))
        rw [Hflat.out] at Hj
        clear hp1 hp2 hph ho
        go_wp2_with fail
        refine Hj.out.mono ?_
        rintro e w6 ⟨v6, rfl, o6, b6⟩
        have HE : Hid (PackPost w.heap.size l w (.returned (.tuple #[v6, .int .i64 0])) w6) := Lib.hid ⟨Hb.out.trans (b6.mono hsz), .inl ⟨Hr.out, v6, rfl, own_baseN o6 hsz⟩⟩
        clear o6 b6
        go_wp2
        go_ret2
        exact HE.out
  · have Hr := Lib.hid hr
    rw [runB_false hr] at Hw
    clear hr
    go_enter Try.func44, Try.ntmps44
    go_wp2_with fail
    refine Hw.out.mono ?_
    rintro e w1 ⟨rfl, hb1⟩
    have Hb1 := Lib.hid hb1
    clear hb1
    go_wp2
    go_ret2
    exact ⟨Hb1.out, .inr ⟨Hr.out, rfl⟩⟩
end Go.Proofs.Yteioopcacpihpaa

namespace Go.Proofs.Yteioopcacpihpaa
open Go.RowKit
open Go.Lib (strCells compareBytes)

set_option maxRecDepth 100000 in
set_option maxHeartbeats 1600000 in
theorem held_any {w : World} {e H : Nat} {lim pairs p : Int} {tv rv : Value} {T : List Chg} {rs : Crs} (h : EngAt w e lim p tv rv T rs) (hp : EngP H lim pairs T (crLists rs)) (hH : H ≤ 9000) :
    Calls Try.prog 26 #[.pointer (some ⟨e, 0, none⟩)] w fun e' w' => e' = .returned (.int .i64 (sumL (T :: crLists rs) : Int)) ∧ Below w.heap.size w w' := by
  have hcount := hp.count
  rw [crLists_len] at hcount
  have Hp := Lib.hid (parts_any h _ rfl (by omega))
  have H1 := Lib.hid h
  have HP := Lib.hid hp.total
  clear h hp
  obtain ⟨S, hS⟩ : ∃ S, sumL (T :: crLists rs) = S := ⟨_, rfl⟩
  have HS := Lib.hid hS
  rw [hS]
  clear hS
  go_enter Try.func26, Try.ntmps26
  go_wp2_with fail
  refine Hp.out.mono ?_
  rintro e' w2 ⟨v, rfl, ho, hb⟩
  obtain ⟨A, c, rfl, -, -, hx⟩ := parts_crs H1.out hb ho
  obtain ⟨ps, hps⟩ : ∃ ps : Crs, (tv, T) :: rs = ps := ⟨_, rfl⟩
  obtain ⟨N, hN⟩ : ∃ N, rs.length + 1 = N := ⟨_, rfl⟩
  have Hps : Hid (crLists ps = T :: crLists rs ∧ ps.length = N) := Lib.hid ⟨by rw [← hps]; rfl, by rw [← hps]; exact hN⟩
  rw [hps, hN] at hx
  rw [hN]
  have HX := Lib.hid hx
  have Hb := Lib.hid hb
  have hsz := hb.size
  have hN9 : N ≤ 9001 := by omega
  clear hb hx ho Hp hps hN hcount
  go_wp2
  go_loopw [3, 5, 9] (fun sv _ iv wr => ∃ k s : Nat, k ≤ N ∧ s ≤ 9000 ∧ sv = .int .i64 (s : Int) ∧ iv = .int .i64 (k : Int) ∧ Hid (s = sumL ((T :: crLists rs).take k)) ∧ Below w2.heap.size w2 wr) (fun _ _ iv _ => N - (intOf iv).toNat)
  case atStart => exact ⟨0, 0, by omega, by omega, rfl, rfl, Lib.hid rfl, Below.refl _ _⟩
  case round =>
    obtain ⟨k, s, hk, hs, rfl, rfl, Hs, hb⟩ := hrel
    have Hbr := Lib.hid hb
    clear hb
    by_cases hlt : k < N
    · obtain ⟨a, A1, m1, c1, l, rfl, hab, hg, h1, h2, h3, d0, -⟩ := (HX.out.belowOf Hbr.out (Nat.le_refl _)).at_ hlt
      rw [Hps.out.1] at hg
      have hsum : s + m1 = sumL ((T :: crLists rs).take (k + 1)) := by rw [sumL_take hg, ← Hs.out, h3.1]
      have hs2 : s + m1 ≤ 9000 := by
        have h5 := HP.out
        have h6 : sumL ((T :: crLists rs).take (k + 1)) + sumL ((T :: crLists rs).drop (k + 1)) = sumL (T :: crLists rs) := by rw [← sumL_app, List.take_append_drop]
        omega
      have Hsum := Lib.hid hsum
      have hk0 : (0 : Int) ≤ (k : Int) := by omega
      have hk2 : (k : Int) < (N : Int) := by omega
      clear hsum hg h1 h2 h3
      go_wp2
      go_roundw
      case rel => exact ⟨k + 1, s + m1, by omega, by omega, by go_num, by go_num, Lib.hid Hsum.out, Hbr.out⟩
      case measure => simp [intOf]; omega
    · obtain rfl : k = N := by omega
      have HE : Hid (s = S) := Lib.hid (by rw [Hs.out, ← HS.out, List.take_of_length_le (by have h1 := Hps.out; rw [← h1.1, crLists_len, h1.2]; omega)])
      go_wp2
      go_ret
      exact ⟨by have h9 := HE.out; subst h9; rfl, Hb.out.trans (Hbr.out.mono hsz)⟩
/-- one run is made of all -/
def CompactPost (e : Nat) (lim p : Int) (rv : Value) (rs : Crs) (M : List Chg) (w : World) (e' : Ending) (w' : World) : Prop :=
  e' = .returned (.tuple #[]) ∧ ∃ v' rv', EngAt w' e lim p (.slice none 0 0) rv' [] (aloneR v' M) ∧ Frm (fun i => i = e) w w' ∧ NewB w rv rv' rs (aloneR v' M)
set_option maxRecDepth 100000 in
set_option maxHeartbeats 1600000 in
theorem compact_any {w : World} {e H : Nat} {lim pairs : Int} {tv rv : Value} {T : List Chg} {rs : Crs} (h : EngAt w e lim pairs tv rv T rs) (hp : EngP H lim pairs T (crLists rs)) (hH : H ≤ 9000) :
    Calls Try.prog 25 #[.pointer (some ⟨e, 0, none⟩)] w (CompactPost e lim pairs rv rs (absL (T :: crLists rs)) w) := by
  have Ha := Lib.hid (all_any h hp hH)
  have H1 := Lib.hid h
  obtain ⟨M, hM⟩ : ∃ M, absL (T :: crLists rs) = M := ⟨_, rfl⟩
  rw [hM] at Ha ⊢
  clear h hp hM
  go_enter Try.func25, Try.ntmps25
  go_wp2_with fail
  refine Ha.out.mono ?_
  rintro e' w5 ⟨v5, rfl, ho5, hb5⟩
  have Ho5 := Lib.hid ho5
  have Hb5 := Lib.hid hb5
  have Hal := Lib.hid (alone_any v5 w.heap.size M w5 (.inl ho5))
  obtain ⟨A5, c5, rfl, -⟩ := ho5.slice
  have hew := H1.out.box.lt
  obtain ⟨n5, hn5⟩ : ∃ n, M.length = n := ⟨_, rfl⟩
  rw [hn5] at Ho5 Hal ⊢
  clear ho5 hb5 hn5
  go_wp2_with fail
  refine Hal.out.mono ?_
  rintro e' w6 ⟨v6, rfl, ho6, hb6⟩
  obtain ⟨A6, c6, rfl, -⟩ := own_slice ho6
  have hm := spill_mem (k := rs.length + 1) (H1.out.below Hb5.out) Ho5.out (by omega) hb6 (by omega) (by rw [List.drop_of_length_le (by simp)]; simpa [crCells] using ho6)
  have bx6 := (H1.out.below Hb5.out).box.below hb6 (H1.out.below Hb5.out).box.lt
  have cA := (eng_cells bx6).1.2.2.2
  have fA := (eng_cells bx6).2.2.2
  have cB := fun u => (eng_cells (eng_set3 bx6 u)).1.2.2.1
  have fB := fun u => (eng_cells (eng_set3 bx6 u)).2.2.1
  rw [List.drop_of_length_le (by simp), List.append_nil] at hm
  have HE := Lib.hid hm
  have hsz5 := Hb5.out.size
  clear hm bx6 ho6 hb6
  go_wp2
  go_end0
  refine ⟨rfl, _, _, HE.out.1, (Frm.of Hb5.out).trans HE.out.2.1 fun i hi => .inl hi, fun g hg => .inr (Nat.le_trans hsz5 (HE.out.2.2.1 g hg)), HE.out.2.2.2⟩
set_option maxRecDepth 100000 in
theorem export_any {w : World} {e H : Nat} {lim pairs : Int} {tv rv : Value} {T : List Chg} {rs : Crs} (h : EngAt w e lim pairs tv rv T rs) (hp : EngP H lim pairs T (crLists rs)) (hH : H ≤ 4000) :
    Calls Try.prog 37 #[.pointer (some ⟨e, 0, none⟩)] w fun e' w' => ∃ v, e' = .returned v ∧ w'.ownsRow w.heap.size 5 1 v (packL (absL (T :: crLists rs))).length (byteCells (packL (absL (T :: crLists rs)))) ∧ Below w.heap.size w w' := by
  have Ha := Lib.hid (all_any h hp (by omega))
  have HPP := Lib.hid (PairsP.of hp)
  obtain ⟨M, hM⟩ : ∃ M, absL (T :: crLists rs) = M := ⟨_, rfl⟩
  rw [hM] at Ha HPP ⊢
  clear h hp hM
  go_enter Try.func37, Try.ntmps37
  go_wp2_with fail
  refine Ha.out.mono ?_
  rintro e' w5 ⟨v5, rfl, ho5, hb5⟩
  have Hb5 := Lib.hid hb5
  have hsz5 := hb5.size
  obtain ⟨A5, c5, rfl, -, -, hx5⟩ := ho5.slice
  have Hpk := Lib.hid (packMany_any A5 M.length c5 _ M w5 hx5 (Nat.le_refl _) (by have := HPP.out.len; omega) HPP.out.small)
  clear ho5 hb5 hx5
  go_wp2_with fail
  refine Hpk.out.mono ?_
  rintro e' w6 ⟨hb6, ⟨-, v6, rfl, ho6⟩ | ⟨hno, -⟩⟩
  · have HE := Lib.hid (And.intro (own_baseN ho6 hsz5) (Hb5.out.trans (hb6.mono hsz5)))
    clear hb6 ho6
    go_wp2
    go_ret
    exact ⟨v6, rfl, HE.out.1, HE.out.2⟩
  · exact absurd HPP.out.run hno
end Go.Proofs.Yteioopcacpihpaa
