/- RunFinds: what is found of a key, what a range has, and what is there, are as the document says, of any list. No condition. -/
import Derived.Test.YtmbolempigbkdaaFndD
import Derived.Test.YtmbolempigbkdaaFndB
import Derived.Test.YtmbolempigbkdaaOpenChs
import Derived.Laws.StructEq
namespace Go.Proofs.Ytmbolempigbkdaa
open Go.RowKit
open Go.Lib (strCells compareBytes)

theorem sliceT_len (lo hi : List UInt8) (l : List Chg) : (sliceT lo hi l).length ≤ l.length := by
  by_cases h : Run l
  · rw [sliceT_run h]; exact slice_len _ _ _
  · rw [sliceT_no h]; simp
theorem livesT_len (l : List Chg) : (livesT l).length ≤ l.length := by
  by_cases h : Run l
  · rw [livesT_run h]; exact lives_len _
  · rw [livesT_no h]; simp
theorem own_chs {w : World} {B m c : Nat} {A : Option Addr} {l : List Chg} (h : OwnChs w B (.slice A m c) l) : HasChs w w.heap.size A m l := by
  obtain ⟨A', c', e, _, _, hh⟩ := h.slice
  injection e with e1 e2 _
  subst e1
  subst e2
  exact hh
theorem own_prs {w : World} {B m c : Nat} {A : Option Addr} {l : List Pr} (h : OwnPrs w B (.slice A m c) l) : HasPrs w w.heap.size A m l := by
  obtain ⟨A', c', e, _, _, hh⟩ := h.slice
  injection e with e1 e2 _
  subst e1
  subst e2
  exact hh
set_option maxRecDepth 100000 in
set_option maxHeartbeats 6400000 in
theorem finds_walk (A : Option Addr) (n ca : Nat) (l : List Chg) (key lo hi : ByteArray) (w : World) (h : HasChs w w.heap.size A n l) (hnc : n ≤ ca) (hm : ca ≤ maxLen) (hs : ∀ u ∈ l, u.k.size ≤ maxLen ∧ u.v.size ≤ maxLen) (hk : key.size ≤ maxLen) (hlo : lo.size ≤ maxLen) (hhi : hi.size ≤ maxLen) :
    Calls Try.prog 5 #[.slice A n ca, .string key, .agg #[.string lo, .string hi]] w fun e w' => e = .returned (.bool true) ∧ Below w.heap.size w w' := by
  have H := Lib.hid h
  have Hlt := Lib.hid (fun wx (hx : Below w.heap.size w wx) => light_any A n ca w.heap.size 60 l wx (h.belowOf hx (Nat.le_refl _)) (by omega) (by omega) hs)
  have Haw := Lib.hid (awake_any (w.alloc (.cells #[.string lo, .string hi] 36)))
  clear h hs hm
  unfold maxLen at hk hlo hhi
  go_enter Try.func5, Try.ntmps5
  go_wp2_with fail
  refine Haw.out.mono ?_
  rintro e w1 ⟨rfl, hb1⟩
  have Hb1 : Hid (Below (w.heap.size + 1) (w.alloc (.cells #[.string lo, .string hi] 36)) w1) := Lib.hid (by simpa using hb1)
  have Hlt1 := Lib.hid (Hlt.out w1 (below_in Hb1.out (Nat.le_refl _)))
  clear hb1
  go_wp2_with fail
  refine Hlt1.out.mono ?_
  rintro e w2 ⟨b, rfl, hbl, q, rfl⟩
  have Hb2 := Lib.hid (below_dr Hb1.out q)
  have Hbl := Lib.hid hbl
  clear hbl Hlt Hlt1
  generalize w1.drewN q = w2 at *
  have hbx := (Box.made w 36 #[.string lo, .string hi]).below Hb2.out (by simp)
  have q0 := hbx.cell 0
  have q1 := hbx.cell 1
  have hsz2 : w.heap.size + 1 ≤ w2.heap.size := by have := Hb2.out.size; simpa using this
  clear hbx
  cases b with
  | false =>
    go_wp2
    go_ret
    exact ⟨rfl, below_in Hb2.out (Nat.le_refl _)⟩
  | true =>
    have HL := Lib.hid ((Hbl.out rfl).small)
    have hn60 : n ≤ 60 := by have h1 := HL.out.1; rwa [H.out.1] at h1
    have HC : Hid (w.heap.size ≤ w2.heap.size) := Lib.hid (by omega)
    have H2 := Lib.hid (H.out.belowOf (below_in Hb2.out (Nat.le_refl _)) (Nat.le_refl _))
    by_cases hk1 : 1000 < key.size
    · go_wp2
      go_ret
      exact ⟨rfl, below_in Hb2.out (Nat.le_refl _)⟩
    · by_cases hl1 : 1000 < lo.size
      · go_wp2
        go_ret
        exact ⟨rfl, below_in Hb2.out (Nat.le_refl _)⟩
      · by_cases hh1 : 1000 < hi.size
        · go_wp2
          go_ret
          exact ⟨rfl, below_in Hb2.out (Nat.le_refl _)⟩
        · have Hf := Lib.hid (find_any A n ca w.heap.size l key w2 H2.out HC.out (by omega) HL.out.2)
          go_wp2_with fail
          refine Hf.out.mono ?_
          rintro e w3 ⟨rfl, hb3⟩
          have Hb3 := Lib.hid (Hb2.out.trans (hb3.mono hsz2))
          have hsz3 : w.heap.size + 1 ≤ w3.heap.size := Nat.le_trans hsz2 hb3.size
          obtain ⟨r, hr⟩ : ∃ r, findT key.data.toList l = r := ⟨_, rfl⟩
          rw [hr]
          obtain ⟨⟨rk, rv, rg⟩, rf⟩ := r
          have HR := Lib.hid hr
          obtain ⟨W4, hW4⟩ : ∃ W4, w3.alloc (Obj.cells #[.string rk, .string rv, .bool rg] 38) = W4 := ⟨_, rfl⟩
          have Hb4 : Hid (Below w3.heap.size w3 W4) := Lib.hid (hW4 ▸ below_box _)
          have Hf2 := Lib.hid (refFind_any A n ca w.heap.size l key W4 (H2.out.belowOf ((hb3.mono (by omega)).trans (Hb4.out.mono (by omega))) (Nat.le_refl _)) (by have := Hb4.out.size; omega) (by omega))
          rw [hr] at Hf2
          subst hW4
          simp only [cagg] at Hf2 ⊢
          clear hr hb3 q0 q1
          go_wp2_with fail
          refine Hf2.out.mono ?_
          rintro e w5 ⟨rfl, hb5⟩
          simp only [cagg]
          have hb5' : Below (w3.heap.size + 1) (w3.alloc (Obj.cells #[.string rk, .string rv, .bool rg] 38)) w5 := by simpa using hb5
          have Hb5 := Lib.hid (Hb3.out.trans ((Hb4.out.mono hsz3).trans (hb5'.mono (by omega))))
          have hsz5 : w3.heap.size + 1 ≤ w5.heap.size := by have := hb5'.size; simpa using this
          have Hb6 : Hid (Below (w.heap.size + 1) (w.alloc (.cells #[.string lo, .string hi] 36)) (w5.alloc (Obj.cells #[.string rk, .string rv, .bool rg] 38))) := Lib.hid (Hb5.out.alloc (by omega) _)
          have Hk : Hid (∀ wx, Below (w5.alloc (Obj.cells #[.string rk, .string rv, .bool rg] 38)).heap.size (w5.alloc (Obj.cells #[.string rk, .string rv, .bool rg] 38)) wx → (wx.cell? ⟨w.heap.size, 0, none⟩ = some (.string lo) ∧ wx.cell? ⟨w.heap.size, 1, none⟩ = some (.string hi) ∧ wx.cell? ⟨w3.heap.size, 0, none⟩ = some (.string rk) ∧ wx.cell? ⟨w3.heap.size, 1, none⟩ = some (.string rv) ∧ wx.cell? ⟨w3.heap.size, 2, none⟩ = some (.bool rg) ∧ wx.cell? ⟨w5.heap.size, 0, none⟩ = some (.string rk) ∧ wx.cell? ⟨w5.heap.size, 1, none⟩ = some (.string rv) ∧ wx.cell? ⟨w5.heap.size, 2, none⟩ = some (.bool rg)) ∧ Below (w5.alloc (Obj.cells #[.string rk, .string rv, .bool rg] 38)).heap.size (w5.alloc (Obj.cells #[.string rk, .string rv, .bool rg] 38)) wx) := Lib.hid fun wx hb => by
            have bx1 := ((Box.made w 36 #[.string lo, .string hi]).below Hb6.out (by simp)).below hb (by simp only [World.size_alloc]; omega)
            have bx2 := ((Box.made w3 38 #[.string rk, .string rv, .bool rg]).below (hb5'.alloc (by omega) (Obj.cells #[.string rk, .string rv, .bool rg] 38)) (by simp)).below hb (by simp only [World.size_alloc]; omega)
            have bx3 := (Box.made w5 38 #[.string rk, .string rv, .bool rg]).below hb (by simp)
            exact ⟨⟨bx1.cell 0, bx1.cell 1, bx2.cell 0, bx2.cell 1, bx2.cell 2, bx3.cell 0, bx3.cell 1, bx3.cell 2⟩, hb⟩
          have H6 := Lib.hid (H.out.belowOf (below_in Hb6.out (Nat.le_refl _)) (Nat.le_refl _))
          have hsz6 : w.heap.size ≤ (w5.alloc (Obj.cells #[.string rk, .string rv, .bool rg] 38)).heap.size := by simp only [World.size_alloc]; omega
          have HS1 := Lib.hid (fun wx (hb : Below (w5.alloc (Obj.cells #[.string rk, .string rv, .bool rg] 38)).heap.size (w5.alloc (Obj.cells #[.string rk, .string rv, .bool rg] 38)) wx) => slice_any A n ca w.heap.size l lo hi wx (H6.out.belowOf hb hsz6) (Nat.le_trans hsz6 hb.size) (by omega) HL.out.2)
          have HS2 := Lib.hid (fun wx (hb : Below (w5.alloc (Obj.cells #[.string rk, .string rv, .bool rg] 38)).heap.size (w5.alloc (Obj.cells #[.string rk, .string rv, .bool rg] 38)) wx) => refSlice_any A n ca w.heap.size l lo hi wx (H6.out.belowOf hb hsz6) (Nat.le_trans hsz6 hb.size) (by omega))
          have HL1 := Lib.hid (fun wx (hb : Below (w5.alloc (Obj.cells #[.string rk, .string rv, .bool rg] 38)).heap.size (w5.alloc (Obj.cells #[.string rk, .string rv, .bool rg] 38)) wx) => live_any A n ca w.heap.size l wx (H6.out.belowOf hb hsz6) (Nat.le_trans hsz6 hb.size) (by omega) HL.out.2)
          have HL2 := Lib.hid (fun wx (hb : Below (w5.alloc (Obj.cells #[.string rk, .string rv, .bool rg] 38)).heap.size (w5.alloc (Obj.cells #[.string rk, .string rv, .bool rg] 38)) wx) => refLive_any A n ca w.heap.size l wx (H6.out.belowOf hb hsz6) (Nat.le_trans hsz6 hb.size) (by omega))
          obtain ⟨L1, hL1⟩ : ∃ L1, sliceT lo.data.toList hi.data.toList l = L1 := ⟨_, rfl⟩
          obtain ⟨L2, hL2⟩ : ∃ L2, livesT l = L2 := ⟨_, rfl⟩
          have HN1 : Hid (L1.length ≤ maxLen) := Lib.hid (by have h1 := sliceT_len lo.data.toList hi.data.toList l; rw [hL1] at h1; have := H.out.1; unfold maxLen; omega)
          have HN2 : Hid (L2.length ≤ maxLen) := Lib.hid (by have h1 := livesT_len l; rw [hL2] at h1; have := H.out.1; unfold maxLen; omega)
          rw [hL1] at HS1 HS2
          rw [hL2] at HL1 HL2
          have hrf : (rf == rf) = true := by simp
          clear hb5 hb5' hL1 hL2 Hf2 Hf HR
          go_wp2
          go_region_held3 (fun wx => (wx.cell? ⟨w.heap.size, 0, none⟩ = some (.string lo) ∧ wx.cell? ⟨w.heap.size, 1, none⟩ = some (.string hi) ∧ wx.cell? ⟨w3.heap.size, 0, none⟩ = some (.string rk) ∧ wx.cell? ⟨w3.heap.size, 1, none⟩ = some (.string rv) ∧ wx.cell? ⟨w3.heap.size, 2, none⟩ = some (.bool rg) ∧ wx.cell? ⟨w5.heap.size, 0, none⟩ = some (.string rk) ∧ wx.cell? ⟨w5.heap.size, 1, none⟩ = some (.string rv) ∧ wx.cell? ⟨w5.heap.size, 2, none⟩ = some (.bool rg)) ∧ Below (w5.alloc (Obj.cells #[.string rk, .string rv, .bool rg] 38)).heap.size (w5.alloc (Obj.cells #[.string rk, .string rv, .bool rg] 38)) wx)
            (first | exact Hk.out _ (Below.refl _ _).drew | exact Hk.out _ (below_thn (And.right (by assumption)) b6) | exact Hk.out _ (below_thn (And.right (by assumption)) b5) | exact Hk.out _ (below_thn (And.right (by assumption)) b4) | exact Hk.out _ (below_thn (And.right (by assumption)) b3) | exact Hk.out _ (below_thn (And.right (by assumption)) b2) | exact Hk.out _ (below_thn (And.right (by assumption)) b1))
            (first
              | (go_at_call 21; refine (HS1.out _ (And.right (by assumption))).mono ?_; rintro e x1 ⟨v1, rfl, o1, b1⟩; obtain ⟨A1, m1, rfl, -, -, -⟩ := o1.slice)
              | (go_at_call 22; refine (HS2.out _ (And.right (by assumption))).mono ?_; rintro e x2 ⟨v2, rfl, o2, b2⟩; obtain ⟨A2, m2, rfl, -, -, -⟩ := o2.slice; have o1b := o1.below b2)
              | (go_at_call 12; have hx1 := (own_chs o1b); have hx2 := (own_chs o2); have hsm := chSame_any A1 A2 _ _ m1 m2 _ _ _ _ x2 hx1 hx2 HN1.out HN1.out; rw [decide_eq_true rfl] at hsm; refine hsm.mono ?_; rintro e x3 ⟨rfl, b3⟩)
              | (go_at_call 24; refine (HL1.out _ (And.right (by assumption))).mono ?_; rintro e x4 ⟨v4, rfl, o4, b4⟩; obtain ⟨A4, m4, rfl, -, -, -⟩ := o4.slice)
              | (go_at_call 25; refine (HL2.out _ (And.right (by assumption))).mono ?_; rintro e x5 ⟨v5, rfl, o5, b5⟩; obtain ⟨A5, m5, rfl, -, -, -⟩ := o5.slice; have o4b := o4.below b5)
              | (go_at_call 23; have hx4 := (own_prs o4b); have hx5 := (own_prs o5); refine (samePairs_any A4 A5 _ m4 m5 _ _ L2 x5 hx4 hx5 HN2.out).mono ?_; rintro e x6 ⟨rfl, b6⟩))
          all_goals
            have HbE := Lib.hid ((below_in Hb6.out (Nat.le_refl _)).trans ((And.right ‹(_ ∧ _) ∧ Below (w5.alloc (Obj.cells #[.string rk, .string rv, .bool rg] 38)).heap.size (w5.alloc (Obj.cells #[.string rk, .string rv, .bool rg] 38)) x6›).mono hsz6))
            clear b1 b2 b3 b4 b5 b6
            go_wp2
            go_ret
            exact ⟨rfl, HbE.out⟩

namespace lawRunFinds
open Go.ChangeShapes Go.WideShapes Go.ChangeAt

theorem own : ownKnob Try.prog.godebug = none := by kernel_rfl
theorem kids : Kids Try.prog (· < Try.prog.types.size) := kids_rows (by kernel_rfl) (by kernel_rfl)
theorem full : ∀ t e, t < Try.prog.types.size → Try.prog.underlying t = some (.slice e) → 0 < Try.prog.cellsOf e := slices_full_of Try.prog (by kernel_rfl)

set_option maxRecDepth 100000 in
theorem lifted (os : Os) (started : os.Started) (H : Type) (enc : TypeId × Value → H) :
    ReturnsInHanded {} Try.checked os 5 .any (Rows.runFindsSpec.pre6 enc Try.prog Try.f5 Rows.runFindsRow.domain false) (Rows.runFindsSpec.post enc Try.prog Try.f5 false true false false) := by
  refine returnsInHanded_of_change (C := Try.checked) own started (by kernel_rfl) Try.func5
    (ChangeSpec.witness6 (enc := enc) (C := Try.checked) false ⟨#[], #[.slice none 0 0, .string ⟨#[]⟩, .agg #[.string ⟨#[]⟩, .string ⟨#[]⟩]], []⟩ 8 (by kernel_rfl) (by kernel_rfl) (by kernel_rfl) (by kernel_rfl)) ?_
  intro W base args ds gs before hval0 hW _ _
  have hval : ∀ (j : Nat) t v, Try.f5.params[j]? = some t → args[j]? = some v → Value.okWide Try.prog W .any base t v := hval0
  have hW' := hW
  obtain ⟨p, q, hA0, hV, rfl, _, _⟩ := hW
  obtain ⟨rfl, rfl⟩ := trodVars_none hV
  have hA : DataW.TrodAll enc Try.prog W 0 (fun _ => true) true Try.f5.params.toList args.toList ds p := hA0
  rw [Try.params5] at hA hval
  obtain ⟨v0, vs0, d0, ds0, p0, q0, hargs, rfl, rfl, h0, r0⟩ := trodAll_cons hA
  obtain ⟨v1, vs1, d1, ds1, p1, q1, rfl, rfl, rfl, h1, r1⟩ := trodAll_cons r0
  obtain ⟨v2, vs2, d2, ds2, p2, q2, rfl, rfl, rfl, h2, r2⟩ := trodAll_cons r1
  obtain ⟨rfl, rfl, rfl⟩ := trodAll_nil r2
  obtain rfl : args = #[v0, v1, v2] := by cases args; simp_all
  have hlt := hW'.lt
  obtain ⟨A0, n0, c0, l0, rfl, hnc0, hm0, hb0, hs0⟩ := open_changes Try.underlying22 Try.underlying38 (by kernel_rfl) ⟨rfl, rfl, rfl⟩ ⟨by kernel_rfl, by kernel_rfl, by kernel_rfl⟩ ⟨by kernel_rfl, by kernel_rfl, by kernel_rfl⟩ (hval 0 22 v0 rfl rfl) h0 (fun x hx => hlt x (by simp [hx]))
  obtain ⟨s1, rfl, _, _, ws1⟩ := Go.ChangeMaps.open_string Try.underlying9 (hval 1 9 v1 rfl rfl) h1
  obtain ⟨x2, y2, rfl, wx2, wy2⟩ := open_range Try.underlying36 (by kernel_rfl) ⟨rfl, rfl⟩ ⟨by kernel_rfl, by kernel_rfl⟩ ⟨by kernel_rfl, by kernel_rfl⟩ (hval 2 36 v2 rfl rfl) h2
  refine (finds_walk A0 n0 c0 l0 s1 x2 y2 W hb0 hnc0 hm0 hs0 ws1 wx2 wy2).mono fun e W' ⟨he, hbel⟩ => ?_
  subst he
  exact ⟨_, rfl, law_post kids full (of_decide_eq_true (by kernel_rfl)) Try.underlying4 rfl rfl rfl hW' hbel⟩

theorem proved : Rows.RunFindsSaid :=
  OpenClaim.holds_of_wide 5 Try.f5 rfl rfl rfl rfl rfl rfl rfl ⟨rfl, rfl, rfl, rfl, rfl⟩ rfl rfl rfl rfl rfl (by kernel_rfl) Try.func5 (by kernel_rfl)
    (of_decide_eq_true (by kernel_rfl)) (by unfold Func.isWrapper; first | (rw [if_pos (by decide +kernel)]; kernel_rfl) | (rw [if_neg (by decide +kernel)]; exact ⟨rfl, rfl⟩))
    (fun os started H enc _ => lifted os started H enc)
end lawRunFinds

end Go.Proofs.Ytmbolempigbkdaa
