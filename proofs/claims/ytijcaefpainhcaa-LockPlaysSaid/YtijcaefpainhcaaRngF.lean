/- span's Least. Condition: few ranges with texts that fit, in memory. -/
import Derived.Test.YtijcaefpainhcaaRngE
import Derived.Test.YtijcaefpainhcaaRngH
import Derived.BigQuiet
namespace Go.Proofs.Ytijcaefpainhcaa
open Go.RowKit
open Go.Lib (strCells compareBytes)

/-- the least form of ranges, in new memory -/
def LeastPost (K n : Nat) (P : List UInt8 → Prop) (w : World) (e : Ending) (w' : World) : Prop :=
  ∃ (m : List Rg) (v : Value), e = .returned v ∧ OwnRgs w' w.heap.size v m ∧ IsForm m P ∧ m.length ≤ n ∧ Small K m ∧ Below w.heap.size w w'
theorem put_same {m : List Rg} {i : Nat} {x : Rg} (h : m[i]? = some x) : (rgCells m).take (i * 2) ++ ([.string x.lo, .string x.hi] ++ (rgCells m).drop (i * 2 + 2)) = rgCells m := by
  have e : (rgCells m).drop (i * 2) = .string x.lo :: .string x.hi :: rgCells (m.drop (i + 1)) := by rw [rgCells_drop, drop_mem h]; rfl
  have e2 : (rgCells m).drop (i * 2 + 2) = rgCells (m.drop (i + 1)) := by rw [show i * 2 + 2 = (i + 1) * 2 from by omega, rgCells_drop]
  rw [e2]
  calc _ = (rgCells m).take (i * 2) ++ (rgCells m).drop (i * 2) := by rw [e]; rfl
    _ = rgCells m := List.take_append_drop _ _
theorem last_cells {w : World} {B g c M : Nat} {m : List Rg} {x : Rg} (h : w.ownsRow B 23 2 (.slice (some ⟨g, 0, none⟩) (M + 1) c) (M + 1) (rgCells (m ++ [x]))) (hM : m.length = M) :
    w.cell? ⟨g, M * 2, none⟩ = some (.string x.lo) ∧ w.cell? ⟨g, M * 2 + 1, none⟩ = some (.string x.hi) := by
  have h1 := rgCells_at (m ++ [x]) M x (by rw [← hM]; simp)
  exact ⟨(World.ownsRow.cellAt h (M * 2) (by omega)).trans h1.1, (World.ownsRow.cellAt h (M * 2 + 1) (by omega)).trans h1.2⟩
theorem setR_hi (m : List Rg) (x : Rg) (h : ByteArray) : (rgCells (m ++ [x])).set (m.length * 2 + 1) (.string h) = rgCells (m ++ [⟨x.lo, h⟩]) := by
  rw [rgCells_app, rgCells_app, List.set_append_right _ _ (by rw [rgCells_len]; omega), rgCells_len]
  have : m.length * 2 + 1 - m.length * 2 = 1 := by omega
  rw [this]
  rfl
theorem lt_cell {w : World} {g i : Nat} {u : Value} (h : w.cell? ⟨g, i, none⟩ = some u) : g < w.heap.size := by
  rcases Nat.lt_or_ge g w.heap.size with h1 | h1
  · exact h1
  · unfold World.cell? at h
    simp [Array.getElem?_eq_none h1] at h
theorem below_drN {B : Nat} {a w : World} (h : Below B a w) (n : Nat) : Below B a (w.drewN n) := ⟨h.os, h.tape, h.output, h.size, h.block⟩
set_option maxRecDepth 100000 in
set_option maxHeartbeats 6400000 in
theorem least_any (A : Option Addr) (n c C K : Nat) (l : List Rg) (w : World) (h : HasRgs w C A n l) (hC : C ≤ w.heap.size) (hn : n ≤ 100000) (hK : Small K l) (hK2 : K ≤ 140737488355328) :
    Calls Try.prog 19 #[.slice A n c] w (LeastPost K n (inS l) w) := by
  have Hcl := Lib.hid (cloneR_any A n c C l w h (by omega) hC)
  have Hn := Lib.hid h.1
  have HK := Lib.hid hK
  have Hap := Lib.hid apart_any
  have Hso := Lib.hid sooner_any
  have Hon := Lib.hid (fun r wx (hr : r.lo.size ≤ K ∧ r.hi.size ≤ K) => ownR_any r wx (Nat.le_trans hr.1 hK2) (Nat.le_trans hr.2 hK2))
  unfold ragg at Hap Hon
  clear h hC hK hK2
  go_enter Try.func19, Try.ntmps19
  go_wp2_with fail
  refine Hcl.out.mono ?_
  rintro e w1 ⟨v1, rfl, o1, b1⟩
  have Hdl := Lib.hid (deleteVoid_any v1 w.heap.size _ l w1 o1 rfl (by have := Hn.out; omega))
  have HB1 := Lib.hid b1
  have HO1 := Lib.hid o1
  obtain ⟨A1, c1, rfl, -, -, -⟩ := o1.slice
  clear o1 b1
  go_wp2_with fail
  refine Hdl.out.mono ?_
  rintro e w2 ⟨v2, rfl, o2, g2, z2⟩
  have HB2 : Hid (Below w.heap.size w w2) := Lib.hid (HB1.out.grown g2 HB1.out.size fun q hq => (HO1.out.lt q hq).1)
  have Hst := Lib.hid (sortR_any v2 w.heap.size _ w2 o2 (by have := Hn.out; have := fulls_len l; omega))
  have HO2 := Lib.hid o2
  obtain ⟨A2, c2, rfl, -, -, -⟩ := o2.slice
  clear o2 g2 z2
  go_wp2_with fail
  refine Hst.out.mono ?_
  rintro e w3 ⟨rfl, S, hmem, hSl, hrise, o3, g3⟩
  have HB3 : Hid (Below w.heap.size w w3) := Lib.hid (HB2.out.grown g3 HB2.out.size fun q hq => (HO2.out.lt q hq).1)
  have HS : Hid ((∀ s, inS S s ↔ inS l s) ∧ RiseR S ∧ (∀ r ∈ S, ¬ emptyR r) ∧ Small K S) := Lib.hid ⟨fun s => (in_perm hmem s).trans (in_fulls l s), hrise, fun r hr => by
    have := List.mem_filter.1 ((hmem r).1 hr)
    simpa using this.2, fun r hr => HK.out r (List.mem_filter.1 ((hmem r).1 hr)).1⟩
  obtain ⟨N, hN⟩ : ∃ N, S.length = N := ⟨_, rfl⟩
  have HNn : Hid (N ≤ n ∧ S.length = N) := Lib.hid ⟨by have := fulls_len l; have := Hn.out; omega, hN⟩
  have hNb : N ≤ 100000 := by have := HNn.out.1; omega
  rw [← hSl, hN] at o3 ⊢
  have hr3 : HasRgs w3 w3.heap.size A2 N S := by
    obtain ⟨A', c', e', -, -, hx⟩ := o3.slice
    rw [hN] at e' hx
    injection e' with e1 _ _
    subst e1
    exact hx
  have H3 := Lib.hid hr3
  clear hmem hSl hrise o3 g3 hN hr3 HB1 HO1 HB2 HO2 Hcl Hdl Hst
  go_wp2
  go_loopw [4, 6, 7, 17] (fun o _ _ iv wr => ∃ k : Nat, k ≤ N ∧ iv = .int .i64 (k : Int) ∧ (∃ m, OwnRgs wr w3.heap.size o m ∧ Hid (LInv K m S k)) ∧ Below w3.heap.size w3 wr) (fun _ _ _ iv _ => N - (intOf iv).toNat)
  case atStart => exact ⟨0, by omega, rfl, ⟨[], OwnRgs.nil _ _, Lib.hid (LInv.start _ _)⟩, Below.refl _ _⟩
  case round =>
    obtain ⟨k, hk, rfl, ⟨m, ho, Hf⟩, hb⟩ := hrel
    have Hb := Lib.hid hb
    have hsz := hb.size
    by_cases hlt : k < N
    · obtain ⟨a, y, rfl, hab, hy, c0, c1⟩ := (H3.out.belowOf hb (Nat.le_refl _)).at_ hlt
      have Hy := Lib.hid hy
      have hk0 : (0 : Int) ≤ (k : Int) := by omega
      have hk1 : (k : Int) < (N : Int) := by omega
      have Hye := Lib.hid (And.intro (HS.out.2.2.1 y (List.mem_of_getElem? hy)) (HS.out.2.2.2 y (List.mem_of_getElem? hy)))
      have Hml : Hid (m.length ≤ k) := Lib.hid Hf.out.len
      clear hy hb
      obtain ⟨yl, yh⟩ := y
      simp only at c0 c1
      rcases List.eq_nil_or_concat m with rfl | ⟨m', x, rfl⟩
      · obtain ⟨Ao, co, rfl, -, -, -⟩ := ho.slice
        have Ho := Lib.hid ho
        clear ho
        have Hf1 := Lib.hid (Hf.out.app HS.out.2.1 Hy.out Hye.out.1 Hye.out.2 (by simp))
        have HX : Hid (∀ q, Below wr.heap.size wr ((wr.alloc (.cells #[.string yl, .string yh] 23)).drewN q) ∧ ((wr.alloc (.cells #[.string yl, .string yh] 23)).drewN q).cell? ⟨wr.heap.size, 0, none⟩ = some (.string yl) ∧ ((wr.alloc (.cells #[.string yl, .string yh] 23)).drewN q).cell? ⟨wr.heap.size, 1, none⟩ = some (.string yh)) := Lib.hid fun q =>
          ⟨below_drN (below_box _) q, (Box.made wr _ #[.string yl, .string yh]).cell 0, (Box.made wr _ #[.string yl, .string yh]).cell 1⟩
        have hneg : decide ((-1 : Int) < 0) = true := by decide
        rw [show ([] : List Rg).length = 0 from rfl]
        go_wp2
        go_quiet (fail)
        obtain ⟨hbx, p0, p1⟩ := HX.out nq
        generalize (wr.alloc (.cells #[.string yl, .string yh] 23)).drewN nq = w5 at hbx p0 p1 ⊢
        have Ho5 : Hid (w5.ownsRow w3.heap.size 23 2 (.slice Ao 0 co) 0 []) := Lib.hid (own_belowN Ho.out hbx)
        have Hb5 : Hid (Below w3.heap.size w3 w5) := Lib.hid (Hb.out.trans (hbx.mono hsz))
        have hsz5 : w3.heap.size ≤ w5.heap.size := Nat.le_trans hsz hbx.size
        clear hbx
        go_wp2_with (at_builtin; refine wpList_append_hasN rfl (.tmp 34) (.tmp 36) _ rfl 23 rg_elem (by omega) Try.underlying26 rfl (own_belowN Ho5.out (below_box _)) rfl (rg_lit w5 ⟨yl, yh⟩) (rgCells_one _) (by simp only [maxLen]; omega) (by omega) (by simp only [World.size_alloc]; omega) ?_; intro v1 w6 o1 g1 z1; have HoE : Hid (OwnRgs w6 w3.heap.size v1 (([] : List Rg) ++ [⟨yl, yh⟩])) := Lib.hid (by exact o1); have HbE : Hid (Below w3.heap.size w3 w6) := Lib.hid ((Hb5.out.alloc hsz5 _).grown g1 (by simp only [World.size_alloc]; omega) fun q hq => (Ho5.out.lt q hq).1); clear o1 g1 z1)
        go_roundw
        case rel => exact ⟨k + 1, by omega, by go_num, ⟨_, HoE.out, Hf1⟩, HbE.out⟩
        case measure => simp [intOf]; omega
      · rw [List.concat_eq_append] at *
        obtain ⟨Ao, co, rfl, -, -, -⟩ := ho.slice
        unfold OwnRgs at ho
        obtain ⟨M, hM⟩ : ∃ M, m'.length = M := ⟨_, rfl⟩
        have hMl : (m' ++ [x]).length = M + 1 := by simp [hM]
        rw [hMl] at ho Hml ⊢
        obtain ⟨g, rfl, hBg⟩ := own_head ho (by omega)
        have hgw := (ho.lt g rfl).2
        obtain ⟨l0, l1⟩ := last_cells ho hM
        have Ho := Lib.hid ho
        have HM := Lib.hid (And.intro hM hMl)
        have hMb : M ≤ 100000 := by have := Hml.out; omega
        have hM0 : (0 : Int) ≤ (M : Int) := by omega
        have hM1 : (M : Int) < (M : Int) + 1 := by omega
        have hMlt : decide ((M : Int) < 0) = false := decide_eq_false (by omega)
        have Hap1 := Lib.hid (fun wx => Hap.out x ⟨yl, yh⟩ wx)
        have Hso1 := Lib.hid (fun wx => Hso.out x.hi yh wx)
        obtain ⟨d, hd⟩ : ∃ d, decide (Gap x ⟨yl, yh⟩) = d := ⟨_, rfl⟩
        obtain ⟨d2, hd2⟩ : ∃ d2, decide (soonT x.hi.data.toList yh.data.toList) = d2 := ⟨_, rfl⟩
        simp only [hd] at Hap1
        simp only [hd2] at Hso1
        have HD := Lib.hid (And.intro hd hd2)
        obtain ⟨xl, xh⟩ := x
        simp only at l0 l1 Hap1 Hso1
        have HK : Hid (∀ wx, Below wr.heap.size wr wx → wx.cell? ⟨wr.heap.size, 0, none⟩ = some (.string yl) ∧ wx.cell? ⟨wr.heap.size, 1, none⟩ = some (.string yh) → ((wx.cell? ⟨g, M * 2, none⟩ = some (.string xl) ∧ wx.cell? ⟨g, M * 2 + 1, none⟩ = some (.string xh)) ∧ wx.cell? ⟨wr.heap.size, 0, none⟩ = some (.string yl) ∧ wx.cell? ⟨wr.heap.size, 1, none⟩ = some (.string yh)) ∧ Below wr.heap.size wr wx ∧ wr.heap.size < wx.heap.size) := Lib.hid fun wx hx hy => ⟨⟨⟨below_cell hx hgw l0, below_cell hx hgw l1⟩, hy⟩, hx, lt_cell hy.1⟩
        have HK0 := Lib.hid (HK.out (wr.alloc (.cells #[.string yl, .string yh] 23)).drew (below_box _).drew ⟨(Box.made wr _ #[.string yl, .string yh]).cell 0, (Box.made wr _ #[.string yl, .string yh]).cell 1⟩)
        have HKc : Hid (∀ wx wy, ((wx.cell? ⟨g, M * 2, none⟩ = some (.string xl) ∧ wx.cell? ⟨g, M * 2 + 1, none⟩ = some (.string xh)) ∧ wx.cell? ⟨wr.heap.size, 0, none⟩ = some (.string yl) ∧ wx.cell? ⟨wr.heap.size, 1, none⟩ = some (.string yh)) ∧ Below wr.heap.size wr wx ∧ wr.heap.size < wx.heap.size → Below wx.heap.size wx wy → ((wy.cell? ⟨g, M * 2, none⟩ = some (.string xl) ∧ wy.cell? ⟨g, M * 2 + 1, none⟩ = some (.string xh)) ∧ wy.cell? ⟨wr.heap.size, 0, none⟩ = some (.string yl) ∧ wy.cell? ⟨wr.heap.size, 1, none⟩ = some (.string yh)) ∧ Below wr.heap.size wr wy ∧ wr.heap.size < wy.heap.size) := Lib.hid fun wx wy hx hb => HK.out wy (keep_call hx.2.1 hb) ⟨below_cell hb hx.2.2 hx.1.2.1, below_cell hb hx.2.2 hx.1.2.2⟩
        clear ho hM hMl l0 l1 hd hd2 HK
        go_wp2
        go_region_held3 (fun wx => ((wx.cell? ⟨g, M * 2, none⟩ = some (.string xl) ∧ wx.cell? ⟨g, M * 2 + 1, none⟩ = some (.string xh)) ∧ wx.cell? ⟨wr.heap.size, 0, none⟩ = some (.string yl) ∧ wx.cell? ⟨wr.heap.size, 1, none⟩ = some (.string yh)) ∧ Below wr.heap.size wr wx ∧ wr.heap.size < wx.heap.size)
          (first | exact HK0.out | exact HKc.out _ _ (by assumption) b5)
          (first | (go_at_call 53; refine (Hap1.out _).mono ?_; rintro e w5 ⟨rfl, b5⟩))
        all_goals
          have HS5 : Hid (((w5.cell? ⟨g, M * 2, none⟩ = some (.string xl) ∧ w5.cell? ⟨g, M * 2 + 1, none⟩ = some (.string xh)) ∧ w5.cell? ⟨wr.heap.size, 0, none⟩ = some (.string yl) ∧ w5.cell? ⟨wr.heap.size, 1, none⟩ = some (.string yh)) ∧ Below wr.heap.size wr w5 ∧ wr.heap.size < w5.heap.size) := Lib.hid (by assumption)
          clear b5
          have Ho5 : Hid (w5.ownsRow w3.heap.size 23 2 (.slice (some ⟨g, 0, none⟩) (M + 1) co) (M + 1) (rgCells (m' ++ [⟨xl, xh⟩]))) := Lib.hid (own_belowN Ho.out HS5.out.2.1)
          have Hb5 : Hid (Below w3.heap.size w3 w5) := Lib.hid (Hb.out.trans (HS5.out.2.1.mono hsz))
          have hsz5 : w3.heap.size ≤ w5.heap.size := Nat.le_trans hsz HS5.out.2.1.size
          obtain ⟨⟨⟨q0, q1⟩, q2, q3⟩, -, hw5⟩ := HS5.out
          cases d with
          | true =>
            have Hf1 := Lib.hid (Hf.out.app HS.out.2.1 Hy.out Hye.out.1 Hye.out.2 (fun z hz => by simp at hz; subst hz; exact of_decide_eq_true HD.out.1))
            go_wp2_with (at_builtin; refine wpList_append_hasN rfl (.tmp 34) (.tmp 36) _ rfl 23 rg_elem (by omega) Try.underlying26 rfl (own_belowN Ho5.out (below_box _)) rfl (rg_lit w5 ⟨yl, yh⟩) (rgCells_one _) (by simp only [maxLen]; omega) (by omega) (by simp only [World.size_alloc]; omega) ?_; intro v1 w6 o1 g1 z1; have HoE : Hid (OwnRgs w6 w3.heap.size v1 (m' ++ [⟨xl, xh⟩] ++ [⟨yl, yh⟩])) := Lib.hid (by unfold OwnRgs; rw [List.length_append, HM.out.2, rgCells_app]; exact o1); have HbE : Hid (Below w3.heap.size w3 w6) := Lib.hid ((Hb5.out.alloc hsz5 _).grown g1 (by simp only [World.size_alloc]; omega) fun q hq => (Ho5.out.lt q hq).1); clear o1 g1 z1)
            go_roundw
            case rel => exact ⟨k + 1, by omega, by go_num, ⟨_, HoE.out, Hf1⟩, HbE.out⟩
            case measure => simp [intOf]; omega
          | false =>
            have HJ : Hid (∀ q, ((((w5.drewN q).cell? ⟨g, M * 2 + 1, none⟩ = some (.string xh)) ∧ (w5.drewN q).cell? ⟨wr.heap.size, 1, none⟩ = some (.string yh))) ∧ Below w5.heap.size w5 (w5.drewN q)) := Lib.hid fun q => ⟨⟨q1, q3⟩, below_drN (Below.refl _ _) q⟩
            cases d2 with
            | true =>
              have Hf1 := Lib.hid (Hf.out.more Hy.out Hye.out.2 (of_decide_eq_false HD.out.1) (of_decide_eq_true HD.out.2))
              go_wp2
              go_quiet (first | (go_at_call 43; refine Calls.quiet_of_same (Hso1.out _)))
              have Ho6 := own_belowN Ho5.out (below_drN (Below.refl _ _) nq)
              have hb6 := below_drN Hb5.out nq
              have r3 := (HJ.out nq).1.2
              generalize w5.drewN nq = w6 at Ho6 hb6 r3 ⊢
              have s1 := Ho6.stored (M * 2 + 1) (.string yh)
              have t0 : w6.cell? ⟨g, M * 2 + 1, none⟩ = some (.string xh) := (last_cells Ho6 HM.out.1).2
              have f1 := World.ownsRow.frozenAt Ho6 (M * 2 + 1)
              have HoE : Hid (OwnRgs (w6.setCell ⟨g, M * 2 + 1, none⟩ (.string yh)) w3.heap.size (.slice (some ⟨g, 0, none⟩) (M + 1) co) (m' ++ [⟨xl, yh⟩])) := Lib.hid (by
                have h1 := s1.1
                rw [← HM.out.1] at h1 ⊢
                rw [setR_hi] at h1
                unfold OwnRgs
                simpa using h1)
              have HbE : Hid (Below w3.heap.size w3 (w6.setCell ⟨g, M * 2 + 1, none⟩ (.string yh))) := Lib.hid (hb6.setCell (by exact hBg) _)
              clear Ho6 hb6 s1
              go_wp2
              go_roundw
              case rel => exact ⟨k + 1, by omega, by go_num, ⟨_, HoE.out, Hf1⟩, HbE.out⟩
              case measure => simp [intOf]; omega
            | false =>
              have Hf1 := Lib.hid (Hf.out.same Hy.out (of_decide_eq_false HD.out.2))
              go_wp2
              go_quiet (first | (go_at_call 43; refine Calls.quiet_of_same (Hso1.out _)))
              have Ho6 := Lib.hid (own_belowN Ho5.out (below_drN (Below.refl _ _) nq))
              have Hb6 := Lib.hid (below_drN Hb5.out nq)
              go_wp2
              go_roundw
              case rel => exact ⟨k + 1, by omega, by go_num, ⟨m' ++ [⟨xl, xh⟩], by unfold OwnRgs; rw [HM.out.2]; exact Ho6.out, Hf1⟩, Hb6.out⟩
              case measure => simp [intOf]; omega
    · obtain rfl : k = N := by omega
      have HE : Hid (IsForm m (inS l) ∧ m.length ≤ n ∧ Small K m) := Lib.hid ⟨(Hf.out.end (by have := HNn.out.2; omega)).congr HS.out.1, by have := Hf.out.len; have := HNn.out.1; omega, Hf.out.small⟩
      obtain ⟨Ao, co, rfl, -, -, -⟩ := ho.slice
      unfold OwnRgs at ho
      obtain ⟨M, hM⟩ : ∃ M, m.length = M := ⟨_, rfl⟩
      rw [hM] at ho ⊢
      have hMb : M ≤ 100000 := by have := HE.out.2.1; omega
      have Ho := Lib.hid ho
      have HM := Lib.hid hM
      clear ho hb hM
      generalize wr = wk at *
      go_wp2
      go_loopw [8, 9, 55] (fun _ _ iv wr => ∃ j : Nat, j ≤ M ∧ iv = .int .i64 (j : Int) ∧ wr.ownsRow w3.heap.size 23 2 (.slice Ao M co) M (rgCells m) ∧ Below w3.heap.size w3 wr) (fun _ _ iv _ => M - (intOf iv).toNat)
      case atStart => exact ⟨0, by omega, rfl, Ho.out, Hb.out⟩
      case round =>
        obtain ⟨j, hj, rfl, ho, hb⟩ := hrel
        have Hb2 := Lib.hid hb
        have hsz2 := hb.size
        clear Ho Hb
        by_cases hlt2 : j < M
        · obtain ⟨g, rfl, hBg⟩ := own_head ho (by omega)
          obtain ⟨x, hx⟩ : ∃ x, m[j]? = some x := ⟨_, List.getElem?_eq_getElem (by have := HM.out; omega)⟩
          obtain ⟨x0, x1⟩ := rgCells_at m j x hx
          have p0 := (World.ownsRow.cellAt ho (j * 2) (by omega)).trans x0
          have p1 := (World.ownsRow.cellAt ho (j * 2 + 1) (by omega)).trans x1
          have hgw := (ho.lt g rfl).2
          have Hx := Lib.hid hx
          have Hon1 := Lib.hid (fun wx => Hon.out x wx (HE.out.2.2 x (List.mem_of_getElem? hx)))
          obtain ⟨xl, xh⟩ := x
          simp only at p0 p1 Hon1
          have Ho := Lib.hid ho
          have hj0 : (0 : Int) ≤ (j : Int) := by omega
          have hj1 : (j : Int) < (M : Int) := by omega
          clear ho hb hx x0 x1
          go_wp2_with fail
          refine (Hon1.out _).mono ?_
          rintro e w5 ⟨rfl, b5⟩
          have hb5 : Below wr.heap.size wr w5 := (below_box _).trans (b5.mono (by simp))
          have Ho5 := Lib.hid (own_belowN Ho.out hb5)
          have Hb5 : Hid (Below w3.heap.size w3 w5) := Lib.hid (Hb2.out.trans (hb5.mono hsz2))
          have s1 := Ho5.out.stored (j * 2) (.string xl)
          obtain ⟨u0, e0⟩ : ∃ u, w5.cell? ⟨g, j * 2, none⟩ = some u := ⟨_, (World.ownsRow.cellAt Ho5.out (j * 2) (by omega)).trans (List.getElem?_eq_getElem (by rw [rgCells_len]; have := HM.out; omega))⟩
          obtain ⟨u1, e1⟩ : ∃ u, (w5.setCell ⟨g, j * 2, none⟩ (.string xl)).cell? ⟨g, j * 2 + 1, none⟩ = some u := ⟨_, (World.ownsRow.cellAt s1.1 (j * 2 + 1) (by omega)).trans (List.getElem?_eq_getElem (by rw [List.length_set, rgCells_len]; have := HM.out; omega))⟩
          have f0 := World.ownsRow.frozenAt Ho5.out (j * 2)
          have f1 := World.ownsRow.frozenAt s1.1 (j * 2 + 1)
          have hst := setCells_ownR [.string xl, .string xh] (j * 2) w5 _ Ho5.out (by simp; omega)
          have HoE : Hid (((w5.setCell ⟨g, j * 2, none⟩ (.string xl)).setCell ⟨g, j * 2 + 1, none⟩ (.string xh)).ownsRow w3.heap.size 23 2 (.slice (some ⟨g, 0, none⟩) M co) M (rgCells m)) := Lib.hid (by
            have h1 := hst.1
            rw [show j * 2 + [Value.string xl, .string xh].length = j * 2 + 2 from rfl, put_same Hx.out] at h1
            exact h1)
          have HbE : Hid (Below w3.heap.size w3 ((w5.setCell ⟨g, j * 2, none⟩ (.string xl)).setCell ⟨g, j * 2 + 1, none⟩ (.string xh))) := Lib.hid ((Hb5.out.setCell (by exact hBg) _).setCell (by exact hBg) _)
          have hgr : ¬ (wr.heap.size = g) := by omega
          clear b5 hb5 s1 hst Ho5
          go_wp2
          go_roundw
          case rel => exact ⟨j + 1, by omega, by go_num, HoE.out, HbE.out⟩
          case measure => simp [intOf]; omega
        · have HF : Hid (OwnRgs wr w.heap.size (.slice Ao M co) m ∧ Below w.heap.size w wr) := Lib.hid ⟨by unfold OwnRgs; rw [HM.out]; exact own_baseN ho HB3.out.size, HB3.out.trans (hb.mono HB3.out.size)⟩
          obtain rfl : j = M := by omega
          clear ho hb
          go_wp2
          go_ret
          exact ⟨m, _, rfl, HF.out.1, HE.out.1, HE.out.2.1, HE.out.2.2, HF.out.2⟩

end Go.Proofs.Ytijcaefpainhcaa
