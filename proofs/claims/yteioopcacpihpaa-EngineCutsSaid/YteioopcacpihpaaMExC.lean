/- The first pairs of a range of an engine: Range. Condition: the engine is in memory. -/
import Derived.Test.YteioopcacpihpaaMExB
import Derived.Test.YteioopcacpihpaaClone
import Derived.Deep.RegionWith
import Derived.Test.YteioopcacpihpaaMExA
namespace Go.Proofs.Yteioopcacpihpaa
open Go.RowKit
open Go.Lib (strCells compareBytes)

/-- what a step answers -/
def StepPost (c : Nat) (v : Value) (rs : Crs) (w : World) (e : Ending) (w' : World) : Prop :=
  Frm (fun j => v.ownBlock = some j) w w' ∧ ((e = .returned (.tuple #[.agg #[.string ⟨#[]⟩, .string ⟨#[]⟩, .bool false], .bool false]) ∧ (∀ l ∈ crLists rs, l = []) ∧ CurAt w' c v rs) ∨
    ∃ (i : Nat) (ch : Chg) (rs' : Crs), e = .returned (.tuple #[.agg #[.string ch.k, .string ch.v, .bool ch.g], .bool true]) ∧ LeastAt (crLists rs) i ch ∧ CurAt w' c v rs' ∧ crLists rs' = (crLists rs).map (dropK ch.kb) ∧
      ∀ r' ∈ rs', ∀ g, r'.1.ownBlock = some g → ∃ r ∈ rs, r.1.ownBlock = some g)
theorem set3c {W : World} {g : Nat} {t : TypeId} {x y z : Value} (x' y' z' : Value) (h : Box W g t #[x, y, z]) : Box (((W.setCell ⟨g, 0, none⟩ x').setCell ⟨g, 1, none⟩ y').setCell ⟨g, 2, none⟩ z') g t #[x', y', z'] := by
  have := ((h.set_ 0 x').set_ 1 y').set_ 2 z'
  simpa using this
def StepInv (key : List UInt8) (Ls : List (List Chg)) (rs : Crs) (N k : Nat) (rk : Crs) : Prop :=
  crLists rk = (Ls.take k).map (dropK key) ++ Ls.drop k ∧ rk.length = N ∧ ∀ r' ∈ rk, ∀ g, r'.1.ownBlock = some g → ∃ r ∈ rs, r.1.ownBlock = some g
theorem add0 (g k : Nat) : (⟨g, 0, none⟩ : Addr).add k = ⟨g, k, none⟩ := by unfold Addr.add; split <;> simp_all
theorem left_at {f : List Chg → List Chg} {Ls : List (List Chg)} {k : Nat} (h : k < Ls.length) : ((Ls.take k).map f ++ Ls.drop k)[k]? = Ls[k]? := by
  have hl : ((Ls.take k).map f).length = k := by rw [List.length_map, List.length_take]; omega
  rw [List.getElem?_append_right (by omega), hl, Nat.sub_self, List.getElem?_drop, Nat.add_zero]
set_option maxRecDepth 100000 in
set_option maxHeartbeats 3200000 in
theorem step_any {w : World} {c : Nat} {v : Value} {rs : Crs} (h : CurAt w c v rs) (hN : rs.length ≤ 100000) :
    Calls Try.prog 63 #[.pointer (some ⟨c, 0, none⟩)] w (StepPost c v rs w) := by
  have hb0 := below_box (w := w) (Obj.cells #[.string ⟨#[]⟩, .string ⟨#[]⟩, .bool false] 38)
  have H0 := Lib.hid (h.below hb0)
  have Hle := Lib.hid (least_any H0.out hN)
  have Hlt := Lib.hid (And.intro h.box.lt (And.intro (fun g (hg : v.ownBlock = some g) => (h.row.lt g hg).2) h.old))
  obtain ⟨N, hNN⟩ : ∃ N, rs.length = N := ⟨_, rfl⟩
  have HN := Lib.hid hNN
  rw [hNN] at hN
  clear h hb0 hNN
  go_enter Try.func63, Try.ntmps63
  go_wp2_with fail
  refine Hle.out.mono ?_
  rintro e w2 ⟨hb2, hp2⟩
  have Hb2 : Hid (Below (w.heap.size + 1) (w.alloc (.cells #[.string ⟨#[]⟩, .string ⟨#[]⟩, .bool false] 38)) w2) := Lib.hid (by simpa using hb2)
  have hsz2 : w.heap.size + 1 ≤ w2.heap.size := by have := hb2.size; simpa using this
  have HC := Lib.hid (H0.out.below hb2)
  clear hb2 Hle H0
  rcases hp2 with ⟨rfl, hem⟩ | ⟨i, ch, rfl, hil, hla⟩
  · have hbx := (Box.made w 38 #[.string ⟨#[]⟩, .string ⟨#[]⟩, .bool false]).below Hb2.out (by simp)
    obtain ⟨q0, q1, q2, f0, f1, f2⟩ := box_at Hb2.out rfl
    have hp := box_store (x' := .string ⟨#[]⟩) (y' := .string ⟨#[]⟩) (z' := .bool false) q0 q1 q2
    have hF : Frm (fun j => j = w.heap.size) w2 (((w2.setCell ⟨w.heap.size, 0, none⟩ (.string ⟨#[]⟩)).setCell ⟨w.heap.size, 1, none⟩ (.string ⟨#[]⟩)).setCell ⟨w.heap.size, 2, none⟩ (.bool false)) :=
      Frm.set (S := fun j => j = w.heap.size) (Frm.set (S := fun j => j = w.heap.size) (Frm.set (S := fun j => j = w.heap.size) (Frm.refl _ _) (.inl rfl) _) (.inl rfl) _) (.inl rfl) _
    have HcE : Hid (CurAt (((w2.setCell ⟨w.heap.size, 0, none⟩ (.string ⟨#[]⟩)).setCell ⟨w.heap.size, 1, none⟩ (.string ⟨#[]⟩)).setCell ⟨w.heap.size, 2, none⟩ (.bool false)) c v rs) := Lib.hid (HC.out.frm hF (fun e => by have := Hlt.out.1; omega) (fun g hg e => by have := Hlt.out.2.1 g hg; omega) (fun r hr g hg e => by have := Hlt.out.2.2 r hr g hg; omega))
    have HbW : Hid (Below w.heap.size w (((w2.setCell ⟨w.heap.size, 0, none⟩ (.string ⟨#[]⟩)).setCell ⟨w.heap.size, 1, none⟩ (.string ⟨#[]⟩)).setCell ⟨w.heap.size, 2, none⟩ (.bool false))) := Lib.hid ((((below_in Hb2.out (Nat.le_refl _)).setCell (Nat.le_refl _) _).setCell (Nat.le_refl _) _).setCell (Nat.le_refl _) _)
    obtain ⟨W3, hW3⟩ : ∃ W3, ((w2.setCell ⟨w.heap.size, 0, none⟩ (.string ⟨#[]⟩)).setCell ⟨w.heap.size, 1, none⟩ (.string ⟨#[]⟩)).setCell ⟨w.heap.size, 2, none⟩ (.bool false) = W3 := ⟨_, rfl⟩
    rw [hW3] at hp HbW HcE
    obtain ⟨p0, p1, p2⟩ := hp
    have Hem := Lib.hid hem
    clear hbx hF hem
    go_wp2
    refine bodyPost_ret (v := .tuple #[.agg #[.string ⟨#[]⟩, .string ⟨#[]⟩, .bool false], .bool false]) ?_ rfl ⟨Frm.of HbW.out, .inl ⟨rfl, Hem.out, HcE.out⟩⟩
    simp [results, Try.results63, go_sem, p0, p1, p2]
  · obtain ⟨A, k0, rfl, -, -, hx⟩ := HC.out.crs
    rw [HN.out] at hx
    have hiN : i < N := by have := HN.out; rw [crLists_len] at hil; omega
    obtain ⟨a', A2, m2, c2, l2, ea', -, hg2, -, -, h4, d2, -⟩ := hx.at_ hiN
    obtain ⟨t2, ht2⟩ := hla.1
    rw [hg2] at ht2
    injection ht2 with ht2
    subst ht2
    have hm2 : 0 < m2 := by rw [← h4.1]; simp
    obtain ⟨a2, z, rfl, hab2, hz, f0, f1, f2⟩ := h4.at_ (i := 0) hm2
    simp at hz
    subst hz
    have ea : a2.add (0 * 3) = a2 := by simp [Addr.add]
    rw [ea] at f0 f1 f2
    subst ea'
    have hm20 : (0 : Int) < (m2 : Int) := by omega
    have hi0 : (0 : Int) ≤ (i : Int) := by omega
    have hi1 : (i : Int) < (N : Int) := by omega
    have b0 : ∀ o, (w2.alloc o).cell? ⟨c, 0, none⟩ = some (.slice (some a') N k0) := fun o => by
      have h1 := ((HC.out.below (below_box o)).box).cell 0
      rw [HN.out] at h1
      exact h1
    have b1 : w2.cell? ⟨c, 0, none⟩ = some (.slice (some a') N k0) := by
      have h1 := HC.out.box.cell 0
      rw [HN.out] at h1
      exact h1
    have Hla := Lib.hid hla
    obtain ⟨chk, chv, chg⟩ := ch
    simp only at f0 f1 f2
    rw [HN.out] at HC Hlt ⊢
    have hbx : Box (w2.alloc (.cells #[.string chk, .string chv, .bool chg] 38)) w2.heap.size 38 #[.string chk, .string chv, .bool chg] := Box.made _ _ _
    have hby : Box (w2.alloc (.cells #[.string chk, .string chv, .bool chg] 38)) w.heap.size 38 #[.string ⟨#[]⟩, .string ⟨#[]⟩, .bool false] := ((Box.made w 38 #[.string ⟨#[]⟩, .string ⟨#[]⟩, .bool false]).below Hb2.out (by simp)).below (below_box _) (by omega)
    have HS : Hid (CurAt (w2.alloc (.cells #[.string chk, .string chv, .bool chg] 38)) c (.slice (some a') N k0) rs ∧ Box (w2.alloc (.cells #[.string chk, .string chv, .bool chg] 38)) w2.heap.size 38 #[.string chk, .string chv, .bool chg] ∧ Box (w2.alloc (.cells #[.string chk, .string chv, .bool chg] 38)) w.heap.size 38 #[.string ⟨#[]⟩, .string ⟨#[]⟩, .bool false] ∧
        Frm (fun j => (Value.slice (some a') N k0).ownBlock = some j) w (w2.alloc (.cells #[.string chk, .string chv, .bool chg] 38))) :=
      Lib.hid ⟨HC.out.below (below_box _), hbx, hby, Frm.of ((below_in Hb2.out (Nat.le_refl _)).trans ((below_box _).mono (by omega)))⟩
    have hid : decide ((i : Int) < 0) = false := decide_eq_false (by omega)
    obtain ⟨Ls, hLs⟩ : ∃ Ls, crLists rs = Ls := ⟨_, rfl⟩
    have HLs := Lib.hid hLs
    have hLn : Ls.length = N := by rw [← hLs, crLists_len, HN.out]
    have HLn := Lib.hid hLn
    clear h4 hg2 hx hla hil ea hbx hby hLs hLn
    go_wp2
    go_loopw [6, 7, 27] (fun _ _ iv wr => ∃ (k : Nat) (rk : Crs), k ≤ N ∧ iv = .int .i64 (k : Int) ∧ CurAt wr c (.slice (some a') N k0) rk ∧ Hid (StepInv chk.data.toList Ls rs N k rk) ∧
      Box wr w2.heap.size 38 #[.string chk, .string chv, .bool chg] ∧ Box wr w.heap.size 38 #[.string ⟨#[]⟩, .string ⟨#[]⟩, .bool false] ∧ Frm (fun j => (Value.slice (some a') N k0).ownBlock = some j) w wr) (fun _ _ iv _ => N - (intOf iv).toNat)
    case atStart => exact ⟨0, rs, by omega, rfl, HS.out.1, Lib.hid (show StepInv _ _ _ _ _ _ from ⟨by rw [HLs.out]; simp, HN.out, fun r hr g hg => ⟨r, hr, hg⟩⟩), HS.out.2.1, HS.out.2.2.1, HS.out.2.2.2⟩
    case round =>
      obtain ⟨k, rk, hk, rfl, hc, Hr, hx5, hx2, hf⟩ := hrel
      have HCk := Lib.hid hc
      have HX := Lib.hid (And.intro hx5 (And.intro hx2 hf))
      have hb0 := hc.box.cell 0
      have q0 := hx5.cell 0
      clear hc hx5 hx2 hf
      by_cases hlt : k < N
      · obtain ⟨A, kk, e, -, -, hx⟩ := HCk.out.crs
        rw [Hr.out.2.1] at hx e
        injection e with e1 _ e3
        subst e1
        subst e3
        obtain ⟨a'', A1, m1, c1, l, ea', hab, hg, h1, h2, h3, d0, hcell⟩ := hx.at_ hlt
        injection ea' with ea'
        subst ea'
        have Hg : Hid (Ls[k]? = some l) := Lib.hid (by rw [Hr.out.1, left_at (by rw [HLn.out]; exact hlt)] at hg; exact hg)
        have hll := h3.1
        have hk0 : (0 : Int) ≤ (k : Int) := by omega
        have hk1 : (k : Int) < (N : Int) := by omega
        clear hg hx d2 f0 f1 f2 b0 b1
        by_cases hm1 : m1 = 0
        · subst hm1
          obtain rfl := List.eq_nil_of_length_eq_zero hll
          have Hn : Hid (StepInv chk.data.toList Ls rs N (k + 1) rk) := Lib.hid (And.intro (Hr.out.1.trans (set_same Hg.out rfl)) Hr.out.2)
          clear h1 h2 h3 hll hb0
          go_wp2
          go_quiet (fail)
          go_wp2
          go_roundw
          case rel => exact ⟨k + 1, rk, by omega, by go_num, HCk.out.below (below_dr (Below.refl _ _) _), Hn, HX.out.1.below (below_dr (Below.refl _ _) _) HX.out.1.lt, HX.out.2.1.below (below_dr (Below.refl _ _) _) HX.out.2.1.lt, HX.out.2.2.then (below_dr (Below.refl _ _) _)⟩
          case measure => simp [intOf]; omega
        · obtain ⟨a1, y, rfl, hab1, hy, e0, -, -⟩ := h3.at_ (i := 0) (by omega)
          have ea : a1.add (0 * 3) = a1 := by simp [Addr.add]
          rw [ea] at e0
          obtain ⟨t1, rfl⟩ : ∃ t1, l = y :: t1 := by
            cases l with
            | nil => simp at hy
            | cons d t => simp at hy; subst hy; exact ⟨t, rfl⟩
          have hm0 : (0 : Int) < (m1 : Int) := by omega
          have hmd : decide (0 < m1) = true := decide_eq_true (by omega)
          by_cases hkey : y.k.data.toList = chk.data.toList
          · have hke : (y.k.toList == chk.toList) = true := by rw [eq_toList]; exact decide_eq_true hkey
            obtain ⟨A', hA⟩ : ∃ A', (if c1 = 1 then some a1 else some (a1.add 3)) = A' := ⟨_, rfl⟩
            have hpart : HasChs wr wr.heap.size A' (m1 - 1) t1 := by
              have h4 : HasChs wr wr.heap.size (if c1 = 1 then some a1 else (some a1).map (·.add (1 * 3))) (m1 - 1) ((y :: t1).drop 1) := ⟨by rw [List.length_drop, hll], h3.cut (by omega) h1⟩
              have h5 : (if c1 = 1 then some a1 else (some a1).map (·.add (1 * 3))) = A' := hA
              rwa [h5] at h4
            have hblk : ∀ a, A' = some a → a.block = a1.block := fun a ha => by
              rw [← hA] at ha
              split at ha
              · injection ha with ha
                rw [ha]
              · injection ha with ha
                rw [← ha]
                unfold Addr.add
                split <;> rfl
            obtain ⟨r0, hr0, hr1⟩ : ∃ r ∈ rk, r.1.ownBlock = some a1.block := by
              simp only [crCells, List.getElem?_map] at hcell
              cases e : rk[k]? with
              | none => rw [e] at hcell; cases hcell
              | some r =>
                rw [e] at hcell
                injection hcell with hcell
                have h9 : r.1 = .slice (some a1) m1 c1 := hcell
                exact ⟨r, List.mem_of_getElem? e, by rw [h9]; rfl⟩
            have Hho : Hid (∀ a, A' = some a → a.block ≠ c ∧ a.block < wr.heap.size ∧ ∀ g, (Value.slice (some a') N k0).ownBlock = some g → g ≠ a.block) := Lib.hid (fun a ha => by
              rw [hblk a ha]
              refine ⟨fun e => (HCk.out.offC r0 hr0).1 (by rw [hr1, e]), HCk.out.old r0 hr0 _ hr1, fun g hg e => (HCk.out.offC r0 hr0).2 g hg (by rw [hr1, e])⟩)
            have Hset := Lib.hid (fun q => CurAt.set (w := wr.drewN q) (HCk.out.below (below_dr (Below.refl _ _) q)) Hr.out.2.1 hlt (by omega : m1 - 1 ≤ c1 - 1) (by omega) (hpart.belowOf (below_dr (Below.refl _ _) q) (Nat.le_refl _)) Hho.out)
            have Hn : Hid (StepInv chk.data.toList Ls rs N (k + 1) (rk.set k (.slice A' (m1 - 1) (c1 - 1), t1))) := Lib.hid (by
              refine ⟨?_, by rw [List.length_set]; exact Hr.out.2.1, fun r' hr' g hg => ?_⟩
              · have e1 : crLists (rk.set k (.slice A' (m1 - 1) (c1 - 1), t1)) = (crLists rk).set k t1 := by simp [crLists, List.map_set]
                have e2 : dropK chk.data.toList (y :: t1) = t1 := (dropK_cons _ _ _).trans (if_pos hkey)
                have e3 := set_left (f := dropK chk.data.toList) Hg.out
                rw [e2] at e3
                rw [e1, Hr.out.1, e3]
              · rcases List.mem_or_eq_of_mem_set hr' with hr' | rfl
                · exact Hr.out.2.2 r' hr' g hg
                · cases A' with
                  | none => cases hg
                  | some a =>
                    injection hg with hg
                    rw [← hg, hblk a rfl]
                    exact Hr.out.2.2 r0 hr0 _ hr1)
            obtain ⟨g, hga, ⟨o, hst⟩, hfz, -, -⟩ := Hset.out 0
            injection hga with hga
            subst hga
            have hst1 : wr.cell? ⟨g, k, none⟩ = some o := hst
            have hfz1 : wr.frozen? ⟨g, k, none⟩ = false := hfz
            rw [add0] at d0
            have hgw : g < w.heap.size := Hlt.out.2.1 g rfl
            clear hll hy ea h3 hst hfz hpart hblk hcell h1 h2 Hho hr0 hr1
            by_cases hc1 : c1 = 1
            · have hA2 : A' = some a1 := (by rw [← hA]; exact if_pos hc1)
              subst hA2
              clear hA
              go_wp2
              go_quiet (fail)
              go_wp2
              go_region
              all_goals
                obtain ⟨g', e', -, -, hcur, hfr⟩ := Hset.out (nq + 1)
                injection e' with e'
                injection e' with e'
                subst e'
                have HE := Lib.hid (And.intro hcur (And.intro (HX.out.1.below (below_dr (Below.refl _ _) (nq + 1)) HX.out.1.lt |>.frm hfr (fun e => by have h8 := HX.out.1.lt; omega)) (And.intro (HX.out.2.1.below (below_dr (Below.refl _ _) (nq + 1)) HX.out.2.1.lt |>.frm hfr (fun e => by omega)) ((HX.out.2.2.then (below_dr (Below.refl _ _) (nq + 1))).trans hfr fun j hj => .inl (by rw [hj]; rfl)))))
                clear hcur hfr Hset hst1 hfz1
                subst hc1
                go_wp2
                refine ⟨⟨_, _, _, ⟨k + 1, by omega, by go_num, _, HE.out.1, Hn, HE.out.2.1, HE.out.2.2.1, HE.out.2.2.2⟩, rfl, rfl, rfl⟩, by simp [intOf]; omega⟩
            · have hA2 : A' = some ⟨a1.block, a1.off + 3, none⟩ := (by rw [← hA, if_neg hc1]; simp [Addr.add])
              subst hA2
              clear hA
              go_wp2
              go_quiet (fail)
              go_wp2
              go_region
              all_goals
                obtain ⟨g', e', -, -, hcur, hfr⟩ := Hset.out (nq + 1)
                injection e' with e'
                injection e' with e'
                subst e'
                have HE := Lib.hid (And.intro hcur (And.intro (HX.out.1.below (below_dr (Below.refl _ _) (nq + 1)) HX.out.1.lt |>.frm hfr (fun e => by have h8 := HX.out.1.lt; omega)) (And.intro (HX.out.2.1.below (below_dr (Below.refl _ _) (nq + 1)) HX.out.2.1.lt |>.frm hfr (fun e => by omega)) ((HX.out.2.2.then (below_dr (Below.refl _ _) (nq + 1))).trans hfr fun j hj => .inl (by rw [hj]; rfl)))))
                clear hcur hfr Hset hst1 hfz1
                go_wp2
                refine ⟨⟨_, _, _, ⟨k + 1, by omega, by go_num, _, HE.out.1, Hn, HE.out.2.1, HE.out.2.2.1, HE.out.2.2.2⟩, rfl, rfl, rfl⟩, by simp [intOf]; omega⟩
          · have hke : (y.k.toList == chk.toList) = false := by rw [eq_toList]; exact decide_eq_false hkey
            have Hn : Hid (StepInv chk.data.toList Ls rs N (k + 1) rk) := Lib.hid (And.intro (Hr.out.1.trans (set_same Hg.out ((dropK_cons _ _ _).trans (if_neg hkey)))) Hr.out.2)
            clear hll hy ea h1 h2 h3 hkey hb0
            go_wp2
            go_quiet (fail)
            go_wp2
            go_roundw
            case rel => exact ⟨k + 1, rk, by omega, by go_num, HCk.out.below (below_dr (Below.refl _ _) _), Hn, HX.out.1.below (below_dr (Below.refl _ _) _) HX.out.1.lt, HX.out.2.1.below (below_dr (Below.refl _ _) _) HX.out.2.1.lt, HX.out.2.2.then (below_dr (Below.refl _ _) _)⟩
            case measure => simp [intOf]; omega
      · obtain rfl : k = N := by omega
        have q1 := HX.out.1.cell 1
        have q2 := HX.out.1.cell 2
        obtain ⟨⟨z0, z1, z2⟩, g0, g1, g2⟩ : (wr.cell? ⟨w.heap.size, 0, none⟩ = some (.string ⟨#[]⟩) ∧ wr.cell? ⟨w.heap.size, 1, none⟩ = some (.string ⟨#[]⟩) ∧ wr.cell? ⟨w.heap.size, 2, none⟩ = some (.bool false)) ∧ wr.frozen? ⟨w.heap.size, 0, none⟩ = false ∧ wr.frozen? ⟨w.heap.size, 1, none⟩ = false ∧ wr.frozen? ⟨w.heap.size, 2, none⟩ = false := by
          have hz := HX.out.2.1
          exact ⟨⟨hz.cell 0, hz.cell 1, hz.cell 2⟩, hz.frozen 0, hz.frozen 1, hz.frozen 2⟩
        have hp := box_store (x' := .string chk) (y' := .string chv) (z' := .bool chg) z0 z1 z2
        have hF : Frm (fun j => j = w.heap.size) wr (((wr.setCell ⟨w.heap.size, 0, none⟩ (.string chk)).setCell ⟨w.heap.size, 1, none⟩ (.string chv)).setCell ⟨w.heap.size, 2, none⟩ (.bool chg)) :=
          Frm.set (S := fun j => j = w.heap.size) (Frm.set (S := fun j => j = w.heap.size) (Frm.set (S := fun j => j = w.heap.size) (Frm.refl _ _) (.inl rfl) _) (.inl rfl) _) (.inl rfl) _
        have HcE := Lib.hid (HCk.out.frm hF (fun e => by have := Hlt.out.1; omega) (fun g hg e => by have := Hlt.out.2.1 g hg; omega) (fun r hr g hg e => by obtain ⟨r0, g3, g4⟩ := Hr.out.2.2 r hr g hg; have := Hlt.out.2.2 r0 g3 g g4; omega))
        have HfE := Lib.hid (HX.out.2.2.trans hF fun j hj => .inr (by omega))
        obtain ⟨W3, hW3⟩ : ∃ W3, ((wr.setCell ⟨w.heap.size, 0, none⟩ (.string chk)).setCell ⟨w.heap.size, 1, none⟩ (.string chv)).setCell ⟨w.heap.size, 2, none⟩ (.bool chg) = W3 := ⟨_, rfl⟩
        rw [hW3] at hp HcE HfE
        obtain ⟨p0, p1, p2⟩ := hp
        have HrE : Hid (crLists rk = Ls.map (dropK chk.data.toList)) := Lib.hid (by rw [Hr.out.1, List.take_of_length_le (by rw [HLn.out]; omega), List.drop_of_length_le (by rw [HLn.out]; omega), List.append_nil])
        clear hF hb0
        go_wp2
        refine bodyPost_ret (v := .tuple #[.agg #[.string chk, .string chv, .bool chg], .bool true]) ?_ rfl ⟨HfE.out, .inr ⟨i, ⟨chk, chv, chg⟩, rk, rfl, Hla.out, by rw [HN.out]; exact HcE.out, by rw [HrE.out, HLs.out]; rfl, Hr.out.2.2⟩⟩
        simp [results, Try.results63, go_sem, p0, p1, p2]
end Go.Proofs.Yteioopcacpihpaa

namespace Go.Proofs.Yteioopcacpihpaa
open Go.RowKit
open Go.Lib (strCells compareBytes)

theorem dropK_len (k : List UInt8) (l : List Chg) : (dropK k l).length ≤ l.length := by
  cases l with
  | nil => exact Nat.le_refl _
  | cons d t =>
    rw [dropK_cons]
    split
    · exact Nat.le_succ _
    · exact Nat.le_refl _
theorem sumL_dropK (k : List UInt8) : ∀ Ls : List (List Chg), sumL (Ls.map (dropK k)) ≤ sumL Ls
  | [] => Nat.le_refl _
  | l :: Ls => by
    rw [List.map_cons, sumL_cons, sumL_cons]
    have := sumL_dropK k Ls
    have := dropK_len k l
    omega
theorem sumL_step {c : Chg} : ∀ {Ls : List (List Chg)} {i : Nat}, (∃ t, Ls[i]? = some (c :: t)) → sumL (Ls.map (dropK c.kb)) < sumL Ls
  | [], i, h => by obtain ⟨t, h⟩ := h; simp at h
  | l :: Ls, 0, h => by
    obtain ⟨t, h⟩ := h
    simp at h
    subst h
    rw [List.map_cons, sumL_cons, sumL_cons, dropK_cons, if_pos rfl]
    have := sumL_dropK c.kb Ls
    simp
    omega
  | l :: Ls, i + 1, h => by
    rw [List.map_cons, sumL_cons, sumL_cons]
    have := sumL_step (c := c) (Ls := Ls) (i := i) (by simpa using h)
    have := dropK_len c.kb l
    omega
def lenV : Option Value → Nat
  | some (.slice _ m _) => m
  | _ => 0
/-- how many changes are left -/
def curLeft (v : Value) (w : World) : Nat :=
  match v with
  | .slice (some a) n _ => ((List.range n).map fun i => lenV (w.cell? (a.add i))).sum
  | _ => 0
theorem sumL_eq (L : List (List Chg)) : sumL L = (L.map List.length).sum := rfl
theorem curLeft_eq {w : World} {c : Nat} {v : Value} {rs : Crs} (h : CurAt w c v rs) : curLeft v w = sumL (crLists rs) := by
  obtain ⟨A, k, rfl, -, -, hx⟩ := h.crs
  cases A with
  | none =>
    cases rs with
    | nil => rfl
    | cons r rs =>
      obtain ⟨a, A1, m1, c1, l, ea, -⟩ := hx.at_ (i := 0) (by simp)
      cases ea
  | some a =>
    suffices e : ((List.range rs.length).map fun i => lenV (w.cell? (a.add i))) = (crLists rs).map List.length by
      show ((List.range rs.length).map fun i => lenV (w.cell? (a.add i))).sum = ((crLists rs).map List.length).sum
      rw [e]
    refine List.ext_getElem? fun i => ?_
    rw [List.getElem?_map, List.getElem?_map]
    rcases Nat.lt_or_ge i rs.length with hi | hi
    · obtain ⟨a', A1, m1, c1, l, ea, -, hg, -, -, h3, d0, -⟩ := hx.at_ hi
      injection ea with ea
      subst ea
      rw [List.getElem?_range hi, hg]
      simp only [Option.map_some, d0, lenV, h3.1]
    · rw [List.getElem?_eq_none (by simpa using hi), List.getElem?_eq_none (by rw [crLists_len]; exact hi)]
      rfl
end Go.Proofs.Yteioopcacpihpaa

namespace Go.Proofs.Yteioopcacpihpaa
open Go.RowKit
open Go.Lib (strCells compareBytes)

/-- what a cursor's lists are to be; they lie where those it began with lie -/
structure CurP (rs0 rs : Crs) : Prop where
  runs : ∀ r ∈ crLists rs, Run r
  small : ∀ r ∈ crLists rs, ∀ x ∈ r, x.k.size ≤ 4000 ∧ x.v.size ≤ 4000
  len : rs.length = rs0.length
  blocks : ∀ r' ∈ rs, ∀ g, r'.1.ownBlock = some g → ∃ r ∈ rs0, r.1.ownBlock = some g
theorem dropK_sub {k : List UInt8} {l : List Chg} {x : Chg} (h : x ∈ dropK k l) : x ∈ l := by
  cases l with
  | nil => exact h
  | cons d t =>
    rw [dropK_cons] at h
    split at h
    · exact List.mem_cons_of_mem _ h
    · exact h
theorem CurP.step {rs0 rs rs' : Crs} {k : List UInt8} (h : CurP rs0 rs) (e : crLists rs' = (crLists rs).map (dropK k)) (hb : ∀ r' ∈ rs', ∀ g, r'.1.ownBlock = some g → ∃ r ∈ rs, r.1.ownBlock = some g) : CurP rs0 rs' := by
  refine ⟨fun r hr => ?_, fun r hr x hx => ?_, ?_, fun r' hr' g hg => ?_⟩
  · rw [e] at hr
    obtain ⟨r0, h0, rfl⟩ := List.mem_map.1 hr
    exact run_dropK (h.runs r0 h0)
  · rw [e] at hr
    obtain ⟨r0, h0, rfl⟩ := List.mem_map.1 hr
    exact h.small r0 h0 x (dropK_sub hx)
  · have h1 := congrArg List.length e
    rw [List.length_map, crLists_len, crLists_len] at h1
    exact h1.trans h.len
  · obtain ⟨r, hr, h2⟩ := hb r' hr' g hg
    exact h.blocks r hr g h2
def NextPost (c : Nat) (v : Value) (rs0 rs : Crs) (w : World) (e : Ending) (w' : World) : Prop :=
  Frm (fun j => v.ownBlock = some j) w w' ∧ ∃ rs', CurAt w' c v rs' ∧ CurP rs0 rs' ∧
    ((e = .returned (.tuple #[.agg #[.string ⟨#[]⟩, .string ⟨#[]⟩], .bool false]) ∧ absL (crLists rs) = [] ∧ absL (crLists rs') = []) ∨
      ∃ x : Chg, e = .returned (.tuple #[.agg #[.string x.k, .string x.v], .bool true]) ∧ absL (crLists rs) = x :: absL (crLists rs'))
theorem set2p {W : World} {g : Nat} {t : TypeId} {x y : Value} (x' y' : Value) (h : Box W g t #[x, y]) : Box ((W.setCell ⟨g, 0, none⟩ x').setCell ⟨g, 1, none⟩ y') g t #[x', y'] := by
  have := (h.set_ 0 x').set_ 1 y'
  simpa using this
set_option maxRecDepth 100000 in
set_option maxHeartbeats 3200000 in
theorem next_any {w : World} {c : Nat} {v : Value} {rs0 rs : Crs} (h : CurAt w c v rs) (hp : CurP rs0 rs) (hN : rs0.length ≤ 100000) :
    Calls Try.prog 36 #[.pointer (some ⟨c, 0, none⟩)] w (NextPost c v rs0 rs w) := by
  have hb0 := below_box (w := w) (Obj.cells #[.string ⟨#[]⟩, .string ⟨#[]⟩] 59)
  have H0 := Lib.hid (h.below hb0)
  have HP := Lib.hid hp
  have Hlt := Lib.hid (And.intro h.box.lt (And.intro (fun g (hg : v.ownBlock = some g) => (h.row.lt g hg).2) h.old))
  have HB0 : Hid (Box (w.alloc (.cells #[.string ⟨#[]⟩, .string ⟨#[]⟩] 59)) w.heap.size 59 #[.string ⟨#[]⟩, .string ⟨#[]⟩] ∧ Frm (fun j => v.ownBlock = some j) w (w.alloc (.cells #[.string ⟨#[]⟩, .string ⟨#[]⟩] 59))) := Lib.hid ⟨Box.made _ _ _, Frm.of hb0⟩
  clear h hb0 hp
  go_enter Try.func36, Try.ntmps36
  go_wp2
  go_loopw [4, 5] (fun _ _ wr => ∃ rk : Crs, CurAt wr c v rk ∧ Hid (CurP rs0 rk ∧ absL (crLists rk) = absL (crLists rs) ∧ ∀ r' ∈ rk, ∀ g, r'.1.ownBlock = some g → ∃ r ∈ rs, r.1.ownBlock = some g) ∧ Box wr w.heap.size 59 #[.string ⟨#[]⟩, .string ⟨#[]⟩] ∧ Frm (fun j => v.ownBlock = some j) w wr) (fun _ _ wr => curLeft v wr)
  case atStart => exact ⟨rs, H0.out, Lib.hid ⟨HP.out, rfl, fun r hr g hg => ⟨r, hr, hg⟩⟩, HB0.out.1, HB0.out.2⟩
  case round =>
    obtain ⟨rk, hc, Hr, hbx, hf⟩ := hrel
    have HX := Lib.hid (And.intro hbx hf)
    have Hst := Lib.hid (step_any hc (by rw [Hr.out.1.len]; exact hN))
    have Hm := Lib.hid (curLeft_eq hc)
    clear hc hbx hf HB0 H0
    go_wp2_with fail
    refine Hst.out.mono ?_
    rintro e w5 ⟨hf5, ⟨rfl, hem, hc5⟩ | ⟨i, ch, r5, rfl, hla, hc5, hr5, hbl5⟩⟩
    · have HF5 : Hid (Frm (fun j => v.ownBlock = some j) w w5) := Lib.hid (HX.out.2.trans hf5 fun j hj => .inl hj)
      have hnew : w.heap.size ≤ wr.heap.size := HX.out.2.size
      have HB5 := (HX.out.1.frm hf5 (fun e => by have := Hlt.out.2.1 _ e; omega))
      have hsz5 := HB5.lt
      have hb6 : Below w5.heap.size w5 (w5.alloc (.cells #[.string ⟨#[]⟩, .string ⟨#[]⟩, .bool false] 38)) := below_box _
      have hB6 := HB5.below hb6 HB5.lt
      have z0 : (w5.alloc (.cells #[.string ⟨#[]⟩, .string ⟨#[]⟩, .bool false] 38)).cell? ⟨w.heap.size, 0, none⟩ = some (.string ⟨#[]⟩) := hB6.cell 0
      have z1 : (w5.alloc (.cells #[.string ⟨#[]⟩, .string ⟨#[]⟩, .bool false] 38)).cell? ⟨w.heap.size, 1, none⟩ = some (.string ⟨#[]⟩) := hB6.cell 1
      have g0 := hB6.frozen 0
      have g1 := hB6.frozen 1
      have y0 : w5.cell? ⟨w.heap.size, 0, none⟩ = some (.string ⟨#[]⟩) := HB5.cell 0
      have y1 : w5.cell? ⟨w.heap.size, 1, none⟩ = some (.string ⟨#[]⟩) := HB5.cell 1
      have x0 : w5.frozen? ⟨w.heap.size, 0, none⟩ = false := HB5.frozen 0
      have x1 : w5.frozen? ⟨w.heap.size, 1, none⟩ = false := HB5.frozen 1
      have hne : ¬ w.heap.size = w5.heap.size := by omega
      have hF : Frm (fun j => j = w.heap.size) w5 ((w5.setCell ⟨w.heap.size, 0, none⟩ (.string ⟨#[]⟩)).setCell ⟨w.heap.size, 1, none⟩ (.string ⟨#[]⟩)) :=
        Frm.set (S := fun j => j = w.heap.size) (Frm.set (S := fun j => j = w.heap.size) (Frm.refl _ _) (.inl rfl) _) (.inl rfl) _
      have hp0 := set2p (.string ⟨#[]⟩) (.string ⟨#[]⟩) HB5
      have hbz := below_box (w := ((w5.setCell ⟨w.heap.size, 0, none⟩ (.string ⟨#[]⟩)).setCell ⟨w.heap.size, 1, none⟩ (.string ⟨#[]⟩))) (Obj.cells #[.string ⟨#[]⟩, .string ⟨#[]⟩, .bool false] 38)
      have hp := hp0.below hbz hp0.lt
      have HcE := Lib.hid ((hc5.frm hF (fun e => by have := Hlt.out.1; omega) (fun g hg e => by have := Hlt.out.2.1 g hg; omega) (fun r hr g hg e => by obtain ⟨r0, g3, g4⟩ := Hr.out.2.2 r hr g hg; have := Hlt.out.2.2 r0 g3 g g4; omega)).below hbz)
      have HfE := Lib.hid ((HF5.out.trans hF fun j hj => .inr (by omega)).then hbz)
      obtain ⟨W3, hW3⟩ : ∃ W3, (((w5.setCell ⟨w.heap.size, 0, none⟩ (.string ⟨#[]⟩)).setCell ⟨w.heap.size, 1, none⟩ (.string ⟨#[]⟩)).alloc (.cells #[.string ⟨#[]⟩, .string ⟨#[]⟩, .bool false] 38)) = W3 := ⟨_, rfl⟩
      rw [hW3] at hp HcE HfE
      have p0 : W3.cell? ⟨w.heap.size, 0, none⟩ = some (.string ⟨#[]⟩) := hp.cell 0
      have p1 : W3.cell? ⟨w.heap.size, 1, none⟩ = some (.string ⟨#[]⟩) := hp.cell 1
      have Hab := Lib.hid (abs_none hem)
      clear hp0 hbz
      clear hf5 hc5 hem Hst hb6 hB6 hF hp HB5
      go_wp2
      refine bodyPost_ret (v := .tuple #[.agg #[.string ⟨#[]⟩, .string ⟨#[]⟩], .bool false]) ?_ rfl ⟨HfE.out, rk, HcE.out, Hr.out.1, .inl ⟨rfl, by rw [← Hr.out.2.1]; exact Hab.out, Hab.out⟩⟩
      simp [results, Try.results36, go_sem, p0, p1]
    · have hnew : w.heap.size ≤ wr.heap.size := HX.out.2.size
      have HF5 : Hid (Frm (fun j => v.ownBlock = some j) w w5) := Lib.hid (HX.out.2.trans hf5 fun j hj => .inl hj)
      have HB5 := Lib.hid (HX.out.1.frm hf5 (fun e => by have := Hlt.out.2.1 _ e; omega))
      have HC5 := Lib.hid hc5
      have HP5 := Lib.hid (Hr.out.1.step hr5 hbl5)
      have Hab := Lib.hid (abs_step Hr.out.1.runs hla)
      rw [← hr5, Hr.out.2.1] at Hab
      have Hles : Hid (sumL (crLists r5) < sumL (crLists rk)) := Lib.hid (by rw [hr5]; exact sumL_step hla.1)
      have Hbl : Hid (∀ r' ∈ r5, ∀ g, r'.1.ownBlock = some g → ∃ r ∈ rs, r.1.ownBlock = some g) := Lib.hid fun r' hr' g hg => by
        obtain ⟨r1, h1, h2⟩ := hbl5 r' hr' g hg
        exact Hr.out.2.2 r1 h1 g h2
      have Hsm : Hid (ch.k.size ≤ 4000 ∧ ch.v.size ≤ 4000) := Lib.hid (by
        obtain ⟨t, ht⟩ := hla.1
        exact Hr.out.1.small _ (List.mem_of_getElem? ht) ch (by simp))
      obtain ⟨chk, chv, chg⟩ := ch
      have hsk : chk.size ≤ 4000 := Hsm.out.1
      have hsv : chv.size ≤ 4000 := Hsm.out.2
      clear hf5 hla hc5 hr5 hbl5 Hst
      cases chg with
      | true =>
        go_wp2
        go_roundw
        case rel => exact ⟨r5, HC5.out.below (below_box _), Lib.hid ⟨HP5.out, by have h1 := Hab.out; simpa using h1.symm, Hbl.out⟩, HB5.out.below (below_box _) HB5.out.lt, HF5.out.then (below_box _)⟩
        case measure => rw [Hm.out, curLeft_eq (HC5.out.below (below_box _))]; exact Hles.out
      | false =>
        have hb6 : Below w5.heap.size w5 (w5.alloc (.cells #[.string chk, .string chv, .bool false] 38)) := below_box _
        have HB6 : Hid (Box (w5.alloc (.cells #[.string chk, .string chv, .bool false] 38)) w5.heap.size 38 #[.string chk, .string chv, .bool false]) := Lib.hid (Box.made _ _ _)
        have HB2 := Lib.hid (HB5.out.below hb6 HB5.out.lt)
        have Hb6 := Lib.hid hb6
        have a2 : (w5.alloc (.cells #[.string chk, .string chv, .bool false] 38)).cell? ⟨w5.heap.size, 2, none⟩ = some (.bool false) := HB6.out.cell 2
        have a0 : (w5.alloc (.cells #[.string chk, .string chv, .bool false] 38)).cell? ⟨w5.heap.size, 0, none⟩ = some (.string chk) := HB6.out.cell 0
        have a1 : (w5.alloc (.cells #[.string chk, .string chv, .bool false] 38)).cell? ⟨w5.heap.size, 1, none⟩ = some (.string chv) := HB6.out.cell 1
        clear hb6
        go_wp2
        go_region_with (first
          | (go_at_call 59; have hA0 := HA.out; refine (clone_any _ _ (by omega)).mono ?_; rintro e' wB ⟨rfl, hbB⟩; have HBB := Lib.hid (hA0.trans (hbB.mono hA0.size)); have hb2x := HB2.out.below HBB.out HB2.out.lt; have y0 : wB.cell? ⟨w.heap.size, 0, none⟩ = some (.string ⟨#[]⟩) := hb2x.cell 0; have y1 : wB.cell? ⟨w.heap.size, 1, none⟩ = some (.string ⟨#[]⟩) := hb2x.cell 1; have x0 : wB.frozen? ⟨w.heap.size, 0, none⟩ = false := hb2x.frozen 0; have x1 : wB.frozen? ⟨w.heap.size, 1, none⟩ = false := hb2x.frozen 1; have HX2 := Lib.hid hb2x; clear hbB hb2x)
          | (go_at_call 59; refine (clone_any _ _ (by omega)).mono ?_; rintro e' wA ⟨rfl, hbA⟩; have HA := Lib.hid ((Below.refl _ _).drew.trans hbA); have hbx := HB6.out.below HA.out HB6.out.lt; have q1 : wA.cell? ⟨w5.heap.size, 1, none⟩ = some (.string chv) := hbx.cell 1; clear hbA hbx))
        all_goals
          have hF : Frm (fun j => j = w.heap.size) wB ((wB.setCell ⟨w.heap.size, 0, none⟩ (.string chk)).setCell ⟨w.heap.size, 1, none⟩ (.string chv)) :=
            Frm.set (S := fun j => j = w.heap.size) (Frm.set (S := fun j => j = w.heap.size) (Frm.refl _ _) (.inl rfl) _) (.inl rfl) _
          have hp := set2p (.string chk) (.string chv) HX2.out
          have hbW := Hb6.out.trans (HBB.out.mono Hb6.out.size)
          have HcE := Lib.hid ((HC5.out.below hbW).frm hF (fun e => by have := Hlt.out.1; omega) (fun g hg e => by have := Hlt.out.2.1 g hg; omega) (fun r hr g hg e => by obtain ⟨r0, g3, g4⟩ := Hbl.out r hr g hg; have := Hlt.out.2.2 r0 g3 g g4; omega))
          have HfE := Lib.hid ((HF5.out.then hbW).trans hF fun j hj => .inr (by omega))
          obtain ⟨W3, hW3⟩ : ∃ W3, ((wB.setCell ⟨w.heap.size, 0, none⟩ (.string chk)).setCell ⟨w.heap.size, 1, none⟩ (.string chv)) = W3 := ⟨_, rfl⟩
          rw [hW3] at hp HcE HfE
          have p0 : W3.cell? ⟨w.heap.size, 0, none⟩ = some (.string chk) := hp.cell 0
          have p1 : W3.cell? ⟨w.heap.size, 1, none⟩ = some (.string chv) := hp.cell 1
          rw [hW3]
          clear hF hp hbW y0 y1 x0 x1
          go_wp2
          refine bodyPost_ret (v := .tuple #[.agg #[.string chk, .string chv], .bool true]) ?_ rfl ⟨HfE.out, r5, HcE.out, HP5.out, .inr ⟨⟨chk, chv, false⟩, rfl, by simpa using Hab.out⟩⟩
          simp [results, Try.results36, go_sem, p0, p1]
end Go.Proofs.Yteioopcacpihpaa

namespace Go.Proofs.Yteioopcacpihpaa
open Go.RowKit
open Go.Lib (strCells compareBytes)

def lenO : Value → Nat
  | .slice _ m _ => m
  | _ => 0
def RangePost (P : List Pr) (w : World) (e : Ending) (w' : World) : Prop := ∃ v', e = .returned v' ∧ OwnPrs w' w.heap.size v' P ∧ Below w.heap.size w w'
theorem pr_lit (W : World) (p : Pr) : Has (W.alloc (.cells #[.string p.1, .string p.2] 59)) (W.heap.size + 1) (some ⟨W.heap.size, 0, none⟩) (1 * 2) (prCells [p]) := Has.lit W #[.string p.1, .string p.2] 59
theorem pr_lit_at (W : World) (g : Nat) (hg : W.heap.size = g) (p : Pr) : Has (W.alloc (.cells #[.string p.1, .string p.2] 59)) (g + 1) (some ⟨g, 0, none⟩) (1 * 2) (prCells [p]) := by
  subst hg
  exact pr_lit W p
theorem prCells_one (l : List Pr) : ∀ u ∈ prCells l, u.oneCell' = true := by
  induction l with
  | nil => intro u hu; simp [prCells] at hu
  | cons v l ih =>
    intro u hu
    simp only [prCells, List.mem_cons] at hu
    rcases hu with rfl | rfl | h
    · rfl
    · rfl
    · exact ih u h
theorem over_runs {Ls : List (List Chg)} (h : ∀ r ∈ Ls, Run r) (hs : ∀ r ∈ Ls, ∀ x ∈ r, x.k.size ≤ 4000 ∧ x.v.size ≤ 4000) (lo hi : List UInt8) : (∀ r ∈ Ls.map (sliceL lo hi), Run r) ∧ ∀ r ∈ Ls.map (sliceL lo hi), ∀ x ∈ r, x.k.size ≤ 4000 ∧ x.v.size ≤ 4000 := by
  constructor
  · intro r hr
    obtain ⟨r0, h0, rfl⟩ := List.mem_map.1 hr
    have h1 := h r0 h0
    exact ⟨fun c hc => h1.1 c (List.mem_filter.1 hc).1, h1.2.sublist List.filter_sublist⟩
  · intro r hr x hx
    obtain ⟨r0, h0, rfl⟩ := List.mem_map.1 hr
    exact hs r0 h0 x (List.mem_filter.1 hx).1
/-- what is known of a cursor and of the pairs it has told so far, in a world behind w2 -/
structure RanI (w w2 : World) (c : Nat) (v : Value) (rs0 : Crs) (all : List Pr) (o : Value) (P : List Pr) (wr : World) : Prop where
  cur : ∃ rk, CurAt wr c v rk ∧ CurP rs0 rk ∧ P ++ (absL (crLists rk)).map prOf = all
  out : OwnPrs wr w2.heap.size o P
  size : w2.heap.size ≤ wr.heap.size
  below : Below w.heap.size w wr
/-- where a cursor's parts lie -/
structure CurOld (w w2 : World) (c : Nat) (v : Value) (rs0 : Crs) : Prop where
  c : c < w2.heap.size
  v : ∀ g, v.ownBlock = some g → g < w2.heap.size ∧ w.heap.size ≤ g
  r : ∀ r ∈ rs0, ∀ g, r.1.ownBlock = some g → g < w2.heap.size
theorem RanI.next {w w2 wr w5 : World} {c : Nat} {v o : Value} {rs0 rk : Crs} {P : List Pr} {e : Ending} (hO : CurOld w w2 c v rs0) (ho : OwnPrs wr w2.heap.size o P) (hs : w2.heap.size ≤ wr.heap.size) (hb : Below w.heap.size w wr) (hww : w.heap.size ≤ w2.heap.size) (h : NextPost c v rs0 rk wr e w5) :
    ∃ rk', CurP rs0 rk' ∧ (∀ t, OwnPrs (w5.alloc t) w2.heap.size o P ∧ w2.heap.size ≤ (w5.alloc t).heap.size ∧ Below w.heap.size w (w5.alloc t) ∧ CurAt (w5.alloc t) c v rk') ∧
      ((e = .returned (.tuple #[.agg #[.string ⟨#[]⟩, .string ⟨#[]⟩], .bool false]) ∧ absL (crLists rk) = []) ∨ ∃ x : Chg, e = .returned (.tuple #[.agg #[.string x.k, .string x.v], .bool true]) ∧ absL (crLists rk) = x :: absL (crLists rk')) := by
  obtain ⟨hf, rk', h1, h2, h3⟩ := h
  have ho5 : OwnPrs w5 w2.heap.size o P := by
    unfold OwnPrs at ho ⊢
    refine ⟨ho.1, ?_⟩
    rcases ho.2 with hn | ⟨g, cap, cur, hv, hB, hg, rest⟩
    · exact .inl hn
    · refine .inr ⟨g, cap, cur, hv, hB, ?_, rest⟩
      rw [hf.block g (Array.getElem?_eq_some_iff.1 hg).1 (fun e1 => by have := (hO.v g e1).1; omega)]
      exact hg
  refine ⟨rk', h2, fun t => ?_, ?_⟩
  · have hal : Below w5.heap.size w5 (w5.alloc t) := below_box _
    refine ⟨ho5.below hal, by have := hf.size; simp only [World.size_alloc]; omega, ?_, h1.below hal⟩
    have hb5 : Below w.heap.size wr w5 := hf.below (fun i hi => (hO.v i hi).2) (by omega)
    exact (hb.trans hb5).alloc (by have := hf.size; omega) _
  · rcases h3 with ⟨e1, e2, -⟩ | ⟨x, e1, e2⟩
    · exact .inl ⟨e1, e2⟩
    · exact .inr ⟨x, e1, e2⟩
theorem RanI.app {w w2 W w7 : World} {c : Nat} {v o : Value} {rs0 rk : Crs} {P : List Pr} {t : Obj} (hO : CurOld w w2 c v rs0) (hc : CurAt W c v rk) (hp : CurP rs0 rk) (ho : OwnPrs W w2.heap.size o P) (hs : w2.heap.size ≤ W.heap.size) (hww : w.heap.size ≤ w2.heap.size) (hb : Below w.heap.size w W)
    (g7 : (W.alloc t).grownBy w7 o.ownBlock) : CurAt w7 c v rk ∧ w2.heap.size ≤ w7.heap.size ∧ Below w.heap.size w w7 := by
  have hal : Below W.heap.size W (W.alloc t) := below_box _
  have hlt : ∀ g, o.ownBlock = some g → w2.heap.size ≤ g := fun g hg => (ho.lt g hg).1
  refine ⟨(hc.below hal).frm (Frm.grown g7) (fun e => by have := hlt _ e; have := hO.c; omega) (fun g hg e => by have := hlt _ e; have := (hO.v g hg).1; omega) (fun r hr g hg e => by
    obtain ⟨r0, h0, h2⟩ := hp.blocks r hr g hg
    have := hlt _ e
    have := hO.r r0 h0 g h2
    omega), by have := g7.size; simp only [World.size_alloc] at this; omega, (hb.alloc (by omega) _).grown g7 (by simp only [World.size_alloc]; omega) fun g hg => by have := hlt _ hg; omega⟩
set_option maxRecDepth 100000 in
set_option maxHeartbeats 6400000 in
theorem engRange_any {w : World} {e H : Nat} {lim pairs : Int} {tv rv : Value} {T : List Chg} {rs : Crs} (h : EngAt w e lim pairs tv rv T rs) (hp : EngP H lim pairs T (crLists rs)) (hH : H ≤ 9000) (lo hi : ByteArray) (k : Int) :
    Calls Try.prog 31 #[.pointer (some ⟨e, 0, none⟩), .agg #[.string lo, .string hi], .int .i64 k] w (RangePost (((sliceL lo.data.toList hi.data.toList (absL (T :: crLists rs))).map prOf).take k.toNat) w) := by
  have hb0 := below_box (w := w) (Obj.cells #[.string lo, .string hi] 35)
  have Hov := Lib.hid (over_any (h.below hb0) hp hH lo hi)
  have Hb0 := Lib.hid hb0
  have hor := over_runs hp.runs hp.small lo.data.toList hi.data.toList
  have hab := abs_slice hp.runs lo.data.toList hi.data.toList
  have hcnt : (T :: crLists rs).length ≤ 9001 := by have := hp.count; simp only [List.length_cons]; omega
  have htot : (absL (T :: crLists rs)).length ≤ 9000 := by
    have h1 := hp.total
    have h2 : (absL (T :: crLists rs)).length ≤ (mergeL (T :: crLists rs)).length := live_len _
    have h3 := len_mergeS (T :: crLists rs)
    omega
  have hall : ((sliceL lo.data.toList hi.data.toList (absL (T :: crLists rs))).map prOf).length ≤ 9000 := by
    rw [List.length_map]; exact Nat.le_trans (List.length_filter_le _ _) htot
  obtain ⟨all, hal⟩ : ∃ all, (sliceL lo.data.toList hi.data.toList (absL (T :: crLists rs))).map prOf = all := ⟨_, rfl⟩
  rw [hal] at hall ⊢
  have HA := Lib.hid (And.intro hor (And.intro hab (And.intro hcnt (And.intro hal hall))))
  clear h hp hb0 hor hab hcnt htot hall hal
  go_enter Try.func31, Try.ntmps31
  go_wp2_with fail
  refine Hov.out.mono ?_
  rintro e' w2 ⟨c, v, rk0, rfl, hc, hrk, -, hwc, hwv, hb2⟩
  have Hbw2 : Hid (Below w.heap.size w w2) := Lib.hid (Hb0.out.trans (hb2.mono (by simp)))
  have hww := Hbw2.out.size
  have HO : Hid (CurOld w w2 c v rk0) := Lib.hid ⟨hc.box.lt, fun g hg => ⟨(hc.row.lt g hg).2, by have := hwv g hg; simp at this; omega⟩, fun r hr g hg => hc.old r hr g hg⟩
  have HN : Hid (rk0.length ≤ 100000) := Lib.hid (by
    have h1 := congrArg List.length hrk
    rw [crLists_len, List.length_map] at h1
    have := HA.out.2.2.1
    omega)
  have HI0 : Hid (RanI w w2 c v rk0 all (.slice none 0 0) [] w2) := Lib.hid ⟨⟨rk0, hc, ⟨by rw [hrk]; exact HA.out.1.1, by rw [hrk]; exact HA.out.1.2, rfl, fun r hr g hg => ⟨r, hr, hg⟩⟩, by rw [hrk, List.nil_append, HA.out.2.1]; exact HA.out.2.2.2.1⟩, World.ownsRow_nil _ _ _ _, Nat.le_refl _, Hbw2.out⟩
  clear hc hrk hwc hwv hb2
  go_wp2
  go_loopw [7, 9, 10] (fun o _ _ wr => ∃ P : List Pr, Hid (RanI w w2 c v rk0 all o P wr) ∧ P.length ≤ k.toNat) (fun o _ _ _ => (k - (lenO o : Int)).toNat)
  case atStart => exact ⟨[], HI0, Nat.zero_le _⟩
  case round =>
    obtain ⟨P, HI, hPk⟩ := hrel
    obtain ⟨rk, hc, hcp, hPa⟩ := HI.out.cur
    obtain ⟨Ao, co, rfl, -, -, -⟩ := HI.out.out.slice
    obtain ⟨N, hN⟩ : ∃ N, P.length = N := ⟨_, rfl⟩
    have hN9 : N ≤ 9000 := by
      have h1 := congrArg List.length hPa
      rw [List.length_append] at h1
      have := HA.out.2.2.2.2
      omega
    have Hnx := Lib.hid (next_any hc hcp HN.out)
    have Ho := Lib.hid HI.out.out
    have HPa := Lib.hid (And.intro hPa hN)
    rw [hN] at hPk Ho ⊢
    have hs2 := HI.out.size
    clear hc hcp hPa hN HI0
    by_cases hlt : (N : Int) < k
    · have hd : decide ((N : Int) < k) = true := decide_eq_true hlt
      go_wp2_with fail
      refine Hnx.out.mono ?_
      rintro e' w5 hnp
      obtain ⟨rk', hp', hX, hcase⟩ := RanI.next HO.out Ho.out hs2 HI.out.below hww hnp
      have HX := Lib.hid (And.intro hX hp')
      clear hnp hX hp'
      rcases hcase with ⟨rfl, hem⟩ | ⟨x, rfl, hcs'⟩
      · have HE : Hid (all.take k.toNat = P ∧ OwnPrs (w5.alloc (.cells #[.string ⟨#[]⟩, .string ⟨#[]⟩] 59)) w2.heap.size (.slice Ao N co) P ∧ Below w.heap.size w (w5.alloc (.cells #[.string ⟨#[]⟩, .string ⟨#[]⟩] 59))) := Lib.hid (by
          have h1 := HX.out.1 (.cells #[.string ⟨#[]⟩, .string ⟨#[]⟩] 59)
          refine ⟨?_, h1.1, h1.2.2.1⟩
          have h2 := HPa.out.1
          rw [hem, List.map_nil, List.append_nil] at h2
          rw [← h2]
          exact List.take_of_length_le (by have := HPa.out.2; omega))
        clear hem HX Hnx
        go_wp2
        go_ret
        exact ⟨_, rfl, by rw [HE.out.1]; exact own_baseN HE.out.2.1 hww, HE.out.2.2⟩
      · obtain ⟨h1, h2, h3, hc'⟩ := HX.out.1 (.cells #[.string x.k, .string x.v] 59)
        have hp' := HX.out.2
        have H6 := Lib.hid (And.intro h1 (And.intro h2 (And.intro h3 (And.intro hc' hp'))))
        have HP7 : Hid ((P ++ [prOf x]) ++ (absL (crLists rk')).map prOf = all ∧ (P ++ [prOf x]).length = N + 1) := Lib.hid ⟨by rw [← HPa.out.1, hcs', List.map_cons, List.append_assoc]; rfl, by rw [List.length_append, HPa.out.2]; rfl⟩
        have Hpx : Hid (prOf x = (x.k, x.v)) := Lib.hid rfl
        obtain ⟨xk, xv, xg⟩ := x
        simp only at H6
        have hs6 : w2.heap.size ≤ (w5.alloc (.cells #[.string xk, .string xv] 59)).heap.size := H6.out.2.1
        have Ho6 : Hid ((w5.alloc (.cells #[.string xk, .string xv] 59)).ownsRow w2.heap.size 59 2 (.slice Ao N co) N (prCells P)) := Lib.hid (by have := H6.out.1; unfold OwnPrs at this; rw [HPa.out.2] at this; exact this)
        clear hcs' h1 h2 h3 hc' hp' HX Hnx
        go_wp2_with (at_builtin; refine wpList_append_hasN rfl (.tmp 25) (.tmp 27) _ rfl 59 pr_elem (by omega) Try.underlying50 rfl (own_belowN Ho6.out (below_box _)) rfl (pr_lit_at (w5.alloc (.cells #[.string xk, .string xv] 59)) (w5.heap.size + 1) (by simp only [World.size_alloc]) (xk, xv)) (prCells_one _) (by simp only [maxLen]; omega) (by omega) (le_alloc hs6 _) ?_; intro v7 w7 o7 g7 z7; have HG7 := Lib.hid (And.intro o7 g7); clear o7 g7 z7)
        have HE7 := Lib.hid (And.intro HG7.out.1 (RanI.app HO.out H6.out.2.2.2.1 H6.out.2.2.2.2 H6.out.1 hs6 hww H6.out.2.2.1 HG7.out.2))
        have HF7 : Hid (RanI w w2 c v rk0 all v7 (P ++ [prOf ⟨xk, xv, xg⟩]) w7) := Lib.hid ⟨⟨rk', HE7.out.2.1, H6.out.2.2.2.2, HP7.out.1⟩, by unfold OwnPrs; rw [HP7.out.2, prCells_app]; exact HE7.out.1, HE7.out.2.2.1, HE7.out.2.2.2⟩
        have HK7 : (P ++ [prOf ⟨xk, xv, xg⟩]).length ≤ k.toNat := by rw [HP7.out.2]; omega
        have hlen7 : lenO v7 = N + 1 := by
          obtain ⟨A7, c7, rfl, -, -, -⟩ := HF7.out.out.slice
          show (P ++ [prOf ⟨xk, xv, xg⟩]).length = N + 1
          exact HP7.out.2
        go_roundw
        case rel => exact ⟨P ++ [prOf ⟨xk, xv, xg⟩], HF7, HK7⟩
        case measure =>
          simp only [hlen7]
          show (k - ((N + 1 : Nat) : Int)).toNat < (k - (N : Int)).toNat
          omega
    · have hd : decide ((N : Int) < k) = false := decide_eq_false hlt
      have HE : Hid (all.take k.toNat = P) := Lib.hid (by
        rw [← HPa.out.1]
        have : k.toNat = P.length := by have := HPa.out.2; omega
        rw [this, List.take_left])
      go_wp2
      go_ret
      exact ⟨_, rfl, by rw [HE.out]; exact own_baseN (by have := Ho.out; unfold OwnPrs at this; exact this) hww, HI.out.below⟩

end Go.Proofs.Yteioopcacpihpaa
