/- Batches put to an engine and to a map of the document's; are batches light. Condition: in memory. -/
import Derived.Deep.RegionHeld3
import Derived.Test.YteioopcacpihpaaMBchD
import Derived.Test.YteioopcacpihpaaMBchA
namespace Go.Proofs.Yteioopcacpihpaa
open Go

section
variable {P : Program} {ops : Array Oper} {Q : Exit → Act → World → Prop} {md : Region.Mode} {S S' : World → Prop}

/-- a condition that says more serves too -/
theorem held_more (h : ∀ w, S' w → S w) : ∀ (fuel : Nat) (listed : Array Bool) (a : Act) (w : World), wpAnyH P md ops Q S' fuel listed a w → wpAnyH P md ops Q S fuel listed a w
  | 0, _, _, _, hw => hw
  | fuel + 1, _, _, _, hw => ⟨hw.1, fun i hi => wpOp_mono (fun a' w' h' => ⟨h w' h'.1, held_more h fuel _ a' w' h'.2⟩) (hw.2 i hi)⟩
end

end Go.Proofs.Yteioopcacpihpaa

namespace Go.Proofs.Yteioopcacpihpaa
open Go.RowKit
open Go.Lib (strCells compareBytes)

/-- a map of the document's in memory: block b holds its row, which the call's own side has made -/
structure MapAt (w : World) (b : Nat) (mv : Value) (M : List Chg) : Prop where
  box : Box w b 44 #[mv]
  row : OwnChs w 0 mv M
  off : mv.ownBlock ≠ some b
theorem MapAt.frm {S : Nat → Prop} {w w1 : World} {b : Nat} {mv : Value} {M : List Chg} (h : MapAt w b mv M) (hf : Frm S w w1) (hb : ¬ S b) (hm : ∀ g, mv.ownBlock = some g → ¬ S g) : MapAt w1 b mv M :=
  ⟨h.box.frm hf hb, h.row.frm hf hm, h.off⟩
theorem MapAt.below {w w1 : World} {b : Nat} {mv : Value} {M : List Chg} (h : MapAt w b mv M) (hb : Below w.heap.size w w1) : MapAt w1 b mv M := ⟨h.box.below hb h.box.lt, h.row.below hb, h.off⟩
theorem mapP_split (c : Chg) : ∀ (M : List Chg) (k : Nat), k ≤ M.length → (∀ y ∈ M.take k, y.kb < c.kb) → (∀ y, M[k]? = some y → ¬ y.kb < c.kb) →
    mapP c M = M.take k ++ (if c.g then [] else [c]) ++ M.drop (if (∃ y, M[k]? = some y ∧ y.kb = c.kb) then k + 1 else k)
  | [], 0, _, _, _ => by unfold mapP; cases c.g <;> simp
  | y :: M, 0, _, _, h => by
    have h1 := h y rfl
    unfold mapP
    rw [if_neg h1]
    by_cases e : y.kb = c.kb
    · have e2 : ∃ z, (y :: M)[0]? = some z ∧ z.kb = c.kb := ⟨y, rfl, e⟩
      rw [if_pos e, if_pos e2]; cases c.g <;> simp
    · have e2 : ¬ ∃ z, (y :: M)[0]? = some z ∧ z.kb = c.kb := fun ⟨z, hz, hz2⟩ => e (by simp at hz; subst hz; exact hz2)
      rw [if_neg e, if_neg e2]; cases c.g <;> simp
  | y :: M, k + 1, hk, h1, h2 => by
    unfold mapP
    rw [if_pos (h1 y (by simp)), mapP_split c M k (by simpa using hk) (fun x hx => h1 x (by simp [hx])) (fun x hx => h2 x (by simpa using hx))]
    simp only [List.getElem?_cons_succ, List.take_succ_cons, List.cons_append]
    by_cases e : ∃ y, M[k]? = some y ∧ y.kb = c.kb
    · rw [if_pos e, if_pos e]; rfl
    · rw [if_neg e, if_neg e]; rfl
  | [], k + 1, hk, _, _ => by simp at hk
theorem mapP_len (c : Chg) : ∀ (M : List Chg), (mapP c M).length ≤ M.length + 1
  | [] => by unfold mapP; split <;> simp
  | y :: M => by
    have := mapP_len c M
    unfold mapP
    split
    · simp; omega
    · split <;> split <;> (simp; try omega)
theorem mapAll_len (l M : List Chg) : (mapAll l M).length ≤ M.length + l.length := by
  induction l generalizing M with
  | nil => simp [mapAll]
  | cons c l ih =>
    have h1 := ih (mapP c M)
    have h2 := mapP_len c M
    show (mapAll l (mapP c M)).length ≤ _
    simp only [List.length_cons]
    omega
def MapPut (b : Nat) (mv : Value) (M : List Chg) (w : World) (e : Ending) (w' : World) : Prop :=
  e = .returned (.tuple #[]) ∧ ∃ mv', MapAt w' b mv' M ∧ Frm (fun i => i = b) w w' ∧ ∀ g, mv'.ownBlock = some g → mv.ownBlock = some g ∨ w.heap.size ≤ g
theorem Below.of_frm {w w1 : World} {b : Nat} (h : Frm (fun i => i = b) w w1) {B : Nat} (hB : B ≤ b) (hw : B ≤ w.heap.size) : Below B w w1 := h.below (fun _ e => e ▸ hB) hw
theorem map_store {wo w7 : World} {b m : Nat} {mv v7 : Value} {L : List Chg} (hbx : Box wo b 44 #[mv]) (hb : Below wo.heap.size wo w7) (ho : w7.ownsRow wo.heap.size 38 3 v7 m (chgCells L)) (hm : L.length = m) :
    MapAt (w7.setCell ⟨b, 0, none⟩ v7) b v7 L ∧ Frm (fun i => i = b) wo (w7.setCell ⟨b, 0, none⟩ v7) ∧ ∀ g, v7.ownBlock = some g → wo.heap.size ≤ g := by
  have h1 : ∀ g, v7.ownBlock = some g → wo.heap.size ≤ g := fun g hg => (ho.lt g hg).1
  have hbl := hbx.lt
  have hf : Frm (fun i => i = b) w7 (w7.setCell ⟨b, 0, none⟩ v7) := Frm.set (S := fun i => i = b) (Frm.refl _ _) (.inl rfl) _
  refine ⟨⟨?_, ?_, fun e => by have := h1 _ e; omega⟩, Frm.trans (Frm.of (S := fun i => i = b) hb) hf (fun _ h => .inl h), h1⟩
  · have := (hbx.below hb hbl).set_ 0 v7
    simpa using this
  · have h2 : OwnChs w7 wo.heap.size v7 L := by unfold OwnChs; rw [hm]; exact ho
    exact own_baseN (h2.frm hf fun g hg e => by have := h1 g hg; omega) (Nat.zero_le _)
theorem chs_at {w w1 : World} {B n : Nat} {a : Addr} {l : List Chg} (h : HasChs w B (some a) n l) (hb : Below B w w1) {i : Nat} (hi : i < n) {x : Chg} (hx : l[i]? = some x) :
    w1.cell? (a.add (i * 3)) = some (.string x.k) ∧ w1.cell? ⟨(a.add (i * 3)).block, (a.add (i * 3)).off + 1, none⟩ = some (.string x.v) ∧ w1.cell? ⟨(a.add (i * 3)).block, (a.add (i * 3)).off + 2, none⟩ = some (.bool x.g) := by
  obtain ⟨a', y, e, -, hy, c0, c1, c2⟩ := (h.below hb).at_ hi
  injection e with e
  subst e
  rw [hx] at hy
  injection hy with hy
  subst hy
  exact ⟨c0, c1, c2⟩

set_option maxRecDepth 100000 in
set_option maxHeartbeats 12800000 in
theorem mapPut_any {w : World} {b : Nat} {mv : Value} {M : List Chg} (h : MapAt w b mv M) (A : Option Addr) (n ca : Nat) (l : List Chg) (hx : HasChs w w.heap.size A n l) (hA : n ≠ 0 → ∀ a, A = some a → a.block ≠ b) (hn : n ≤ 1000) (hMn : M.length ≤ 5000) :
    Calls Try.prog 24 #[.pointer (some ⟨b, 0, none⟩), .slice A n ca] w (MapPut b mv (mapAll l M) w) := by
  have H0 := Lib.hid h
  have HX := Lib.hid (fun wx (hf : Frm (fun i => i = b) w wx) => chs_frm0 hx hf hA)
  have Hl := Lib.hid hx.1
  have HA := Lib.hid hA
  have HMn := Lib.hid hMn
  clear h hx hA hMn
  go_enter Try.func24, Try.ntmps24
  go_wp2
  go_loopw [4, 5, 6] (fun iv _ _ wr => ∃ i : Nat, i ≤ n ∧ iv = .int .i64 (i : Int) ∧ (∃ mv', Hid (MapAt wr b mv' (mapAll (l.take i) M) ∧ ∀ g, mv'.ownBlock = some g → mv.ownBlock = some g ∨ w.heap.size ≤ g)) ∧ Frm (fun j => j = b) w wr) (fun iv _ _ _ => n - (intOf iv).toNat)
  case atStart => exact ⟨0, by omega, rfl, ⟨mv, Lib.hid ⟨H0.out, fun g hg => .inl hg⟩⟩, Frm.refl _ _⟩
  case round =>
    obtain ⟨i, hi, rfl, ⟨mo, Hm⟩, hf⟩ := hrel
    have HF := Lib.hid hf
    have Xr := Lib.hid (HX.out wr hf)
    have hszw := hf.size
    generalize wr = wo at *
    by_cases hlt : i < n
    · obtain ⟨a, y, rfl, hab, hy, -, -, -⟩ := Xr.out.at_ hlt
      have Hy := Lib.hid hy
      have Hmx := Lib.hid (mapAll_take (M := M) hy)
      obtain ⟨L, hL⟩ : ∃ L, mapAll (l.take i) M = L := ⟨_, rfl⟩
      rw [hL] at Hm Hmx
      have hLn : L.length ≤ 6000 := by
        have h1 := mapAll_len (l.take i) M
        rw [hL, List.length_take] at h1
        have := HMn.out
        omega
      obtain ⟨N, hN⟩ : ∃ N, L.length = N := ⟨_, rfl⟩
      have HN := Lib.hid hN
      obtain ⟨Am, cm, rfl, hcm, -, hxm⟩ := Hm.out.1.row.slice
      have Hbx := Lib.hid Hm.out.1.box
      have hbl := Hm.out.1.box.lt
      rw [hN] at hLn hcm hxm Hbx
      have Xm := Lib.hid hxm
      have hN6 : N ≤ 6000 := hLn
      have hi0 : (0 : Int) ≤ (i : Int) := by omega
      have hi1 : (i : Int) < (n : Int) := by omega
      obtain ⟨ck, cv, cg⟩ := y
      have HC : Hid (∀ wx, Below wo.heap.size wo wx → (wx.cell? (a.add (i * 3)) = some (.string ck) ∧ wx.cell? ⟨(a.add (i * 3)).block, (a.add (i * 3)).off + 1, none⟩ = some (.string cv) ∧ wx.cell? ⟨(a.add (i * 3)).block, (a.add (i * 3)).off + 2, none⟩ = some (.bool cg)) ∧ wx.cell? ⟨b, 0, none⟩ = some (.slice Am N cm) ∧ wx.frozen? ⟨b, 0, none⟩ = false) := Lib.hid fun wx hb => by
        have h1 := chs_at (Xr.out) hb hlt Hy.out
        have h2 := Hbx.out.below hb hbl
        exact ⟨h1, h2.cell 0, h2.frozen 0⟩
      clear hy hL hN hxm hab hf
      go_wp2
      go_loopw [5, 6] (fun o kv wr => ∃ k : Nat, k ≤ N ∧ kv = .int .i64 (k : Int) ∧ wr.ownsRow wo.heap.size 38 3 o k (chgCells (L.take k)) ∧ Hid (∀ x ∈ L.take k, x.kb < ck.data.toList) ∧ Below wo.heap.size wo wr) (fun _ kv _ => N - (intOf kv).toNat)
      case atStart => exact ⟨0, by omega, rfl, World.ownsRow_nil _ _ _ _, Lib.hid (by simp), Below.refl _ _⟩
      case round =>
        obtain ⟨k, hk, rfl, hown, Hp, hb⟩ := hrel
        have Hown := Lib.hid hown
        have Hb := Lib.hid hb
        have hsz := hb.size
        obtain ⟨⟨c0, c1, c2⟩, m0, -⟩ := HC.out wr hb
        have hsz2 : ∀ (nq : Nat) (o : Obj), wo.heap.size ≤ ((wr.drewN nq).alloc o).heap.size := fun nq o => Nat.le_trans hsz (Nat.le_of_lt (by simp only [World.size_alloc]; exact Nat.lt_succ_self _))
        clear hown
        by_cases hkn : k < N
        · obtain ⟨am, z, rfl, hzb, hz, d0, d1, d2⟩ := (Xm.out.belowOf hb (Nat.le_refl _)).at_ hkn
          have Hz := Lib.hid hz
          have Hts := Lib.hid (take_snocC hz)
          have hk0 : (0 : Int) ≤ (k : Int) := by omega
          have hk1 : (k : Int) < (N : Int) := by omega
          obtain ⟨zk, zv, zg⟩ := z
          simp only at d0 d1 d2
          clear hz hb
          by_cases hkl : zk.data.toList < ck.data.toList
          · have hb1 : Op.bytesLess zk.toList ck.toList = true := by rw [ByteArray.toList_eq, ByteArray.toList_eq, bytesLess_lt]; exact decide_eq_true hkl
            have Hp1 : Hid (∀ x ∈ L.take (k + 1), x.kb < ck.data.toList) := Lib.hid (by
              rw [Hts.out]
              intro x hx
              rcases List.mem_append.1 hx with hx | hx
              · exact Hp.out x hx
              · simp at hx; subst hx; exact hkl)
            clear hkl
            go_wp2
            go_quiet (fail)
            go_wp2_with (at_builtin; refine wpList_append_hasN rfl (.tmp 36) (.tmp 44) _ rfl 38 chg_elem (by omega) Try.underlying22 rfl (own_drawn Hown.out _ _) rfl (chg_lit _ ⟨zk, zv, zg⟩) (chgCells_one _) (by simp only [maxLen]; omega) (by omega) (hsz2 _ _) ?_; intro v2 w2 hown2 hg2 _)
            have Hb2 := Lib.hid (below_app Hb.out Hown.out hg2 hsz)
            have Hown2 := Lib.hid hown2
            clear hg2 hown2
            go_wp2
            go_roundw
            case rel => exact ⟨k + 1, by omega, by go_num, own_eqC Hown2.out rfl (by rw [Hts.out, chgCells_app]), Hp1, Hb2.out⟩
            case measure => simp [intOf]; omega
          · have hb1 : Op.bytesLess zk.toList ck.toList = false := by rw [ByteArray.toList_eq, ByteArray.toList_eq, bytesLess_lt]; exact decide_eq_false hkl
            have hSp := mapP_split ⟨ck, cv, cg⟩ L k (by have := HN.out; omega) Hp.out (fun y hy => by rw [Hz.out] at hy; injection hy with hy; subst hy; exact hkl)
            rw [← Hmx.out] at hSp
            by_cases hke : zk.data.toList = ck.data.toList
            · have hb2 : (zk.toList == ck.toList) = true := by rw [eq_toList]; exact decide_eq_true hke
              have e2 : ∃ y, L[k]? = some y ∧ y.kb = (⟨ck, cv, cg⟩ : Chg).kb := ⟨_, Hz.out, hke⟩
              rw [if_pos e2] at hSp
              have HSp := Lib.hid hSp
              have Hcut := Lib.hid (Xm.out.cut (k := k + 1) (c := cm) (by omega) hcm)
              obtain ⟨A', hA'⟩ : ∃ A', (if cm = k + 1 then some am else some (am.add ((k + 1) * 3))) = A' := ⟨_, rfl⟩
              rw [Option.map_some, hA'] at Hcut
              clear hkl hke hSp
              cases cg with
              | true =>
                go_wp2
                go_quiet (fail)
                have Ho4 := Lib.hid (own_drawn2 Hown.out nq)
                have Hb4 := Lib.hid (below_dr Hb.out nq)
                have hs4 : wo.heap.size ≤ (wr.drewN nq).heap.size := hsz
                obtain ⟨⟨e0, e1, e2⟩, n0, -⟩ := HC.out (wr.drewN nq) Hb4.out
                clear c0 c1 c2 m0 d0 d1 d2
                generalize wr.drewN nq = w4 at *
                obtain ⟨f0, f1, f2⟩ := chs_at Xm.out (w1 := w4) Hb4.out hkn Hz.out
                simp only at f0 f1 f2
                have Ho5 := Ho4
                have Hb5 := Hb4
                have hs5 := hs4
                clear Ho4 Hb4
                go_wp2
                go_quiet (fail)
                go_wp2_with (at_builtin; refine wpList_append_hasN rfl (.tmp 94) (.tmp 100) _ rfl 38 chg_elem (by omega) Try.underlying22 rfl (own_drawn2 Ho5.out _) rfl (Hcut.out.belowOf (below_dr Hb5.out _) (Nat.le_refl _)) (chgCells_one _) (by simp only [maxLen]; omega) (by omega) hs5 ?_; intro v7 w7 o7 g7 _; have Hb7 := Lib.hid (below_app2 Hb5.out Ho5.out g7 hs5); obtain ⟨A7, c7, rfl, -, -, -⟩ := own_sliceN o7; have Ho7 := Lib.hid o7; have mm0 := (HC.out w7 Hb7.out).2.1; have mf0 := (HC.out w7 Hb7.out).2.2; clear g7 o7)
                have HEN := Lib.hid (map_store (L := mapAll (l.take (i + 1)) M) Hbx.out Hb7.out (own_eqC Ho7.out rfl (by rw [HSp.out]; simp only [← chgCells_app]; exact congrArg chgCells (by simp))) (by rw [HSp.out]; simp; have := HN.out; omega))
                clear mm0 mf0
                go_wp2
                go_roundw
                case rel => exact ⟨i + 1, by omega, by go_num, ⟨_, Lib.hid ⟨HEN.out.1, fun g hg => .inr (Nat.le_trans hszw (HEN.out.2.2 g hg))⟩⟩, HF.out.trans HEN.out.2.1 (fun _ h => .inl h)⟩
                case measure => simp [intOf]; omega
              | false =>
                go_wp2
                go_quiet (fail)
                have Ho4 := Lib.hid (own_drawn2 Hown.out nq)
                have Hb4 := Lib.hid (below_dr Hb.out nq)
                have hs4 : wo.heap.size ≤ (wr.drewN nq).heap.size := hsz
                obtain ⟨⟨e0, e1, e2⟩, n0, -⟩ := HC.out (wr.drewN nq) Hb4.out
                clear c0 c1 c2 m0 d0 d1 d2
                generalize wr.drewN nq = w4 at *
                have HK : Hid (∀ wx, Below wo.heap.size wo wx → (wx.cell? (a.add (i * 3)) = some (.string ck) ∧ wx.cell? ⟨(a.add (i * 3)).block, (a.add (i * 3)).off + 1, none⟩ = some (.string cv)) ∧ Below wo.heap.size wo wx) := Lib.hid fun wx hx => ⟨⟨(HC.out wx hx).1.1, (HC.out wx hx).1.2.1⟩, hx⟩
                have hs6 : wo.heap.size ≤ (w4.drew.alloc (Obj.cells #[.string ck, .string cv, .bool false] 38)).heap.size := Nat.le_trans hs4 (Nat.le_of_lt (by simp only [World.size_alloc]; exact Nat.lt_succ_self _))
                have Ho6 := Lib.hid (own_drawn Ho4.out 1 (Obj.cells #[.string ck, .string cv, .bool false] 38))
                go_wp2
                go_region_held3 (fun wx => (wx.cell? (a.add (i * 3)) = some (.string ck) ∧ wx.cell? ⟨(a.add (i * 3)).block, (a.add (i * 3)).off + 1, none⟩ = some (.string cv)) ∧ Below wo.heap.size wo wx)
                  (first | exact HK.out _ Hb4.out.drew | exact HK.out _ (Below.alloc (And.right (by assumption)) (And.right (by assumption) : Below wo.heap.size wo _).size _) | exact HK.out _ hbA)
                  (first | (refine step_append_hasN (by rfl) _ _ _ (by rfl) 38 chg_elem (by omega) Try.underlying22 (by rfl) Ho6.out (by rfl) (chg_lit w4.drew ⟨ck, cv, false⟩) (chgCells_one _) (by simp only [maxLen]; omega) (by omega) hs6 ?_; intro vA wA oA gA zA; have hbA := below_ownN (Hb4.out.drew.alloc hs4 (Obj.cells #[.string ck, .string cv, .bool false] 38)) Ho6.out gA hs6))
                have Ho5 := Lib.hid oA
                have Hb5 := Lib.hid hbA
                have hs5 := hbA.size
                obtain ⟨Aq, cq, rfl, -, -, -⟩ := own_sliceN oA
                obtain ⟨⟨r0, r1, r2⟩, q0, -⟩ := HC.out wA Hb5.out
                obtain ⟨f0, f1, f2⟩ := chs_at Xm.out (w1 := wA) Hb5.out hkn Hz.out
                simp only at f0 f1 f2
                clear e0 e1 e2 n0 oA gA zA hbA
                generalize wA = w5 at *
                go_wp2
                go_quiet (fail)
                go_wp2_with (at_builtin; refine wpList_append_hasN rfl (.tmp 94) (.tmp 100) _ rfl 38 chg_elem (by omega) Try.underlying22 rfl (own_drawn2 Ho5.out _) rfl (Hcut.out.belowOf (below_dr Hb5.out _) (Nat.le_refl _)) (chgCells_one _) (by simp only [maxLen]; omega) (by omega) hs5 ?_; intro v7 w7 o7 g7 _; have Hb7 := Lib.hid (below_app2 Hb5.out Ho5.out g7 hs5); obtain ⟨A7, c7, rfl, -, -, -⟩ := own_sliceN o7; have Ho7 := Lib.hid o7; have mm0 := (HC.out w7 Hb7.out).2.1; have mf0 := (HC.out w7 Hb7.out).2.2; clear g7 o7)
                have HEN := Lib.hid (map_store (L := mapAll (l.take (i + 1)) M) Hbx.out Hb7.out (own_eqC Ho7.out rfl (by rw [HSp.out]; simp only [← chgCells_app]; exact congrArg chgCells (by simp))) (by rw [HSp.out]; simp; have := HN.out; omega))
                clear mm0 mf0
                go_wp2
                go_roundw
                case rel => exact ⟨i + 1, by omega, by go_num, ⟨_, Lib.hid ⟨HEN.out.1, fun g hg => .inr (Nat.le_trans hszw (HEN.out.2.2 g hg))⟩⟩, HF.out.trans HEN.out.2.1 (fun _ h => .inl h)⟩
                case measure => simp [intOf]; omega
            · have hb2 : (zk.toList == ck.toList) = false := by rw [eq_toList]; exact decide_eq_false hke
              have e2 : ¬ ∃ y, L[k]? = some y ∧ y.kb = (⟨ck, cv, cg⟩ : Chg).kb := fun ⟨y, hy, hy2⟩ => hke (by rw [Hz.out] at hy; injection hy with hy; subst hy; exact hy2)
              rw [if_neg e2] at hSp
              have HSp := Lib.hid hSp
              have Hcut := Lib.hid (Xm.out.cut (k := k) (c := cm) (by omega) hcm)
              rw [Option.map_some, if_neg (by omega)] at Hcut
              clear hkl hke hSp
              cases cg with
              | true =>
                go_wp2
                go_quiet (fail)
                have Ho4 := Lib.hid (own_drawn2 Hown.out nq)
                have Hb4 := Lib.hid (below_dr Hb.out nq)
                have hs4 : wo.heap.size ≤ (wr.drewN nq).heap.size := hsz
                obtain ⟨⟨e0, e1, e2⟩, n0, -⟩ := HC.out (wr.drewN nq) Hb4.out
                clear c0 c1 c2 m0 d0 d1 d2
                generalize wr.drewN nq = w4 at *
                obtain ⟨f0, f1, f2⟩ := chs_at Xm.out (w1 := w4) Hb4.out hkn Hz.out
                simp only at f0 f1 f2
                have Ho5 := Ho4
                have Hb5 := Hb4
                have hs5 := hs4
                clear Ho4 Hb4
                go_wp2
                go_quiet (fail)
                go_wp2_with (at_builtin; refine wpList_append_hasN rfl (.tmp 94) (.tmp 100) _ rfl 38 chg_elem (by omega) Try.underlying22 rfl (own_drawn2 Ho5.out _) rfl (Hcut.out.belowOf (below_dr Hb5.out _) (Nat.le_refl _)) (chgCells_one _) (by simp only [maxLen]; omega) (by omega) hs5 ?_; intro v7 w7 o7 g7 _; rw [show k + (N - k) = N by omega] at o7; have Hb7 := Lib.hid (below_app2 Hb5.out Ho5.out g7 hs5); obtain ⟨A7, c7, rfl, -, -, -⟩ := own_sliceN o7; have Ho7 := Lib.hid o7; have mm0 := (HC.out w7 Hb7.out).2.1; have mf0 := (HC.out w7 Hb7.out).2.2; clear g7 o7)
                have HEN := Lib.hid (map_store (L := mapAll (l.take (i + 1)) M) Hbx.out Hb7.out (own_eqC Ho7.out rfl (by rw [HSp.out]; simp only [← chgCells_app]; exact congrArg chgCells (by simp))) (by rw [HSp.out]; simp; have := HN.out; omega))
                clear mm0 mf0
                go_wp2
                go_roundw
                case rel => exact ⟨i + 1, by omega, by go_num, ⟨_, Lib.hid ⟨HEN.out.1, fun g hg => .inr (Nat.le_trans hszw (HEN.out.2.2 g hg))⟩⟩, HF.out.trans HEN.out.2.1 (fun _ h => .inl h)⟩
                case measure => simp [intOf]; omega
              | false =>
                go_wp2
                go_quiet (fail)
                have Ho4 := Lib.hid (own_drawn2 Hown.out nq)
                have Hb4 := Lib.hid (below_dr Hb.out nq)
                have hs4 : wo.heap.size ≤ (wr.drewN nq).heap.size := hsz
                obtain ⟨⟨e0, e1, e2⟩, n0, -⟩ := HC.out (wr.drewN nq) Hb4.out
                clear c0 c1 c2 m0 d0 d1 d2
                generalize wr.drewN nq = w4 at *
                have HK : Hid (∀ wx, Below wo.heap.size wo wx → (wx.cell? (a.add (i * 3)) = some (.string ck) ∧ wx.cell? ⟨(a.add (i * 3)).block, (a.add (i * 3)).off + 1, none⟩ = some (.string cv)) ∧ Below wo.heap.size wo wx) := Lib.hid fun wx hx => ⟨⟨(HC.out wx hx).1.1, (HC.out wx hx).1.2.1⟩, hx⟩
                have hs6 : wo.heap.size ≤ (w4.drew.alloc (Obj.cells #[.string ck, .string cv, .bool false] 38)).heap.size := Nat.le_trans hs4 (Nat.le_of_lt (by simp only [World.size_alloc]; exact Nat.lt_succ_self _))
                have Ho6 := Lib.hid (own_drawn Ho4.out 1 (Obj.cells #[.string ck, .string cv, .bool false] 38))
                go_wp2
                go_region_held3 (fun wx => (wx.cell? (a.add (i * 3)) = some (.string ck) ∧ wx.cell? ⟨(a.add (i * 3)).block, (a.add (i * 3)).off + 1, none⟩ = some (.string cv)) ∧ Below wo.heap.size wo wx)
                  (first | exact HK.out _ Hb4.out.drew | exact HK.out _ (Below.alloc (And.right (by assumption)) (And.right (by assumption) : Below wo.heap.size wo _).size _) | exact HK.out _ hbA)
                  (first | (refine step_append_hasN (by rfl) _ _ _ (by rfl) 38 chg_elem (by omega) Try.underlying22 (by rfl) Ho6.out (by rfl) (chg_lit w4.drew ⟨ck, cv, false⟩) (chgCells_one _) (by simp only [maxLen]; omega) (by omega) hs6 ?_; intro vA wA oA gA zA; have hbA := below_ownN (Hb4.out.drew.alloc hs4 (Obj.cells #[.string ck, .string cv, .bool false] 38)) Ho6.out gA hs6))
                have Ho5 := Lib.hid oA
                have Hb5 := Lib.hid hbA
                have hs5 := hbA.size
                obtain ⟨Aq, cq, rfl, -, -, -⟩ := own_sliceN oA
                obtain ⟨⟨r0, r1, r2⟩, q0, -⟩ := HC.out wA Hb5.out
                obtain ⟨f0, f1, f2⟩ := chs_at Xm.out (w1 := wA) Hb5.out hkn Hz.out
                simp only at f0 f1 f2
                clear e0 e1 e2 n0 oA gA zA hbA
                generalize wA = w5 at *
                go_wp2
                go_quiet (fail)
                go_wp2_with (at_builtin; refine wpList_append_hasN rfl (.tmp 94) (.tmp 100) _ rfl 38 chg_elem (by omega) Try.underlying22 rfl (own_drawn2 Ho5.out _) rfl (Hcut.out.belowOf (below_dr Hb5.out _) (Nat.le_refl _)) (chgCells_one _) (by simp only [maxLen]; omega) (by omega) hs5 ?_; intro v7 w7 o7 g7 _; have Hb7 := Lib.hid (below_app2 Hb5.out Ho5.out g7 hs5); obtain ⟨A7, c7, rfl, -, -, -⟩ := own_sliceN o7; have Ho7 := Lib.hid o7; have mm0 := (HC.out w7 Hb7.out).2.1; have mf0 := (HC.out w7 Hb7.out).2.2; clear g7 o7)
                have HEN := Lib.hid (map_store (L := mapAll (l.take (i + 1)) M) Hbx.out Hb7.out (own_eqC Ho7.out rfl (by rw [HSp.out]; simp only [← chgCells_app]; exact congrArg chgCells (by simp))) (by rw [HSp.out]; simp; have := HN.out; omega))
                clear mm0 mf0
                go_wp2
                go_roundw
                case rel => exact ⟨i + 1, by omega, by go_num, ⟨_, Lib.hid ⟨HEN.out.1, fun g hg => .inr (Nat.le_trans hszw (HEN.out.2.2 g hg))⟩⟩, HF.out.trans HEN.out.2.1 (fun _ h => .inl h)⟩
                case measure => simp [intOf]; omega
        · obtain rfl : k = N := by omega
          have hSp := mapP_split ⟨ck, cv, cg⟩ L k (by have := HN.out; omega) Hp.out (fun y hy => by have := (List.getElem?_eq_some_iff.1 hy).1; have := HN.out; omega)
          have e2 : ¬ ∃ y, L[k]? = some y ∧ y.kb = (⟨ck, cv, cg⟩ : Chg).kb := fun ⟨y, hy, hy2⟩ => by have := (List.getElem?_eq_some_iff.1 hy).1; have := HN.out; omega
          rw [← Hmx.out, if_neg e2] at hSp
          have HSp := Lib.hid hSp
          have Hcut := Lib.hid (Xm.out.cut (k := k) (c := cm) (by omega) hcm)
          rw [show k - k = 0 by omega] at Hcut
          obtain ⟨A', hA'⟩ : ∃ A', (if cm = k then Am else Am.map (·.add (k * 3))) = A' := ⟨_, rfl⟩
          rw [hA'] at Hcut
          clear hSp hb
          cases cg with
          | true =>
            go_wp2
            go_quiet (fail)
            have Ho4 := Lib.hid (own_drawn2 Hown.out nq)
            have Hb4 := Lib.hid (below_dr Hb.out nq)
            have hs4 : wo.heap.size ≤ (wr.drewN nq).heap.size := hsz
            obtain ⟨⟨e0, e1, e2⟩, n0, -⟩ := HC.out (wr.drewN nq) Hb4.out
            clear c0 c1 c2 m0
            generalize wr.drewN nq = w4 at *
            have Ho5 := Ho4
            have Hb5 := Hb4
            have hs5 := hs4
            clear Ho4 Hb4
            go_wp2
            go_quiet (fail)
            go_wp2_with (at_builtin; refine wpList_append_hasN rfl (.tmp 94) (.tmp 100) _ rfl 38 chg_elem (by omega) Try.underlying22 rfl (own_drawn2 Ho5.out _) rfl (Hcut.out.belowOf (below_dr Hb5.out _) (Nat.le_refl _)) (chgCells_one _) (by simp only [maxLen]; omega) (by omega) hs5 ?_; intro v7 w7 o7 g7 _; have Hb7 := Lib.hid (below_app2 Hb5.out Ho5.out g7 hs5); obtain ⟨A7, c7, rfl, -, -, -⟩ := own_sliceN o7; have Ho7 := Lib.hid o7; have mm0 := (HC.out w7 Hb7.out).2.1; have mf0 := (HC.out w7 Hb7.out).2.2; clear g7 o7)
            have HEN := Lib.hid (map_store (L := mapAll (l.take (i + 1)) M) Hbx.out Hb7.out (own_eqC Ho7.out rfl (by rw [HSp.out]; simp only [← chgCells_app]; exact congrArg chgCells (by simp))) (by rw [HSp.out]; simp; have := HN.out; omega))
            clear mm0 mf0
            go_wp2
            go_roundw
            case rel => exact ⟨i + 1, by omega, by go_num, ⟨_, Lib.hid ⟨HEN.out.1, fun g hg => .inr (Nat.le_trans hszw (HEN.out.2.2 g hg))⟩⟩, HF.out.trans HEN.out.2.1 (fun _ h => .inl h)⟩
            case measure => simp [intOf]; omega
          | false =>
            go_wp2
            go_quiet (fail)
            have Ho4 := Lib.hid (own_drawn2 Hown.out nq)
            have Hb4 := Lib.hid (below_dr Hb.out nq)
            have hs4 : wo.heap.size ≤ (wr.drewN nq).heap.size := hsz
            obtain ⟨⟨e0, e1, e2⟩, n0, -⟩ := HC.out (wr.drewN nq) Hb4.out
            clear c0 c1 c2 m0
            generalize wr.drewN nq = w4 at *
            have HK : Hid (∀ wx, Below wo.heap.size wo wx → (wx.cell? (a.add (i * 3)) = some (.string ck) ∧ wx.cell? ⟨(a.add (i * 3)).block, (a.add (i * 3)).off + 1, none⟩ = some (.string cv)) ∧ Below wo.heap.size wo wx) := Lib.hid fun wx hx => ⟨⟨(HC.out wx hx).1.1, (HC.out wx hx).1.2.1⟩, hx⟩
            have hs6 : wo.heap.size ≤ (w4.drew.alloc (Obj.cells #[.string ck, .string cv, .bool false] 38)).heap.size := Nat.le_trans hs4 (Nat.le_of_lt (by simp only [World.size_alloc]; exact Nat.lt_succ_self _))
            have Ho6 := Lib.hid (own_drawn Ho4.out 1 (Obj.cells #[.string ck, .string cv, .bool false] 38))
            go_wp2
            go_region_held3 (fun wx => (wx.cell? (a.add (i * 3)) = some (.string ck) ∧ wx.cell? ⟨(a.add (i * 3)).block, (a.add (i * 3)).off + 1, none⟩ = some (.string cv)) ∧ Below wo.heap.size wo wx)
              (first | exact HK.out _ Hb4.out.drew | exact HK.out _ (Below.alloc (And.right (by assumption)) (And.right (by assumption) : Below wo.heap.size wo _).size _) | exact HK.out _ hbA)
              (first | (refine step_append_hasN (by rfl) _ _ _ (by rfl) 38 chg_elem (by omega) Try.underlying22 (by rfl) Ho6.out (by rfl) (chg_lit w4.drew ⟨ck, cv, false⟩) (chgCells_one _) (by simp only [maxLen]; omega) (by omega) hs6 ?_; intro vA wA oA gA zA; have hbA := below_ownN (Hb4.out.drew.alloc hs4 (Obj.cells #[.string ck, .string cv, .bool false] 38)) Ho6.out gA hs6))
            have Ho5 := Lib.hid oA
            have Hb5 := Lib.hid hbA
            have hs5 := hbA.size
            obtain ⟨Aq, cq, rfl, -, -, -⟩ := own_sliceN oA
            obtain ⟨⟨r0, r1, r2⟩, q0, -⟩ := HC.out wA Hb5.out
            clear e0 e1 e2 n0 oA gA zA hbA
            generalize wA = w5 at *
            go_wp2
            go_quiet (fail)
            go_wp2_with (at_builtin; refine wpList_append_hasN rfl (.tmp 94) (.tmp 100) _ rfl 38 chg_elem (by omega) Try.underlying22 rfl (own_drawn2 Ho5.out _) rfl (Hcut.out.belowOf (below_dr Hb5.out _) (Nat.le_refl _)) (chgCells_one _) (by simp only [maxLen]; omega) (by omega) hs5 ?_; intro v7 w7 o7 g7 _; have Hb7 := Lib.hid (below_app2 Hb5.out Ho5.out g7 hs5); obtain ⟨A7, c7, rfl, -, -, -⟩ := own_sliceN o7; have Ho7 := Lib.hid o7; have mm0 := (HC.out w7 Hb7.out).2.1; have mf0 := (HC.out w7 Hb7.out).2.2; clear g7 o7)
            have HEN := Lib.hid (map_store (L := mapAll (l.take (i + 1)) M) Hbx.out Hb7.out (own_eqC Ho7.out rfl (by rw [HSp.out]; simp only [← chgCells_app]; exact congrArg chgCells (by simp))) (by rw [HSp.out]; simp; have := HN.out; omega))
            clear mm0 mf0
            go_wp2
            go_roundw
            case rel => exact ⟨i + 1, by omega, by go_num, ⟨_, Lib.hid ⟨HEN.out.1, fun g hg => .inr (Nat.le_trans hszw (HEN.out.2.2 g hg))⟩⟩, HF.out.trans HEN.out.2.1 (fun _ h => .inl h)⟩
            case measure => simp [intOf]; omega
    · obtain rfl : i = n := by omega
      have E : Hid (l.take i = l) := Lib.hid (List.take_of_length_le (by have := Hl.out; omega))
      rw [E.out] at Hm
      clear hf
      go_wp2
      go_end0
      exact ⟨rfl, mo, Hm.out.1, HF.out, Hm.out.2⟩

end Go.Proofs.Yteioopcacpihpaa

namespace Go.Proofs.Yteioopcacpihpaa
open Go.RowKit
open Go.Lib (strCells compareBytes)

theorem slice_succ {lo hi : List UInt8} {l : List Chg} {k : Nat} {c : Chg} (h : l[k]? = some c) : sliceL lo hi (l.take (k + 1)) = sliceL lo hi (l.take k) ++ (if inR lo hi c then [c] else []) := by
  rw [take_snocC h]
  unfold sliceL
  rw [List.filter_append]
  by_cases e : inR lo hi c = true <;> simp [e]
theorem slice_len (lo hi : List UInt8) (l : List Chg) : (sliceL lo hi l).length ≤ l.length := List.length_filter_le _ _
theorem empty_iff {s : ByteArray} : s.data.toList.isEmpty = true ↔ s = ⟨#[]⟩ := by
  constructor
  · intro h
    refine bytes_ext ?_
    simpa using h
  · rintro rfl
    rfl
open Classical in
/-- the changes of a run that a range has; of what isn't a run none -/
noncomputable def sliceT (lo hi : List UInt8) (l : List Chg) : List Chg := if Run l then sliceL lo hi l else []
theorem sliceT_run {lo hi : List UInt8} {l : List Chg} (h : Run l) : sliceT lo hi l = sliceL lo hi l := by unfold sliceT; rw [if_pos h]
theorem sliceT_no {lo hi : List UInt8} {l : List Chg} (h : ¬ Run l) : sliceT lo hi l = [] := by unfold sliceT; rw [if_neg h]
/-- how a key stands to a range, as the walk asks it -/
theorem inR_cases (lo hi : ByteArray) (c : Chg) : (Op.bytesLess c.k.toList lo.toList = true ∧ inR lo.data.toList hi.data.toList c = false) ∨
    (Op.bytesLess c.k.toList lo.toList = false ∧ hi = ⟨#[]⟩ ∧ inR lo.data.toList hi.data.toList c = true) ∨
    (Op.bytesLess c.k.toList lo.toList = false ∧ hi.toList.isEmpty = false ∧ Op.bytesLess c.k.toList hi.toList = true ∧ inR lo.data.toList hi.data.toList c = true) ∨
    (Op.bytesLess c.k.toList lo.toList = false ∧ hi.toList.isEmpty = false ∧ Op.bytesLess c.k.toList hi.toList = false ∧ inR lo.data.toList hi.data.toList c = false) := by
  simp only [ByteArray.toList_eq, bytesLess_lt]
  unfold inR Chg.kb
  by_cases h1 : c.k.data.toList < lo.data.toList
  · exact .inl ⟨decide_eq_true h1, by simp [h1]⟩
  · by_cases h2 : hi = ⟨#[]⟩
    · exact .inr (.inl ⟨decide_eq_false h1, h2, by subst h2; simp [h1]⟩)
    · have h2' : hi.data.toList.isEmpty = false := by
        rw [← Bool.not_eq_true, empty_iff]
        exact h2
      by_cases h3 : c.k.data.toList < hi.data.toList
      · exact .inr (.inr (.inl ⟨decide_eq_false h1, h2', decide_eq_true h3, by simp [h1, h3]⟩))
      · refine .inr (.inr (.inr ⟨decide_eq_false h1, h2', decide_eq_false h3, ?_⟩))
        rw [h2']
        simp [h3]
set_option maxRecDepth 100000 in
set_option maxHeartbeats 3200000 in
theorem refSlice_any (A : Option Addr) (n ca C : Nat) (l : List Chg) (lo hi : ByteArray) (w : World) (h : HasChs w C A n l) (hC : C ≤ w.heap.size) (hn : n ≤ 9000) :
    Calls Try.prog 62 #[.slice A n ca, .agg #[.string lo, .string hi]] w (GivesC w.heap.size (sliceT lo.data.toList hi.data.toList l) w) := by
  have H := Lib.hid h
  have HC := Lib.hid hC
  have Hl := Lib.hid h.1
  have Hrt := Lib.hid (fun wx (hx : Below w.heap.size w wx) => refRight_any A n ca C l wx (h.belowOf hx hC) (by unfold maxLen; omega) (Nat.le_trans hC hx.size))
  clear h hC
  by_cases hr : Run l
  · rw [sliceT_run hr]
    rw [runB_true hr] at Hrt
    clear hr
    go_enter Try.func62, Try.ntmps62
    go_wp2
    go_loopw [5, 6] (fun o i wr => ∃ k : Nat, k ≤ n ∧ i = .int .i64 (k : Int) ∧ OwnChs wr (w.heap.size + 1) o (sliceL lo.data.toList hi.data.toList (l.take k)) ∧ Below (w.heap.size + 1) (w.alloc (.cells #[.string lo, .string hi] 35)) wr) (fun _ i _ => n - (intOf i).toNat)
    case atStart => exact ⟨0, by omega, rfl, OwnChs.nil _ _, Below.refl _ _⟩
    case round =>
      obtain ⟨k, hk, rfl, ho, hb⟩ := hrel
      have Ho := Lib.hid ho
      have Hb := Lib.hid hb
      have hsz : w.heap.size + 1 ≤ wr.heap.size := by have := hb.size; simpa using this
      have Hrt1 := Lib.hid (Hrt.out wr (below_in hb (Nat.le_refl _)))
      clear hb ho
      by_cases hlt : k < n
      · go_wp2_with fail
        refine Hrt1.out.mono ?_
        rintro e w2 ⟨rfl, hb2⟩
        have Hb2 := Lib.hid (Hb.out.trans (hb2.mono hsz))
        have hsz2 : w.heap.size + 1 ≤ w2.heap.size := Nat.le_trans hsz hb2.size
        have Ho2 := Lib.hid (Ho.out.below hb2)
        clear hb2
        have hbx := (Box.made w 35 #[.string lo, .string hi]).below Hb2.out (by simp)
        have q0 := hbx.cell 0
        have q1 := hbx.cell 1
        have Hlen := Lib.hid (slice_len lo.data.toList hi.data.toList (l.take k))
        have Hlk : Hid ((l.take k).length = k) := Lib.hid (by rw [List.length_take]; have := Hl.out; omega)
        obtain ⟨a, y, rfl, hab, hy, c0, c1, c2⟩ := (H.out.belowOf (below_in Hb2.out HC.out) (Nat.le_refl _)).at_ hlt
        have Hss := Lib.hid (slice_succ (lo := lo.data.toList) (hi := hi.data.toList) hy)
        have hk0 : (0 : Int) ≤ (k : Int) := by omega
        have hk1 : (k : Int) < (n : Int) := by omega
        clear hy hbx
        rcases inR_cases lo hi y with ⟨e1, e4⟩ | ⟨e1, rfl, e4⟩ | ⟨e1, e2, e3, e4⟩ | ⟨e1, e2, e3, e4⟩
        · rw [e4, if_neg (by simp), List.append_nil] at Hss
          clear e4
          obtain ⟨yk, yv, yg⟩ := y
          simp only at c0 c1 c2 e1
          go_wp2
          go_quiet (fail)
          go_wp2
          go_roundw
          case rel => exact ⟨k + 1, by omega, by go_num, by rw [Hss.out]; exact Ho2.out.below (below_dr (Below.refl _ _) _), below_dr Hb2.out _⟩
          case measure => simp [intOf]; omega
        · rw [e4, if_pos rfl] at Hss
          clear e4
          obtain ⟨yk, yv, yg⟩ := y
          simp only at c0 c1 c2 e1
          go_wp2
          go_quiet (fail)
          go_wp2_with (at_builtin; refine wpList_append_hasN rfl (.tmp 40) (.tmp 45) _ rfl 38 chg_elem (by omega) Try.underlying22 rfl (own_drawn Ho2.out _ _) rfl (chg_lit _ ⟨yk, yv, yg⟩) (chgCells_one _) (by have := Hlen.out; have := Hlk.out; simp only [maxLen]; omega) (by have := Hlen.out; have := Hlk.out; omega) (by simp only [World.size_alloc]; exact Nat.le_succ_of_le hsz2) ?_; intro v3 w3 hown3 hg3 _)
          have Hb3 := Lib.hid (below_app Hb2.out Ho2.out hg3 hsz2)
          have Hown3 := Lib.hid hown3
          clear hg3 hown3
          go_wp2
          go_roundw
          case rel => exact ⟨k + 1, by omega, by go_num, by rw [Hss.out]; unfold OwnChs; rw [List.length_append, chgCells_app]; exact Hown3.out, Hb3.out⟩
          case measure => simp [intOf]; omega
        · rw [e4, if_pos rfl] at Hss
          clear e4
          obtain ⟨yk, yv, yg⟩ := y
          simp only at c0 c1 c2 e1 e3
          go_wp2
          go_quiet (fail)
          go_wp2_with (at_builtin; refine wpList_append_hasN rfl (.tmp 40) (.tmp 45) _ rfl 38 chg_elem (by omega) Try.underlying22 rfl (own_drawn Ho2.out _ _) rfl (chg_lit _ ⟨yk, yv, yg⟩) (chgCells_one _) (by have := Hlen.out; have := Hlk.out; simp only [maxLen]; omega) (by have := Hlen.out; have := Hlk.out; omega) (by simp only [World.size_alloc]; exact Nat.le_succ_of_le hsz2) ?_; intro v3 w3 hown3 hg3 _)
          have Hb3 := Lib.hid (below_app Hb2.out Ho2.out hg3 hsz2)
          have Hown3 := Lib.hid hown3
          clear hg3 hown3
          go_wp2
          go_roundw
          case rel => exact ⟨k + 1, by omega, by go_num, by rw [Hss.out]; unfold OwnChs; rw [List.length_append, chgCells_app]; exact Hown3.out, Hb3.out⟩
          case measure => simp [intOf]; omega
        · rw [e4, if_neg (by simp), List.append_nil] at Hss
          clear e4
          obtain ⟨yk, yv, yg⟩ := y
          simp only at c0 c1 c2 e1 e3
          go_wp2
          go_quiet (fail)
          go_wp2
          go_roundw
          case rel => exact ⟨k + 1, by omega, by go_num, by rw [Hss.out]; exact Ho2.out.below (below_dr (Below.refl _ _) _), below_dr Hb2.out _⟩
          case measure => simp [intOf]; omega
      · obtain rfl : k = n := by omega
        have E : Hid (l.take k = l) := Lib.hid (List.take_of_length_le (by have := Hl.out; omega))
        rw [E.out] at Ho
        go_wp2
        go_ret
        exact ⟨_, rfl, own_baseN Ho.out (Nat.le_succ _), below_in Hb.out (Nat.le_refl _)⟩
  · rw [sliceT_no hr]
    rw [runB_false hr] at Hrt
    have hpos : 0 < n := by
      rw [← Hl.out]
      cases l with
      | nil => exact absurd Run.nil hr
      | cons x l => simp
    clear hr
    have Hrt1 := Lib.hid (Hrt.out _ (below_box (Obj.cells #[.string lo, .string hi] 35)))
    have hpi : (0 : Int) < (n : Int) := by omega
    go_enter Try.func62, Try.ntmps62
    go_wp2
    go_loopw [5, 6] (fun o i wr => i = .int .i64 0 ∧ o = .slice none 0 0 ∧ wr = w.alloc (.cells #[.string lo, .string hi] 35)) (fun _ i _ => 0)
    case atStart => exact ⟨rfl, rfl, rfl⟩
    case round =>
      obtain ⟨rfl, rfl, rfl⟩ := hrel
      go_wp2_with fail
      refine Hrt1.out.mono ?_
      rintro e w2 ⟨rfl, hb2⟩
      have Hb2 := Lib.hid ((below_box (Obj.cells #[.string lo, .string hi] 35)).trans (hb2.mono (by simp)))
      clear hb2
      go_wp2
      go_ret
      exact ⟨_, rfl, OwnChs.nil _ _, Hb2.out⟩

set_option maxRecDepth 100000 in
set_option maxHeartbeats 3200000 in
theorem slice_any (A : Option Addr) (n ca C : Nat) (l : List Chg) (lo hi : ByteArray) (w : World) (h : HasChs w C A n l) (hC : C ≤ w.heap.size) (hn : n ≤ 9000) (hs : ∀ x ∈ l, x.k.size ≤ 4000 ∧ x.v.size ≤ 4000) :
    Calls Try.prog 19 #[.slice A n ca, .agg #[.string lo, .string hi]] w (GivesC w.heap.size (sliceT lo.data.toList hi.data.toList l) w) := by
  have H := Lib.hid h
  have HC := Lib.hid hC
  have Hl := Lib.hid h.1
  have Hs := Lib.hid hs
  have Hrt := Lib.hid (wrong_any A n ca C l _ (h.belowOf (below_box (Obj.cells #[.string lo, .string hi] 35)) hC) (by unfold maxLen; omega) (Nat.le_trans hC (Nat.le_of_lt (by simp : w.heap.size < (w.alloc (Obj.cells #[.string lo, .string hi] 35)).heap.size))))
  clear h hC hs
  by_cases hr : Run l
  · rw [sliceT_run hr]
    rw [runB_true hr] at Hrt
    clear hr
    go_enter Try.func19, Try.ntmps19
    go_wp2_with fail
    refine Hrt.out.mono ?_
    rintro e w1 ⟨rfl, hb1⟩
    have Hb1 : Hid (Below (w.heap.size + 1) (w.alloc (.cells #[.string lo, .string hi] 35)) w1) := Lib.hid (by simpa using hb1)
    clear hb1
    go_wp2
    go_loopw [5, 7, 12] (fun o _ i wr => ∃ k : Nat, k ≤ n ∧ i = .int .i64 (k : Int) ∧ OwnChs wr (w.heap.size + 1) o (sliceL lo.data.toList hi.data.toList (l.take k)) ∧ Below (w.heap.size + 1) (w.alloc (.cells #[.string lo, .string hi] 35)) wr) (fun _ _ i _ => n - (intOf i).toNat)
    case atStart => exact ⟨0, by omega, rfl, OwnChs.nil _ _, Hb1.out⟩
    case round =>
      obtain ⟨k, hk, rfl, ho, hb⟩ := hrel
      have Ho := Lib.hid ho
      have Hb := Lib.hid hb
      have hsz : w.heap.size + 1 ≤ wr.heap.size := by have := hb.size; simpa using this
      have hbx := (Box.made w 35 #[.string lo, .string hi]).below hb (by simp)
      have q0 := hbx.cell 0
      have q1 := hbx.cell 1
      have q2 : ∀ o, (wr.alloc o).cell? ⟨w.heap.size, 0, none⟩ = some (.string lo) := fun o => ((below_box o).cell (p := ⟨w.heap.size, 0, none⟩) (by exact hsz)).trans q0
      have q3 : ∀ o, (wr.alloc o).cell? ⟨w.heap.size, 1, none⟩ = some (.string hi) := fun o => ((below_box o).cell (p := ⟨w.heap.size, 1, none⟩) (by exact hsz)).trans q1
      clear hb ho hbx
      by_cases hlt : k < n
      · have Hlen := Lib.hid (slice_len lo.data.toList hi.data.toList (l.take k))
        have Hlk : Hid ((l.take k).length = k) := Lib.hid (by rw [List.length_take]; have := Hl.out; omega)
        obtain ⟨a, y, rfl, hab, hy, c0, c1, c2⟩ := (H.out.belowOf (below_in Hb.out HC.out) (Nat.le_refl _)).at_ hlt
        have Hss := Lib.hid (slice_succ (lo := lo.data.toList) (hi := hi.data.toList) hy)
        have hys := Hs.out y (List.mem_of_getElem? hy)
        have hk0 : (0 : Int) ≤ (k : Int) := by omega
        have hk1 : (k : Int) < (n : Int) := by omega
        clear hy
        rcases inR_cases lo hi y with ⟨e1, e4⟩ | ⟨e1, rfl, e4⟩ | ⟨e1, e2, e3, e4⟩ | ⟨e1, e2, e3, e4⟩
        · rw [e4, if_neg (by simp), List.append_nil] at Hss
          clear e4
          obtain ⟨yk, yv, yg⟩ := y
          simp only at c0 c1 c2 e1
          go_wp2
          go_roundw
          case rel => exact ⟨k + 1, by omega, by go_num, by rw [Hss.out]; exact Ho.out.below (below_box _), Hb.out.alloc hsz _⟩
          case measure => simp [intOf]; omega
        · rw [e4, if_pos rfl] at Hss
          clear e4
          obtain ⟨yk, yv, yg⟩ := y
          simp only at c0 c1 c2 e1 hys
          have Hcl := Lib.hid (fun wx => cloneC_any ⟨yk, yv, yg⟩ wx (by simp only; omega) (by simp only; omega))
          unfold cagg at Hcl
          go_wp2_with fail
          refine (Hcl.out _).mono ?_
          rintro e w3 ⟨rfl, hb3⟩
          have Ho3 := Lib.hid ((Ho.out.below (below_box (Obj.cells #[.string yk, .string yv, .bool yg] 38))).below hb3)
          have hsz1 : w.heap.size + 1 ≤ (wr.alloc (Obj.cells #[.string yk, .string yv, .bool yg] 38)).heap.size := by simp only [World.size_alloc]; omega
          have Hb3 := Lib.hid ((Hb.out.alloc hsz (Obj.cells #[.string yk, .string yv, .bool yg] 38)).trans (hb3.mono hsz1))
          have hsz3 : w.heap.size + 1 ≤ w3.heap.size := Nat.le_trans hsz1 hb3.size
          clear hb3 c0 c1 c2 q2 q3
          go_wp2_with (at_builtin; refine wpList_append_hasN rfl (.tmp 33) (.tmp 36) _ rfl 38 chg_elem (by omega) Try.underlying22 rfl (own_drawn Ho3.out 0 _) rfl (chg_lit _ ⟨yk, yv, yg⟩) (chgCells_one _) (by have := Hlen.out; have := Hlk.out; simp only [maxLen]; omega) (by have := Hlen.out; have := Hlk.out; omega) (by simp only [World.size_alloc]; exact Nat.le_succ_of_le hsz3) ?_; intro v4 w4 hown4 hg4 _)
          have Hb4 := Lib.hid (below_app (k := 0) Hb3.out Ho3.out hg4 hsz3)
          have Hown4 := Lib.hid hown4
          clear hg4 hown4
          go_wp2
          go_roundw
          case rel => exact ⟨k + 1, by omega, by go_num, by rw [Hss.out]; unfold OwnChs; rw [List.length_append, chgCells_app]; exact Hown4.out, Hb4.out⟩
          case measure => simp [intOf]; omega
        · rw [e4, if_pos rfl] at Hss
          clear e4
          obtain ⟨yk, yv, yg⟩ := y
          simp only at c0 c1 c2 e1 e3 hys
          have Hcl := Lib.hid (fun wx => cloneC_any ⟨yk, yv, yg⟩ wx (by simp only; omega) (by simp only; omega))
          unfold cagg at Hcl
          go_wp2_with fail
          refine (Hcl.out _).mono ?_
          rintro e w3 ⟨rfl, hb3⟩
          have Ho3 := Lib.hid ((Ho.out.below (below_box (Obj.cells #[.string yk, .string yv, .bool yg] 38))).below hb3)
          have hsz1 : w.heap.size + 1 ≤ (wr.alloc (Obj.cells #[.string yk, .string yv, .bool yg] 38)).heap.size := by simp only [World.size_alloc]; omega
          have Hb3 := Lib.hid ((Hb.out.alloc hsz (Obj.cells #[.string yk, .string yv, .bool yg] 38)).trans (hb3.mono hsz1))
          have hsz3 : w.heap.size + 1 ≤ w3.heap.size := Nat.le_trans hsz1 hb3.size
          clear hb3 c0 c1 c2 q2 q3
          go_wp2_with (at_builtin; refine wpList_append_hasN rfl (.tmp 33) (.tmp 36) _ rfl 38 chg_elem (by omega) Try.underlying22 rfl (own_drawn Ho3.out 0 _) rfl (chg_lit _ ⟨yk, yv, yg⟩) (chgCells_one _) (by have := Hlen.out; have := Hlk.out; simp only [maxLen]; omega) (by have := Hlen.out; have := Hlk.out; omega) (by simp only [World.size_alloc]; exact Nat.le_succ_of_le hsz3) ?_; intro v4 w4 hown4 hg4 _)
          have Hb4 := Lib.hid (below_app (k := 0) Hb3.out Ho3.out hg4 hsz3)
          have Hown4 := Lib.hid hown4
          clear hg4 hown4
          go_wp2
          go_roundw
          case rel => exact ⟨k + 1, by omega, by go_num, by rw [Hss.out]; unfold OwnChs; rw [List.length_append, chgCells_app]; exact Hown4.out, Hb4.out⟩
          case measure => simp [intOf]; omega
        · rw [e4, if_neg (by simp), List.append_nil] at Hss
          clear e4
          obtain ⟨yk, yv, yg⟩ := y
          simp only at c0 c1 c2 e1 e3
          go_wp2
          go_roundw
          case rel => exact ⟨k + 1, by omega, by go_num, by rw [Hss.out]; exact Ho.out.below (below_box _), Hb.out.alloc hsz _⟩
          case measure => simp [intOf]; omega
      · obtain rfl : k = n := by omega
        have E : Hid (l.take k = l) := Lib.hid (List.take_of_length_le (by have := Hl.out; omega))
        rw [E.out] at Ho
        go_wp2
        go_ret
        exact ⟨_, rfl, own_baseN Ho.out (Nat.le_succ _), below_in Hb.out (Nat.le_refl _)⟩
  · rw [sliceT_no hr]
    rw [runB_false hr] at Hrt
    clear hr
    go_enter Try.func19, Try.ntmps19
    go_wp2_with fail
    refine Hrt.out.mono ?_
    rintro e w1 ⟨rfl, hb1⟩
    have Hb1 : Hid (Below w.heap.size w w1) := Lib.hid ((below_box _).trans (hb1.mono (by simp)))
    clear hb1
    go_wp2
    go_ret
    exact ⟨_, rfl, OwnChs.nil _ _, Hb1.out⟩
end Go.Proofs.Yteioopcacpihpaa

namespace Go.Proofs.Yteioopcacpihpaa
open Go.RowKit
open Go.Lib (strCells compareBytes)

/-- a key with its value -/
abbrev Pr := ByteArray × ByteArray
def prCells : List Pr → List Value
  | [] => []
  | p :: l => .string p.1 :: .string p.2 :: prCells l
theorem prCells_len (l : List Pr) : (prCells l).length = l.length * 2 := by
  induction l with
  | nil => rfl
  | cons v l ih => simp only [prCells, List.length_cons, ih]; omega
theorem prCells_app (a b : List Pr) : prCells (a ++ b) = prCells a ++ prCells b := by
  induction a with
  | nil => rfl
  | cons v l ih => simp [prCells, ih]
theorem prCells_at : ∀ (l : List Pr) (i : Nat) (p : Pr), l[i]? = some p → (prCells l)[i * 2]? = some (.string p.1) ∧ (prCells l)[i * 2 + 1]? = some (.string p.2)
  | [], i, v, h => by simp at h
  | w :: l, 0, v, h => by
    simp at h
    subst h
    exact ⟨rfl, rfl⟩
  | w :: l, i + 1, v, h => by
    have ih := prCells_at l i v (by simpa using h)
    rw [show (i + 1) * 2 = i * 2 + 1 + 1 from by omega]
    simpa [prCells] using ih
theorem pr_elem : ElemN Try.prog 59 2 32 (.agg #[.string ⟨#[]⟩, .string ⟨#[]⟩]) := ⟨by kernel_rfl, rfl⟩
def HasPrs (w : World) (B : Nat) (A : Option Addr) (n : Nat) (l : List Pr) : Prop := l.length = n ∧ Has w B A (n * 2) (prCells l)
theorem HasPrs.at_ {w : World} {B n : Nat} {A : Option Addr} {l : List Pr} (h : HasPrs w B A n l) {i : Nat} (hi : i < n) : ∃ a p, A = some a ∧ a.block < B ∧ l[i]? = some p ∧ w.cell? (a.add (i * 2)) = some (.string p.1) ∧ w.cell? ⟨(a.add (i * 2)).block, (a.add (i * 2)).off + 1, none⟩ = some (.string p.2) := by
  obtain ⟨hl, hh⟩ := h
  have hil : i < l.length := by omega
  obtain ⟨c0, c1⟩ := prCells_at l i l[i] (List.getElem?_eq_getElem hil)
  obtain ⟨a, rfl, hb, hc⟩ := hh.all (by omega)
  refine ⟨a, _, rfl, hb, List.getElem?_eq_getElem hil, hc _ _ c0, ?_⟩
  rw [← chg_step a _ 1 (by omega)]
  exact hc _ _ c1
def OwnPrs (w : World) (B : Nat) (v : Value) (l : List Pr) : Prop := w.ownsRow B 59 2 v l.length (prCells l)
theorem OwnPrs.slice {w : World} {B : Nat} {v : Value} {l : List Pr} (h : OwnPrs w B v l) : ∃ A c, v = .slice A l.length c ∧ l.length ≤ c ∧ c ≤ maxLen ∧ HasPrs w w.heap.size A l.length l := by
  obtain ⟨A, c, e, h1, h2, h3⟩ := own_sliceN h
  exact ⟨A, c, e, h1, h2, rfl, h3⟩
theorem OwnPrs.nil (w : World) (B : Nat) : OwnPrs w B (.slice none 0 0) [] := World.ownsRow_nil _ _ _ _
theorem OwnPrs.below {w w' : World} {B : Nat} {v : Value} {l : List Pr} (h : OwnPrs w B v l) (hb : Below w.heap.size w w') : OwnPrs w' B v l := own_belowN h hb
def GivesP (B : Nat) (l : List Pr) (w : World) (e : Ending) (w' : World) : Prop := ∃ v', e = .returned v' ∧ OwnPrs w' B v' l ∧ Below B w w'

set_option maxRecDepth 100000 in
set_option maxHeartbeats 1600000 in
theorem samePairs_any (A A' : Option Addr) (n c c' C C' : Nat) (l : List Pr) (w : World) (h : HasPrs w C A n l) (h' : HasPrs w C' A' n l) (hn : n ≤ maxLen) :
    Calls Try.prog 30 #[.slice A n c, .slice A' n c'] w fun e w' => e = .returned (.bool true) ∧ Below w.heap.size w w' := by
  unfold maxLen at hn
  have H := Lib.hid h
  have H' := Lib.hid h'
  clear h h'
  go_enter Try.func30, Try.ntmps30
  go_wp2
  go_loopw [5] (fun i wr => ∃ k : Nat, k ≤ n ∧ i = .int .i64 (k : Int) ∧ ∃ m, wr = w.drewN m) (fun i _ => n - (intOf i).toNat)
  case atStart => exact ⟨0, by omega, rfl, 0, rfl⟩
  case round =>
    obtain ⟨k, hk, rfl, m, rfl⟩ := hrel
    by_cases hlt : k < n
    · obtain ⟨a, v, rfl, _, hv, c0, c1⟩ := H.out.at_ hlt
      obtain ⟨b, u, rfl, _, hu, d0, d1⟩ := H'.out.at_ hlt
      have e : u = v := by rw [hv] at hu; injection hu with h; exact h.symm
      subst e
      clear hv hu
      have hk0 : (0 : Int) ≤ (k : Int) := by omega
      have hk1 : (k : Int) < (n : Int) := by omega
      go_wp2
      go_quiet (fail)
      go_wp2
      go_roundw
      case rel => exact ⟨k + 1, by omega, by go_num, _, rfl⟩
      case measure => simp [intOf]; omega
    · go_wp2
      go_ret
      exact ⟨rfl, below_dr (Below.refl _ _) _⟩

theorem got_setC {W : World} {g : Nat} {t : TypeId} {x y z : Value} (x' y' z' : Value) (h : Box W g t #[x, y, z]) : Box (((W.setCell ⟨g, 0, none⟩ x').setCell ⟨g, 1, none⟩ y').setCell ⟨g, 2, none⟩ z') g t #[x', y', z'] := by
  have := ((h.set_ 0 x').set_ 1 y').set_ 2 z'
  simpa using this
def prOf (c : Chg) : Pr := (c.k, c.v)
def livesL (l : List Chg) : List Pr := (liveL l).map prOf
theorem lives_succ {l : List Chg} {k : Nat} {c : Chg} (h : l[k]? = some c) : livesL (l.take (k + 1)) = livesL (l.take k) ++ (if c.g then [] else [prOf c]) := by
  rw [take_snocC h]
  unfold livesL liveL
  rw [List.filter_append, List.map_append]
  cases e : c.g <;> simp [e]
theorem lives_len (l : List Chg) : (livesL l).length ≤ l.length := by unfold livesL liveL; rw [List.length_map]; exact List.length_filter_le _ _
open Classical in
noncomputable def livesT (l : List Chg) : List Pr := if Run l then livesL l else []
theorem livesT_run {l : List Chg} (h : Run l) : livesT l = livesL l := by unfold livesT; rw [if_pos h]
theorem livesT_no {l : List Chg} (h : ¬ Run l) : livesT l = [] := by unfold livesT; rw [if_neg h]

set_option maxRecDepth 100000 in
set_option maxHeartbeats 3200000 in
theorem refLive_any (A : Option Addr) (n ca C : Nat) (l : List Chg) (w : World) (h : HasChs w C A n l) (hC : C ≤ w.heap.size) (hn : n ≤ 9000) :
    Calls Try.prog 61 #[.slice A n ca] w (GivesP w.heap.size (livesT l) w) := by
  have H := Lib.hid h
  have HC := Lib.hid hC
  have Hl := Lib.hid h.1
  have Hrt := Lib.hid (fun wx (hx : Below w.heap.size w wx) => refRight_any A n ca C l wx (h.belowOf hx hC) (by unfold maxLen; omega) (Nat.le_trans hC hx.size))
  clear h hC
  by_cases hr : Run l
  · rw [livesT_run hr]
    rw [runB_true hr] at Hrt
    clear hr
    go_enter Try.func61, Try.ntmps61
    go_wp2
    go_loopw [3, 4] (fun o i wr => ∃ k : Nat, k ≤ n ∧ i = .int .i64 (k : Int) ∧ OwnPrs wr w.heap.size o (livesL (l.take k)) ∧ Below w.heap.size w wr) (fun _ i _ => n - (intOf i).toNat)
    case atStart => exact ⟨0, by omega, rfl, OwnPrs.nil _ _, Below.refl _ _⟩
    case round =>
      obtain ⟨k, hk, rfl, ho, hb⟩ := hrel
      have Ho := Lib.hid ho
      have Hb := Lib.hid hb
      have hsz := hb.size
      have Hrt1 := Lib.hid (Hrt.out wr hb)
      clear hb ho
      by_cases hlt : k < n
      · go_wp2_with fail
        refine Hrt1.out.mono ?_
        rintro e w2 ⟨rfl, hb2⟩
        have Hb2 := Lib.hid (Hb.out.trans (hb2.mono hsz))
        have hsz2 : w.heap.size ≤ w2.heap.size := Nat.le_trans hsz hb2.size
        have ho2 := Ho.out.below hb2
        clear hb2
        have Hlen := Lib.hid (lives_len (l.take k))
        have Hlk : Hid ((l.take k).length = k) := Lib.hid (by rw [List.length_take]; have := Hl.out; omega)
        obtain ⟨a, y, rfl, hab, hy, c0, c1, c2⟩ := (H.out.belowOf Hb2.out HC.out).at_ hlt
        have Hss := Lib.hid (lives_succ hy)
        have hk0 : (0 : Int) ≤ (k : Int) := by omega
        have hk1 : (k : Int) < (n : Int) := by omega
        clear hy
        obtain ⟨yk, yv, yg⟩ := y
        simp only at c0 c1 c2 Hss
        obtain ⟨N, hN⟩ : ∃ N, (livesL (l.take k)).length = N := ⟨_, rfl⟩
        obtain ⟨Ao, co, rfl, -, -, -⟩ := ho2.slice
        unfold OwnPrs at ho2
        rw [hN] at ho2 Hlen ⊢
        have Ho2 := Lib.hid ho2
        have HN := Lib.hid hN
        clear ho2 hN
        cases yg with
        | true =>
          rw [if_pos rfl, List.append_nil] at Hss
          go_wp2
          go_roundw
          case rel => exact ⟨k + 1, by omega, by go_num, by rw [Hss.out]; unfold OwnPrs; rw [HN.out]; exact Ho2.out, Hb2.out⟩
          case measure => simp [intOf]; omega
        | false =>
          rw [if_neg (by simp)] at Hss
          have Hk : Hid (∀ wx, w2.grownBy wx (Value.slice Ao N co).ownBlock → (wx.cell? (a.add (k * 3)) = some (.string yk) ∧ wx.cell? ⟨(a.add (k * 3)).block, (a.add (k * 3)).off + 1, none⟩ = some (.string yv)) ∧ w2.grownBy wx (Value.slice Ao N co).ownBlock) := Lib.hid fun wx hg => by
            have hb : ∀ {p : Addr} {u : Value}, p.block < C → w2.cell? p = some u → wx.cell? p = some u := fun {p u} hp hu => by
              have hp2 : p.block < w2.heap.size := by have := HC.out; omega
              exact (World.cell?_of_block (w := w2) (hg.block p.block hp2 fun e => by
                have h1 := (Ho2.out.lt _ e.symm).1
                have := HC.out
                omega)).trans hu
            exact ⟨⟨hb (by rw [addr_block]; exact hab) c0, hb (by show (a.add (k * 3)).block < C; rw [addr_block]; exact hab) c1⟩, hg⟩
          have hszL : w.heap.size ≤ (w2.drew.alloc (Obj.cells #[.string yk, .string yv] 59)).heap.size := by simp only [World.size_alloc]; exact Nat.le_succ_of_le hsz2
          go_wp2
          go_region_held3 (fun wx => (wx.cell? (a.add (k * 3)) = some (.string yk) ∧ wx.cell? ⟨(a.add (k * 3)).block, (a.add (k * 3)).off + 1, none⟩ = some (.string yv)) ∧ w2.grownBy wx (Value.slice Ao N co).ownBlock)
            (first | exact Hk.out _ (grown_below (Below.refl _ _).drew _) | exact Hk.out _ (World.grownBy.trans (And.right (by assumption)) (World.grownBy_alloc _ _ _)) | exact Hk.out _ (World.grownBy.trans (And.right (by assumption)) gA))
            (first
              | (refine step_append_hasN (by rfl) _ _ _ (by rfl) 59 pr_elem (by omega) Try.underlying50 (by rfl) (own_belowN Ho2.out ((Below.refl w2.heap.size w2).drew.alloc (Nat.le_refl _) (Obj.cells #[.string yk, .string yv] 59))) (by rfl) (Has.lit w2.drew #[.string yk, .string yv] 59) (fun u hu => by simp at hu; rcases hu with rfl | rfl <;> rfl) (by have := Hlen.out; have := Hlk.out; simp only [maxLen]; omega) (by have := Hlen.out; have := Hlk.out; omega) hszL ?_; intro vA wA oA gA zA))
          all_goals
            have HoA : Hid (OwnPrs wA w.heap.size vA (livesL (l.take k) ++ [prOf ⟨yk, yv, false⟩])) := Lib.hid (by unfold OwnPrs; rw [List.length_append, prCells_app, HN.out]; exact oA)
            have HbA : Hid (Below w.heap.size w wA) := Lib.hid ((Hb2.out.drew.alloc hsz2 (Obj.cells #[.string yk, .string yv] 59)).trans ((Below.refl _ _).grown gA hszL fun g e => (Ho2.out.lt g e).1))
            clear oA gA zA
            go_wp2
            go_roundw
            case rel => exact ⟨k + 1, by omega, by go_num, by rw [Hss.out]; exact HoA.out, HbA.out⟩
            case measure => simp [intOf]; omega
      · obtain rfl : k = n := by omega
        have E : Hid (l.take k = l) := Lib.hid (List.take_of_length_le (by have := Hl.out; omega))
        rw [E.out] at Ho
        go_wp2
        go_ret
        exact ⟨_, rfl, Ho.out, Hb.out⟩
  · rw [livesT_no hr]
    rw [runB_false hr] at Hrt
    have hpos : 0 < n := by
      rw [← Hl.out]
      cases l with
      | nil => exact absurd Run.nil hr
      | cons x l => simp
    clear hr
    have Hrt1 := Lib.hid (Hrt.out _ (Below.refl _ _))
    go_enter Try.func61, Try.ntmps61
    go_wp2
    go_loopw [3, 4] (fun o i wr => i = .int .i64 0 ∧ o = .slice none 0 0 ∧ wr = w) (fun _ i _ => 0)
    case atStart => exact ⟨rfl, rfl, rfl⟩
    case round =>
      obtain ⟨rfl, rfl, rfl⟩ := hrel
      go_wp2_with fail
      refine Hrt1.out.mono ?_
      rintro e w2 ⟨rfl, hb2⟩
      have Hb2 := Lib.hid hb2
      clear hb2
      go_wp2
      go_ret
      exact ⟨_, rfl, OwnPrs.nil _ _, Hb2.out⟩
end Go.Proofs.Yteioopcacpihpaa

namespace Go.Proofs.Yteioopcacpihpaa
open Go.RowKit
open Go.Lib (strCells compareBytes)

def LightsP (L : List (List Chg)) (w : World) (e : Ending) (w' : World) : Prop := ∃ b : Bool, e = .returned (.bool b) ∧ (b = true → L.length ≤ 40 ∧ ∀ l ∈ L, LightC 30 l) ∧ ∃ q, w' = w.drewN q
set_option maxRecDepth 100000 in
theorem light10_any (A : Option Addr) (n c C : Nat) (rs : Crs) (w : World) (h : HasCrs w C A n rs) (hn : n ≤ maxLen) (hs : ∀ l ∈ crLists rs, ∀ u ∈ l, u.k.size ≤ maxLen ∧ u.v.size ≤ maxLen) :
    Calls Try.prog 21 #[.slice A n c] w (LightsP (crLists rs) w) := by
  unfold maxLen at hn
  have H := Lib.hid h
  have Hs := Lib.hid hs
  have Hl : Hid ((crLists rs).length = n) := Lib.hid (by rw [crLists_len]; exact h.len)
  clear h hs
  by_cases h10 : 40 < n
  · go_enter Try.func21, Try.ntmps21
    go_wp2
    go_ret
    exact ⟨false, rfl, by simp, 0, rfl⟩
  · go_enter Try.func21, Try.ntmps21
    go_wp2
    go_loopw [3] (fun i wr => ∃ k : Nat, k ≤ n ∧ i = .int .i64 (k : Int) ∧ Hid (∀ l ∈ (crLists rs).take k, LightC 30 l) ∧ ∃ q, wr = w.drewN q) (fun i _ => n - (intOf i).toNat)
    case atStart => exact ⟨0, by omega, rfl, Lib.hid (by simp), 0, rfl⟩
    case round =>
      obtain ⟨k, hk, rfl, Hp, q, rfl⟩ := hrel
      by_cases hlt : k < n
      · obtain ⟨a, A1, m1, c1, l, rfl, hab, hg, h1, h2, h3, d0, -⟩ := H.out.at_ hlt
        have Hg := Lib.hid hg
        have Hc := Lib.hid (light_any A1 m1 c1 C 30 l (w.drewN q) (h3.keep fun _ _ => rfl) (by omega) (by omega) (Hs.out l (List.mem_of_getElem? hg)))
        clear hg h3 h2 h1
        go_wp2_with fail
        refine Hc.out.mono ?_
        rintro e w1 ⟨b, rfl, hbl, q2, rfl⟩
        have Hbl := Lib.hid hbl
        clear hbl
        cases b with
        | false =>
          go_wp2
          go_ret
          exact ⟨false, rfl, by simp, q + q2, rfl⟩
        | true =>
          have Hp1 : Hid (∀ l ∈ (crLists rs).take (k + 1), LightC 30 l) := Lib.hid (by
            rw [List.take_add_one, Hg.out]
            intro x hx
            rcases List.mem_append.1 hx with hx | hx
            · exact Hp.out x hx
            · simp at hx; subst hx; exact Hbl.out rfl)
          go_wp2
          go_roundw
          case rel => exact ⟨k + 1, by omega, by go_num, Hp1, q + q2, rfl⟩
          case measure => simp [intOf]; omega
      · have E : Hid ((crLists rs).length ≤ 40 ∧ ∀ l ∈ crLists rs, LightC 30 l) := Lib.hid ⟨by have := Hl.out; omega, by have h1 := Hp.out; rwa [List.take_of_length_le (by have := Hl.out; omega)] at h1⟩
        obtain rfl : k = n := by omega
        go_wp2
        go_ret
        exact ⟨true, rfl, fun _ => E.out, q, rfl⟩

/-- an engine and a map of the document's, made since w: in blocks of their own -/
def EngMap (w : World) (e b H : Nat) (lim : Int) (M N : List Chg) (W : World) : Prop :=
  ∃ pairs tv rv T rs mv, EngAt W e lim pairs tv rv T rs ∧ EngP H lim pairs T (crLists rs) ∧ absL (T :: crLists rs) = M ∧ MapAt W b mv N ∧
    w.heap.size ≤ e ∧ w.heap.size ≤ b ∧ e ≠ b ∧ (∀ g, tv.ownBlock = some g → w.heap.size ≤ g ∧ g ≠ b ∧ mv.ownBlock ≠ some g) ∧ rv.ownBlock ≠ some b ∧ (∀ r ∈ rs, r.1.ownBlock ≠ some b) ∧ mv.ownBlock ≠ some e ∧ Below w.heap.size w W
theorem EngMap.len {w W : World} {e b H : Nat} {lim : Int} {M N : List Chg} (h : EngMap w e b H lim M N W) : M.length ≤ H := by
  obtain ⟨pairs, tv, rv, T, rs, mv, hE, hP, rfl, -⟩ := h
  exact (PairsP.of hP).len
theorem EngMap.below {w W : World} {e b H : Nat} {lim : Int} {M N : List Chg} (h : EngMap w e b H lim M N W) : Below w.heap.size w W := by
  obtain ⟨pairs, tv, rv, T, rs, mv, -, -, -, -, -, -, -, -, -, -, -, hb⟩ := h
  exact hb
theorem EngMap.next {w W W' : World} {e b H : Nat} {lim : Int} {M N : List Chg} (h : EngMap w e b H lim M N W) (hb' : Below W.heap.size W W') : EngMap w e b H lim M N W' := by
  obtain ⟨pairs, tv, rv, T, rs, mv, hE, hP, hM, hm, h1, h2, h3, h4, h5, h6, h7, hb⟩ := h
  exact ⟨pairs, tv, rv, T, rs, mv, hE.below hb', hP, hM, hm.below hb', h1, h2, h3, h4, h5, h6, h7, hb.trans (hb'.mono hb.size)⟩
theorem EngMap.up {w W : World} {e b H H' : Nat} {lim : Int} {M N : List Chg} (h : EngMap w e b H lim M N W) (hH : H ≤ H') : EngMap w e b H' lim M N W := by
  obtain ⟨pairs, tv, rv, T, rs, mv, hE, hP, hM, hm⟩ := h
  exact ⟨pairs, tv, rv, T, rs, mv, hE, ⟨hP.lim1, hP.runs, hP.full, hP.num, Nat.le_trans hP.held hH, hP.small⟩, hM, hm⟩
theorem chs_block {w : World} {B n : Nat} {A : Option Addr} {l : List Chg} (h : HasChs w B A n l) (hn : n ≠ 0) : ∀ a, A = some a → a.block < B := by
  intro a ea
  obtain ⟨a', y, e1, hab, -⟩ := h.at_ (i := 0) (by omega)
  rw [ea] at e1
  injection e1 with e1
  subst e1
  simpa [addr_block] using hab
theorem EngMap.putE {w W : World} {e b H : Nat} {lim : Int} {M N : List Chg} (h : EngMap w e b H lim M N W) (A : Option Addr) (n c : Nat) (l : List Chg) (hx : HasChs W w.heap.size A n l) (hH : H + n ≤ 8000) (hs : ∀ x ∈ l, x.k.size ≤ 4000 ∧ x.v.size ≤ 4000) :
    Calls Try.prog 23 #[.pointer (some ⟨e, 0, none⟩), .slice A n c] W fun e' w' => e' = .returned (.tuple #[]) ∧ EngMap w e b (H + n) lim (mapAll l M) N w' := by
  obtain ⟨pairs, tv, rv, T, rs, mv, hE, hP, hM, hm, h1, h2, h3, h4, h5, h6, h7, hb⟩ := h
  have hblk := chs_block hx
  refine (batch_any hE hP A n c l (hx.more hb.size) (fun hn a ea => ⟨fun e1 => ?_, fun e1 => ?_⟩) hH hs).mono ?_
  · have := hblk hn a ea; omega
  · have := hblk hn a ea; have := (h4 _ e1).1; omega
  rintro e' w2 ⟨g1, p2, tv2, rv2, T2, rs2, hE2, hP2, ha2, hF2, ht2, -, hN⟩
  have hl : l.length = n := hx.1
  have hbW := hm.box.lt
  refine ⟨g1, p2, tv2, rv2, T2, rs2, mv, hE2, by rw [← hl]; exact hP2, by rw [ha2, hM], hm.frm hF2 (fun hi => ?_) (fun g hg hi => ?_), h1, h2, h3, fun g hg => ?_, fun hg => ?_, fun r hr hg => ?_, h7, hb.trans (hF2.below (fun i hi => ?_) hb.size)⟩
  · rcases hi with hi | hi
    · exact h3 hi.symm
    · exact (h4 _ hi).2.1 rfl
  · rcases hi with hi | hi
    · exact h7 (hi ▸ hg)
    · exact (h4 _ hi).2.2 hg
  · rcases ht2 with h8 | h8
    · exact h4 g (h8 ▸ hg)
    · have h9 := h8 g hg
      have := hb.size
      refine ⟨by omega, by omega, fun hmg => ?_⟩
      have := (hm.row.lt g hmg).2
      omega
  · rcases hN.1 b hg with h8 | h8
    · exact h5 h8
    · omega
  · rcases hN.2 r hr b hg with ⟨r1, h8, h9⟩ | h8
    · exact h6 r1 h8 h9
    · omega
  · rcases hi with rfl | hi
    · exact h1
    · exact (h4 i hi).1
theorem EngMap.putM {w W : World} {e b H : Nat} {lim : Int} {M N : List Chg} (h : EngMap w e b H lim M N W) (A : Option Addr) (n c : Nat) (l : List Chg) (hx : HasChs W w.heap.size A n l) (hn : n ≤ 1000) (hN : N.length ≤ 5000) :
    Calls Try.prog 24 #[.pointer (some ⟨b, 0, none⟩), .slice A n c] W fun e' w' => e' = .returned (.tuple #[]) ∧ EngMap w e b H lim M (mapAll l N) w' := by
  obtain ⟨pairs, tv, rv, T, rs, mv, hE, hP, hM, hm, h1, h2, h3, h4, h5, h6, h7, hb⟩ := h
  have hblk := chs_block hx
  refine (mapPut_any hm A n c l (hx.more hb.size) (fun h0 a ea e1 => ?_) hn hN).mono ?_
  · have := hblk h0 a ea; omega
  rintro e' w2 ⟨g1, mv2, hm2, hF, hv⟩
  have heW := hE.box.lt
  refine ⟨g1, pairs, tv, rv, T, rs, mv2, hE.frm hF h3 (fun g hg => (h4 g hg).2.1) (fun g hg e1 => h5 (e1 ▸ hg)) (fun r hr g hg e1 => h6 r hr (e1 ▸ hg)), hP, hM, hm2, h1, h2, h3, fun g hg => ⟨(h4 g hg).1, (h4 g hg).2.1, fun hg2 => ?_⟩, h5, h6, fun hg2 => ?_, hb.trans (hF.below (fun i hi => hi ▸ h2) hb.size)⟩
  · rcases hv g hg2 with h8 | h8
    · exact (h4 g hg).2.2 h8
    · have := (hE.tab.lt g hg).2; omega
  · rcases hv e hg2 with h8 | h8
    · exact h7 h8
    · omega
theorem flat_take {L : List (List Chg)} {k : Nat} {l : List Chg} (h : L[k]? = some l) (M : List Chg) : mapAll ((L.take (k + 1)).flatten) M = mapAll l (mapAll ((L.take k).flatten) M) := by
  rw [List.take_add_one, h, List.flatten_append, mapAll_app]
  simp
/-- an engine and a map that batches were put to -/
def FilledPost (L : List (List Chg)) (lim : Int) (w : World) (e' : Ending) (w' : World) : Prop :=
  ∃ e b, e' = .returned (.tuple #[.pointer (some ⟨e, 0, none⟩), .pointer (some ⟨b, 0, none⟩)]) ∧ EngMap w e b 1200 lim (mapAll L.flatten []) (mapAll L.flatten []) w'
set_option maxRecDepth 100000 in
set_option maxHeartbeats 3200000 in
theorem filled_any (A : Option Addr) (n c : Nat) (rs : Crs) (limit lim : Int) (w : World) (h : HasCrs w w.heap.size A n rs) (hL : (crLists rs).length ≤ 40 ∧ ∀ l ∈ crLists rs, LightC 30 l) (hl : (if limit < 1 then 1 else limit) = lim) (h1 : 1 ≤ lim) :
    Calls Try.prog 34 #[.slice A n c, .int .i64 limit] w (FilledPost (crLists rs) lim w) := by
  have H := Lib.hid h
  have HL := Lib.hid hL
  have Hl : Hid ((crLists rs).length = n) := Lib.hid (by rw [crLists_len]; exact h.len)
  have hn40 : n ≤ 40 := by have := Hl.out; have := hL.1; omega
  clear h hL
  go_enter Try.func34, Try.ntmps34
  go_wp2_with fail
  refine (new_any limit lim w hl).mono ?_
  rintro e' w1 ⟨e, rv, rfl, hwe, hE, hrv, hb1⟩
  have he1 := hE.box.lt
  have hPm : EngP 0 lim (([] : List Chg).length : Int) [] (crLists (aloneR (.slice none 0 0) [])) := (PairsP.eng (l := []) (H := 0) ⟨Run.nil, by simp, by simp, by simp⟩ h1 : EngP 0 lim (([] : List Chg).length : Int) [] (aloneL []))
  have HE0 : Hid (EngMap w e w1.heap.size 0 lim [] [] (w1.alloc (.cells #[.slice none 0 0] 44))) := Lib.hid
    ⟨_, _, _, _, _, .slice none 0 0, hE.below (below_box _), hPm, rfl, ⟨Box.made _ _ _, World.ownsRow_nil _ _ _ _, fun e1 => by cases e1⟩, hwe, hb1.size, by omega, fun g hg => (by cases hg), fun e1 => by have := hE.oldR _ e1; omega, fun r hr => (by simp [aloneR] at hr), fun e1 => (by cases e1), hb1.alloc hb1.size _⟩
  clear hE hrv hb1 hPm
  go_wp2
  go_loopw [8] (fun iv wr => ∃ k : Nat, k ≤ n ∧ iv = .int .i64 (k : Int) ∧ Hid (EngMap w e w1.heap.size (30 * k) lim (mapAll ((crLists rs).take k).flatten []) (mapAll ((crLists rs).take k).flatten []) wr)) (fun iv _ => n - (intOf iv).toNat)
  case atStart => exact ⟨0, by omega, rfl, HE0⟩
  case round =>
    clear HE0
    obtain ⟨k, hk, rfl, HM⟩ := hrel
    by_cases hlt : k < n
    · obtain ⟨a, A1, m1, c1, l, rfl, hab, hg, g1, g2, g3, d0, -⟩ := H.out.at_ hlt
      have Hll := Lib.hid (HL.out.2 l (List.mem_of_getElem? hg))
      have hm1 : m1 ≤ 30 := by have h2 := g3.1; have := Hll.out.1; omega
      have HF := Lib.hid (flat_take hg [])
      have Hs : Hid (∀ x ∈ l, x.k.size ≤ 4000 ∧ x.v.size ≤ 4000) := Lib.hid fun x hx => by have := Hll.out.mem hx; omega
      have HNl := Lib.hid HM.out.len
      have HR : Hid (∀ wx, Below w.heap.size w wx → HasChs wx w.heap.size A1 m1 l ∧ wx.cell? (a.add k) = some (.slice A1 m1 c1)) := Lib.hid fun wx hb => ⟨g3.belowOf hb (Nat.le_refl _), (hb.cell (p := a.add k) (by rw [addr_block]; exact hab)).trans d0⟩
      have Hq := Lib.hid (HM.out.putE A1 m1 c1 l (HR.out wr HM.out.below).1 (by omega) Hs.out)
      obtain ⟨-, d1⟩ := HR.out wr HM.out.below
      have hk0 : (0 : Int) ≤ (k : Int) := by omega
      have hk1 : (k : Int) < (n : Int) := by omega
      clear hg g1 g2 g3 d0
      go_wp2_with fail
      refine Hq.out.mono ?_
      rintro e' w3 ⟨rfl, hM3⟩
      obtain ⟨g4, d4⟩ := HR.out w3 hM3.below
      have Hq3 := Lib.hid (hM3.putM A1 m1 c1 l g4 (by omega) (by have := HNl.out; omega))
      clear Hq g4 hM3
      go_wp2_with fail
      refine Hq3.out.mono ?_
      rintro e' w4 ⟨rfl, hM4⟩
      have HM4 : Hid (EngMap w e w1.heap.size (30 * (k + 1)) lim (mapAll ((crLists rs).take (k + 1)).flatten []) (mapAll ((crLists rs).take (k + 1)).flatten []) w4) := Lib.hid (by rw [HF.out]; exact hM4.up (by omega))
      clear hM4 Hq3
      go_wp2
      go_roundw
      case rel => exact ⟨k + 1, by omega, by go_num, HM4⟩
      case measure => simp [intOf]; omega
    · obtain rfl : k = n := by omega
      have E : Hid ((crLists rs).take k = crLists rs) := Lib.hid (List.take_of_length_le (by have := Hl.out; omega))
      have HE : Hid (EngMap w e w1.heap.size 1200 lim (mapAll (crLists rs).flatten []) (mapAll (crLists rs).flatten []) wr) := Lib.hid (by have h2 := HM.out; rw [E.out] at h2; exact h2.up (by omega))
      go_wp2
      go_ret2
      exact ⟨e, w1.heap.size, rfl, HE.out⟩

end Go.Proofs.Yteioopcacpihpaa
