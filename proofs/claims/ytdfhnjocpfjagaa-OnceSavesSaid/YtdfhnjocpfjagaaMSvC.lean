/- once.Save gives the table's text. Condition: the table is in memory, and may be; its records' numbers are of 64 bits; it has at most 40,000 clients. -/
import Derived.Test.YtdfhnjocpfjagaaMSvA
import Derived.Test.YtdfhnjocpfjagaaObA
import Derived.Test.YtdfhnjocpfjagaaOnC
import Derived.Test.YtdfhnjocpfjagaaRfC
namespace Go.Proofs.Ytdfhnjocpfjagaa
open Go.RowKit
open Go.Lib (strCells)

section
variable {F : Nat → Prop} {w w' : World} {ab : Nat} {E : List (Int × AV)}
/-- 'answers[number]', where there is one -/
theorem AnsAt.look1 (h : AnsAt w F ab E) (k : Int) (hk : (Lit.int .i64 k).wf = true) {e : AV} (hg : getG k E = some e) :
    (Instr.lookup 126 (.map (some ab)) (.int .i64 k) false).run Try.prog w = .ok (.agg #[.int .i64 e.p.code, .bool e.p.there, .slice e.A e.p.rc.length e.c, .slice none 0 0, .int .i64 e.p.id]) w := by
  have hz : (zeroValue 82).run Try.prog w = .ok (.agg #[.int .i64 0, .bool false, .slice none 0 0, .slice none 0 0, .int .i64 0]) w := Try.zeroValue82 w
  have hkey := Maps.keyOf_int_mk Try.underlying3 hk
  obtain ⟨v, ps, hrun, hv⟩ := h.own.lookup intKeyed Try.underlying126 hz (zd := .held (.agg #[.int .i64 0, .bool false, .slice none 0 0, .slice none 0 0, .int .i64 0])) rfl hkey
  rw [gmap_at, hg] at hv
  simp only [Rn, Option.some.injEq, Prod.mk.injEq, DataW.held.injEq] at hv
  rw [hv.1] at hrun
  exact hrun
theorem AnsAt.len_ (h : AnsAt w F ab E) : (Builtin.len_ #[126] 3 #[.map (some ab)]).run Try.prog w = .ok (.int .i64 (E.length : Int)) w := by
  have h1 := h.own.len (ty := 3) Try.underlying126
  rwa [gmap_size] at h1
end
section
variable {w w' : World} {B B' m c : Nat} {A : Option Addr} {l : List Int} {o : Value} {rs : Pvs}
theorem numRow.below (h : numRow w B A m c l) (hb : Below w.heap.size w w') : numRow w' B A m c l := own_belowN h hb
theorem numRow.grownP (h : numRow w B A m c l) (ho : OwnPv w B' o rs) (hg : w.grownBy w' o.ownBlock) : numRow w' B A m c l := own_otherP hg ho.own h (by decide)
theorem box_grownP {g : Nat} {t : TypeId} {cs : Array Value} (hb : Box w g t cs) (ho : OwnPv w B o rs) (ht : 22 ≠ t) (hg : w.grownBy w' o.ownBlock) : Box w' g t cs := hb.grown hg fun e => by
  obtain ⟨ds, hd⟩ := ownL_type ho.own e.symm
  exact types_ne hd hb ht rfl
theorem below_grownP {w0 : World} (h : Below B w0 w) (ho : OwnPv w B o rs) (hB : B ≤ w.heap.size) (hg : w.grownBy w' o.ownBlock) : Below B w0 w' := h.grown hg hB fun g e => (ho.own.lt g e).1
end
/-- the forms that stand behind some of n clients -/
def formsT (n : Nat) (L : Tb) : List (List UInt8) := numForm n :: L.flatMap cliF
theorem formsT_succ {n : Nat} {T : Tb} {j : Nat} {e : Int × Pa} (h : T[j]? = some e) : formsT n (T.take (j + 1)) = formsT n (T.take j) ++ cliF e := by
  unfold formsT
  rw [List.take_add_one, h]
  simp
theorem formsT_len {T : Tb} (hT : TGood T) (n j : Nat) : (formsT n (T.take j)).length ≤ 1 + 11 * j := by
  have h1 := (clis_len (T.take j) fun e he => ⟨(hT.cl e (List.mem_of_mem_take he)).1, (hT.cl e (List.mem_of_mem_take he)).2.2⟩).2
  have h2 : cntT (T.take j) ≤ 4 * (T.take j).length := cnt_four fun e he => (hT.cl e (List.mem_of_mem_take he)).2.2.len
  have h3 : (T.take j).length ≤ j := by rw [List.length_take]; omega
  unfold formsT
  rw [List.length_cons]
  omega
set_option maxRecDepth 100000 in
set_option maxHeartbeats 12800000 in
theorem onceSave_any {F : Nat → Prop} {w : World} {sb : Nat} {T : Tb} (h : TabAt w F sb T) (hT : TGood T) (hi : TInt T) (hl : T.length ≤ 40000) :
    Calls Try.prog 61 #[.pointer (some ⟨sb, 0, none⟩)] w fun e w' => e = .returned (.string ⟨(saveT T).toArray⟩) ∧ Below w.heap.size w w' := by
  obtain ⟨mb, M, hM, hMT⟩ := h
  obtain ⟨N, hN⟩ : ∃ N, M.length = N := ⟨_, rfl⟩
  have hTN : T.length = N := by rw [← hMT, mapG_len]; exact hN
  have hN0 : N ≤ 40000 := by omega
  have HM : Hid (∀ wx, Below w.heap.size w wx → TabM wx F sb mb M) := Lib.hid fun wx hb => hM.below hb
  have HQ : Hid (∀ wx, Below w.heap.size w wx → wx.cell? ⟨sb, 0, none⟩ = some (.map (some mb))) := Lib.hid fun wx hb => (hM.below hb).cell
  have HMr := Lib.hid hM.rise
  have HT := Lib.hid hT
  have HiT := Lib.hid hi
  have HMT := Lib.hid hMT
  have HN := Lib.hid hN
  have HSl := Lib.hid (save_len hT (by omega))
  have HTN := Lib.hid hTN
  have q0 := HQ.out w (Below.refl _ _)
  have hlen := hM.own.len (ty := 3) Try.underlying123
  rw [gmap_size, hN] at hlen
  clear hM hMT hT hi hN hTN hl
  go_enter Try.func61, Try.ntmps61
  go_wp2_with fail
  refine (num_any (N : Int) _ (by omega)).mono ?_
  rintro e w2 ⟨v2, rfl, ho2, hb2⟩
  rw [if_neg (by omega), Int.toNat_natCast] at ho2
  obtain ⟨A2, c2, rfl, -, -, -⟩ := own_slice ho2
  obtain ⟨w3, hw3⟩ : ∃ w3, w2.alloc (.cells #[.slice A2 (numForm N).length c2] 22) = w3 := ⟨_, rfl⟩
  have HP : Hid (OwnPv w3 w.heap.size (.slice (some ⟨w2.heap.size, 0, none⟩) 1 1) [(.slice A2 (numForm N).length c2, numForm N)]) := Lib.hid
    ⟨hw3 ▸ World.ownsRow_lit (base := w.heap.size) (e := 22) (size := 1) w2 #[.slice A2 (numForm N).length c2] 1 hb2.size (by simp [maxLen]) rfl, fun r hr => by
      simp at hr
      subst hr
      exact hw3 ▸ own_belowN ho2 (below_box _)⟩
  have HB3 : Hid (Below w.heap.size w w3) := Lib.hid (hw3 ▸ hb2.alloc hb2.size _)
  have q3 := HQ.out w3 HB3.out
  have Hs := Lib.hid (sortedKeysP_any mb M.length _ w3 (HM.out w3 HB3.out).own (by rw [gmap_size, HN.out]; simp only [maxLen]; omega) (by rw [gmap_size, HN.out]; omega))
  clear ho2 hb2 q0 hlen
  go_wp2_with fail
  refine (mapsKeysP_any (some mb) _).mono ?_
  rintro e w4 ⟨rfl, rfl⟩
  go_wp2_with fail
  refine Hs.out.mono ?_
  rintro e w5 ⟨v5, ss, rfl, hp, hrow, -, hb5⟩
  have hb35 : Below w3.heap.size w3 w5 := (below_box (w := w3) (.cells #[.map (some mb)] 123)).trans (hb5.mono (by simp))
  rw [gmap_keys] at hp
  have hsort := sort_ints hp (riseG_nums HMr.out)
  have hlen : ss.length = N := by rw [hp.length_eq, ← HN.out]; simp [numsG]
  rw [hsort, hlen] at hrow
  obtain ⟨Ak, ck, rfl, -, -, -⟩ := own_slice hrow
  have H5 : Hid (OwnPv w5 w.heap.size (.slice (some ⟨w2.heap.size, 0, none⟩) 1 1) [(.slice A2 (numForm N).length c2, numForm N)] ∧ ([(Value.slice A2 (numForm N).length c2, numForm N)] : Pvs).map (·.2) = formsT N (T.take 0) ∧ numRow w5 w.heap.size Ak N ck (numsG M) ∧ Below w.heap.size w w5) := Lib.hid
    ⟨HP.out.below hb35, rfl, own_baseN hrow (Nat.le_trans HB3.out.size (by simp)), HB3.out.trans (hb35.mono HB3.out.size)⟩
  clear hb5 hb35 hp hrow hsort hlen HP HB3 q3 Hs hw3
  go_wp2
  go_loopw [3, 23] (fun o iv wr => ∃ (j : Nat) (rs : Pvs), j ≤ N ∧ iv = .int .i64 (j : Int) ∧ Hid (OwnPv wr w.heap.size o rs ∧ rs.map (·.2) = formsT N (T.take j) ∧ numRow wr w.heap.size Ak N ck (numsG M) ∧ Below w.heap.size w wr)) (fun _ iv _ => N - (intOf iv).toNat)
  case atStart => exact ⟨0, _, by omega, rfl, H5⟩
  case round =>
    obtain ⟨j, rs, hj, rfl, HR⟩ := hrel
    clear H5
    obtain ⟨Ap, cp, rfl, -, -, -⟩ := own_slice HR.out.1.own
    obtain ⟨Nr, hNr⟩ : ∃ Nr, rs.length = Nr := ⟨_, rfl⟩
    rw [hNr] at HR ⊢
    have HNr := Lib.hid hNr
    have HNb : Hid (Nr ≤ 1 + 11 * j) := Lib.hid (by
      have h1 := congrArg List.length HR.out.2.1
      rw [List.length_map, hNr] at h1
      rw [h1]
      exact formsT_len HT.out N j)
    clear hNr
    by_cases hlt : j < N
    · obtain ⟨⟨z, p⟩, hMj⟩ : ∃ e, M[j]? = some e := ⟨_, List.getElem?_eq_getElem (by have := HN.out; omega)⟩
      have hTj : T[j]? = some (z, p.p) := by rw [← HMT.out]; unfold mapG; rw [List.getElem?_map, hMj]; rfl
      have HTj := Lib.hid hTj
      obtain ⟨hz, hne, hpg⟩ := HT.out.cl _ (List.mem_of_getElem? hTj)
      simp only at hz hne hpg
      have hgz : getG z M = some p := getG_of HMr.out (List.mem_of_getElem? hMj)
      have hwz : (Lit.int .i64 z).wf = true := wf_of (by omega)
      obtain ⟨a, rfl, ck0, -, -⟩ := num_cell HR.out.2.2.1 (j := j) (z := z) (by unfold numsG; rw [List.getElem?_map, hMj]; rfl) hlt
      have hj0 : (0 : Int) ≤ (j : Int) := by omega
      have hj1 : (j : Int) < (N : Int) := by omega
      have q0 := HQ.out wr HR.out.2.2.2
      have hlk := (((HM.out wr HR.out.2.2.2).look z hwz).2 p hgz).2
      have HA : Hid (∀ wx, Below w.heap.size w wx → AnsAt wx F p.ab p.E) := Lib.hid fun wx hb => (HM.out wx hb).ans z p hgz
      have HE4 : Hid (p.E.length ≤ 4) := Lib.hid (by have h1 := hpg.len; have h2 := plE_len p.E; unfold PV.p at h1; simp only at h1; omega)
      have HEr : Hid (RiseG p.E) := Lib.hid (riseG_map.1 hpg.rise)
      have HEn : Hid (∀ (i : Nat) (x : Int × AV), p.E[i]? = some x → ((1 ≤ x.1 ∧ x.1 ≤ 1099511627776) ∧ x.2.p.Right ∧ ∀ v ∈ x.2.p.rc, InI64 v.n) ∧ (plE p.E)[i]? = some (x.1, x.2.p) ∧ getG x.1 p.E = some x.2) := Lib.hid fun i x hx => by
        have h1 : (plE p.E)[i]? = some (x.1, x.2.p) := by unfold plE mapG; rw [List.getElem?_map, hx]; rfl
        have h2 := hpg.num (x.1, x.2.p) (List.mem_of_getElem? h1)
        have h3 := hpg.fl
        refine ⟨⟨by simp only at h2; omega, h2.2, HiT.out.list HT.out _ (List.mem_of_getElem? hTj) _ (List.mem_of_getElem? h1)⟩, h1, getG_of (riseG_map.1 hpg.rise) (List.mem_of_getElem? hx)⟩
      have Hfl : Hid (0 ≤ p.fl ∧ p.fl ≤ 1099511627776) := Lib.hid hpg.fl
      have HCF : Hid (cliF (z, p.p) = [numForm z.toNat, numForm p.fl.toNat, numForm p.E.length] ++ (plE p.E).flatMap entL) := Lib.hid (by unfold cliF PV.p; simp only; rw [plE_len])
      have Hz := Lib.hid hz
      clear hMj hTj hne hpg hgz hwz
      obtain ⟨fl, ab, E⟩ := p
      simp only at hlk HA HE4 HEr HEn Hfl HCF
      obtain ⟨m, hm⟩ : ∃ m, E.length = m := ⟨_, rfl⟩
      rw [hm] at HE4 HCF
      have Hm := Lib.hid hm
      clear hm hz
      obtain ⟨w6a, hw6a⟩ : ∃ wx, wr.alloc (.cells #[.int .i64 0, .map none] 128) = wx := ⟨_, rfl⟩
      have x6a : Box w6a wr.heap.size 128 #[.int .i64 0, .map none] := hw6a ▸ Box.made _ _ _
      have u6a : Below wr.heap.size wr w6a := hw6a ▸ below_box _
      obtain ⟨w6, hw6⟩ : ∃ wx, ((w6a.setCell ⟨wr.heap.size, 0, none⟩ (.int .i64 fl)).setCell ⟨wr.heap.size, 1, none⟩ (.map (some ab))) = wx := ⟨_, rfl⟩
      obtain ⟨x6, gr6, s6⟩ := store2 x6a hw6
      have u6 : Below wr.heap.size wr w6 := u6a.grown gr6 u6a.size (fun g hg => by injection hg with hg; omega)
      have a0 : w6a.cell? ⟨wr.heap.size, 0, none⟩ = some (.int .i64 0) := x6a.cell 0
      have a1 : w6a.cell? ⟨wr.heap.size, 1, none⟩ = some (.map none) := x6a.cell 1
      have b0 : w6a.frozen? ⟨wr.heap.size, 0, none⟩ = false := x6a.frozen 0
      have b1 : w6a.frozen? ⟨wr.heap.size, 1, none⟩ = false := x6a.frozen 1
      have hdr : Below w6.heap.size w6 w6.drew := (Below.refl _ _).drew
      have u6d : Below wr.heap.size wr w6.drew := u6.trans (hdr.mono u6.size)
      have H6 : Hid (OwnPv w6.drew w.heap.size (.slice Ap Nr cp) rs ∧ numRow w6.drew w.heap.size (some a) N ck (numsG M) ∧ Below w.heap.size w w6.drew ∧ Box w6.drew wr.heap.size 128 #[.int .i64 fl, .map (some ab)]) := Lib.hid ⟨HR.out.1.below u6d, HR.out.2.2.1.below u6d, HR.out.2.2.2.trans (u6d.mono HR.out.2.2.2.size), x6.below hdr x6.lt⟩
      have HK : Hid (∀ wx, Below w.heap.size w wx ∧ Box wx wr.heap.size 128 #[.int .i64 fl, .map (some ab)] → wx.cell? ⟨wr.heap.size, 0, none⟩ = some (.int .i64 fl) ∧ wx.cell? ⟨wr.heap.size, 1, none⟩ = some (.map (some ab)) ∧ (Builtin.len_ #[126] 3 #[.map (some ab)]).run Try.prog wx = .ok (.int .i64 (m : Int)) wx) := Lib.hid fun wx hx => ⟨hx.2.cell 0, hx.2.cell 1, Hm.out ▸ (HA.out wx hx.1).len_⟩
      have HD : Hid (Below w.heap.size w w6.drew ∧ Box w6.drew wr.heap.size 128 #[.int .i64 fl, .map (some ab)]) := Lib.hid ⟨H6.out.2.2.1, H6.out.2.2.2⟩
      clear x6a u6a x6 gr6 s6 u6 hdr u6d
      go_wp2
      obtain ⟨pb, hpb⟩ : ∃ pb, wr.heap.size = pb := ⟨_, rfl⟩
      rw [hpb] at H6 HK HD ⊢
      clear a0 a1 b0 b1 hw6a hw6 hlk q0 ck0 hpb
      go_region_held3 (fun wx => wx.cell? ⟨pb, 0, none⟩ = some (.int .i64 fl) ∧ wx.cell? ⟨pb, 1, none⟩ = some (.map (some ab)) ∧ (Builtin.len_ #[126] 3 #[.map (some ab)]).run Try.prog wx = .ok (.int .i64 (m : Int)) wx)
        (first | exact HK.out _ HD.out | exact HK.out _ D3 | exact HK.out _ D4 | exact HK.out _ D5 | exact HK.out _ D6 | exact HK.out _ DA)
        (first
          | (go_at_call_of 19 (Value.int IntKind.i64 z); refine (num_any z _ (by have := Hz.out; omega)).mono ?_; rintro e w7 ⟨v3, rfl, o3, b3⟩; rw [if_neg (by have := Hz.out; omega)] at o3; obtain ⟨A3, m3, rfl, -, -, -⟩ := own_slice o3; have D3 : Below w.heap.size w w7 ∧ Box w7 pb 128 #[.int .i64 fl, .map (some ab)] := ⟨HD.out.1.trans (b3.mono HD.out.1.size), HD.out.2.below b3 HD.out.2.lt⟩)
          | (go_at_call_of 19 (Value.int IntKind.i64 fl); refine (num_any fl _ (by have := Hfl.out; omega)).mono ?_; rintro e w8 ⟨v4, rfl, o4, b4⟩; rw [if_neg (by have := Hfl.out; omega)] at o4; obtain ⟨A4, m4, rfl, -, -, -⟩ := own_slice o4; have D4 : Below w.heap.size w w8 ∧ Box w8 pb 128 #[.int .i64 fl, .map (some ab)] := ⟨D3.1.trans (b4.mono D3.1.size), D3.2.below b4 D3.2.lt⟩)
          | (go_at_call 19; refine (num_any (m : Int) _ (by have := HE4.out; omega)).mono ?_; rintro e w9 ⟨v5, rfl, o5, b5⟩; rw [if_neg (by omega), Int.toNat_natCast] at o5; obtain ⟨A5, m5, rfl, -, -, -⟩ := own_slice o5; have D5 : Below w.heap.size w w9 ∧ Box w9 pb 128 #[.int .i64 fl, .map (some ab)] := ⟨D4.1.trans (b5.mono D4.1.size), D4.2.below b5 D4.2.lt⟩; have L9 : Below w9.heap.size w9 (w9.alloc (.cells #[.slice A3 (numForm z.toNat).length m3, .slice A4 (numForm fl.toNat).length m4, .slice A5 (numForm m).length m5] 22)) := below_box _; have C9 : Below w6.drew.heap.size w6.drew (w9.alloc (.cells #[.slice A3 (numForm z.toNat).length m3, .slice A4 (numForm fl.toNat).length m4, .slice A5 (numForm m).length m5] 22)) := ((b3.trans (b4.mono b3.size)).trans (b5.mono (Nat.le_trans b3.size b4.size))).trans (L9.mono (Nat.le_trans b3.size (Nat.le_trans b4.size b5.size))); have D6 : Below w.heap.size w (w9.alloc (.cells #[.slice A3 (numForm z.toNat).length m3, .slice A4 (numForm fl.toNat).length m4, .slice A5 (numForm m).length m5] 22)) ∧ Box (w9.alloc (.cells #[.slice A3 (numForm z.toNat).length m3, .slice A4 (numForm fl.toNat).length m4, .slice A5 (numForm m).length m5] 22)) pb 128 #[.int .i64 fl, .map (some ab)] := ⟨D5.1.trans (L9.mono D5.1.size), D5.2.below L9 D5.2.lt⟩; have HPv := Lib.hid (H6.out.1.below C9); have HOw : Hid ((w9.alloc (.cells #[.slice A3 (numForm z.toNat).length m3, .slice A4 (numForm fl.toNat).length m4, .slice A5 (numForm m).length m5] 22)).ownsRow w.heap.size 22 1 (.slice Ap Nr cp) Nr (pvCells rs)) := Lib.hid (by have h9 := HPv.out.own; rw [HNr.out] at h9; exact h9))
          | (refine step_append_hasN (by rfl) _ _ _ (by rfl) 22 pv_elem (by omega) Try.underlying105 (by rfl) HOw.out (by rfl) (Has.lit w9 #[.slice A3 (numForm z.toNat).length m3, .slice A4 (numForm fl.toNat).length m4, .slice A5 (numForm m).length m5] 22) (fun u hu => by simp at hu; rcases hu with rfl | rfl | rfl <;> rfl) (by have := HNb.out; have := HNr.out; simp only [maxLen]; omega) (by have := HNb.out; have := HNr.out; omega) D6.1.size ?_; intro vA wA oA gA zA; have HPr := HPv.out; have gB : (w9.alloc (.cells #[.slice A3 (numForm z.toNat).length m3, .slice A4 (numForm fl.toNat).length m4, .slice A5 (numForm m).length m5] 22)).grownBy wA (Value.slice Ap Nr cp).ownBlock := gA; have DA : Below w.heap.size w wA ∧ Box wA pb 128 #[.int .i64 fl, .map (some ab)] := ⟨below_grownP D6.1 HPr D6.1.size gB, box_grownP D6.2 HPr (by decide) gB⟩))
      all_goals
        have HPA : Hid (OwnPv wA w.heap.size vA (rs ++ [(.slice A3 (numForm z.toNat).length m3, numForm z.toNat), (.slice A4 (numForm fl.toNat).length m4, numForm fl.toNat), (.slice A5 (numForm m).length m5, numForm m)])) := Lib.hid (by
          refine HPv.out.snoc (fun q hq => ?_) (by rw [HNr.out]; exact oA) gB
          have z3 := HD.out.1.size
          have z4 := D3.1.size
          have z5 := D4.1.size
          simp only [List.mem_cons, List.not_mem_nil, or_false] at hq
          rcases hq with rfl | rfl | rfl
          · exact own_baseN (own_belowN o3 ((b4.trans (b5.mono b4.size)).trans (L9.mono (Nat.le_trans b4.size b5.size)))) z3
          · exact own_baseN (own_belowN o4 (b5.trans (L9.mono b5.size))) z4
          · exact own_baseN (own_belowN o5 L9) z5)
        have HRA : Hid ((rs ++ [((.slice A3 (numForm z.toNat).length m3 : Value), numForm z.toNat), (.slice A4 (numForm fl.toNat).length m4, numForm fl.toNat), (.slice A5 (numForm m).length m5, numForm m)]).map (·.2) = formsT N (T.take j) ++ [numForm z.toNat, numForm fl.toNat, numForm m] ++ ((plE E).take 0).flatMap entL) := Lib.hid (by
          rw [List.map_append, HR.out.2.1]
          simp)
        have HKR : Hid (numRow wA w.heap.size (some a) N ck (numsG M)) := Lib.hid ((H6.out.2.1.below C9).grownP HPv.out gB)
        have HDA := Lib.hid DA
        clear oA gA gB zA o3 o4 o5 b3 b4 b5 D3 D4 D5 D6 DA C9 L9 HOw HPv HD HK H6
        have HNm := Lib.hid (numbers_any HDA.out.2 (HA.out wA HDA.out.1) (by rw [Hm.out]; have := HE4.out; omega))
        rw [Hm.out] at HNm
        go_wp2_with fail
        refine HNm.out.mono ?_
        rintro e wB ⟨vB, rfl, oB, bB⟩
        obtain ⟨An, cn, rfl, -, -, -⟩ := own_slice oB
        have H7 : Hid (OwnPv wB w.heap.size vA (rs ++ [(.slice A3 (numForm z.toNat).length m3, numForm z.toNat), (.slice A4 (numForm fl.toNat).length m4, numForm fl.toNat), (.slice A5 (numForm m).length m5, numForm m)]) ∧ numRow wB w.heap.size (some a) N ck (numsG M) ∧ numRow wB w.heap.size An m cn (numsG E) ∧ Box wB pb 128 #[.int .i64 fl, .map (some ab)] ∧ Below w.heap.size w wB) := Lib.hid ⟨HPA.out.below bB, HKR.out.below bB, own_baseN oB HDA.out.1.size, HDA.out.2.below bB HDA.out.2.lt, HDA.out.1.trans (bB.mono HDA.out.1.size)⟩
        clear oB bB HPA HKR HDA HNm
        go_wp2
        go_loopw [3, 47] (fun o iv wx => ∃ (i : Nat) (qs : Pvs), i ≤ m ∧ iv = .int .i64 (i : Int) ∧ Hid (OwnPv wx w.heap.size o qs ∧ qs.map (·.2) = formsT N (T.take j) ++ [numForm z.toNat, numForm fl.toNat, numForm m] ++ ((plE E).take i).flatMap entL ∧ numRow wx w.heap.size (some a) N ck (numsG M) ∧ numRow wx w.heap.size An m cn (numsG E) ∧ Box wx pb 128 #[.int .i64 fl, .map (some ab)] ∧ Below w.heap.size w wx)) (fun _ iv _ => m - (intOf iv).toNat)
        case atStart => exact ⟨0, _, by omega, rfl, Lib.hid ⟨H7.out.1, HRA.out, H7.out.2.1, H7.out.2.2.1, H7.out.2.2.2.1, H7.out.2.2.2.2⟩⟩
        case round =>
          obtain ⟨i, qs, him, rfl, HI⟩ := hrel
          clear H7 HRA
          obtain ⟨Ao, co, rfl, -, -, -⟩ := own_slice HI.out.1.own
          obtain ⟨Nq, hNq⟩ : ∃ Nq, qs.length = Nq := ⟨_, rfl⟩
          rw [hNq] at HI ⊢
          have HNq := Lib.hid hNq
          have HNc : Hid (Nq ≤ 4 + 11 * j + 8) := Lib.hid (by
            have h1 := congrArg List.length HI.out.2.1
            rw [List.length_map, hNq, List.length_append, List.length_append] at h1
            have h2 := formsT_len HT.out N j
            have h3 : (((plE E).take i).flatMap entL).length ≤ 8 := by
              have h4 : ∀ l : List (Int × Rp), (l.flatMap entL).length = 2 * l.length := fun l => by
                induction l with
                | nil => rfl
                | cons x l ih => rw [List.flatMap_cons, List.length_append, ih]; simp [entL]; omega
              rw [h4, List.length_take]
              have := HE4.out
              omega
            simp only [List.length_cons, List.length_nil] at h1
            omega)
          clear hNq
          have hm4 : m ≤ 4 := HE4.out
          by_cases hlt2 : i < m
          · obtain ⟨⟨nz, x⟩, hEi⟩ : ∃ e, E[i]? = some e := ⟨_, List.getElem?_eq_getElem (by have := Hm.out; omega)⟩
            obtain ⟨⟨hn1, hxr, hxi⟩, hpl, hgx⟩ := HEn.out i _ hEi
            simp only at hn1 hxr hxi hpl hgx
            have hwn : (Lit.int .i64 nz).wf = true := wf_of (by omega)
            obtain ⟨b, rfl, ck1, -, -⟩ := num_cell HI.out.2.2.2.1 (j := i) (z := nz) (by unfold numsG; rw [List.getElem?_map, hEi]; rfl) hlt2
            have hi0 : (0 : Int) ≤ (i : Int) := by omega
            have hi1 : (i : Int) < (m : Int) := by omega
            have Hn1 := Lib.hid hn1
            have Hpl : Hid (((plE E).take (i + 1)).flatMap entL = ((plE E).take i).flatMap entL ++ [numForm nz.toNat, flat (formL x.p)]) := Lib.hid (by rw [List.take_add_one, hpl]; simp [entL])
            have HF : Hid (∀ wx, Below w.heap.size w wx → Calls Try.prog 103 #[.agg #[.int .i64 x.p.code, .bool x.p.there, .slice x.A x.p.rc.length x.c, .slice none 0 0, .int .i64 x.p.id]] wx (Gives wx.heap.size (flat (formL x.p)).length (byteCells (flat (formL x.p))) wx)) := Lib.hid fun wx hb =>
              form_any x.p x.A x.p.rc.length x.c wx.heap.size none 0 0 wx ((HA.out wx hb).has hgx) (by have := (right_small hxr).1; simp only [maxLen]; omega) (Nat.le_refl _) hxr hxi
            have hdr : Below wr.heap.size wr wr.drew := (Below.refl _ _).drew
            have H6 : Hid (OwnPv wr.drew w.heap.size (.slice Ao Nq co) qs ∧ numRow wr.drew w.heap.size (some a) N ck (numsG M) ∧ numRow wr.drew w.heap.size (some b) m cn (numsG E)) := Lib.hid ⟨HI.out.1.below hdr, HI.out.2.2.1.below hdr, HI.out.2.2.2.1.below hdr⟩
            have HD : Hid (Below w.heap.size w wr.drew ∧ Box wr.drew pb 128 #[.int .i64 fl, .map (some ab)]) := Lib.hid ⟨HI.out.2.2.2.2.2.trans (hdr.mono HI.out.2.2.2.2.2.size), HI.out.2.2.2.2.1.below hdr HI.out.2.2.2.2.1.lt⟩
            have HK : Hid (∀ wx, Below w.heap.size w wx ∧ Box wx pb 128 #[.int .i64 fl, .map (some ab)] → wx.cell? ⟨pb, 1, none⟩ = some (.map (some ab)) ∧ (Instr.lookup 126 (.map (some ab)) (.int .i64 nz) false).run Try.prog wx = .ok (.agg #[.int .i64 x.p.code, .bool x.p.there, .slice x.A x.p.rc.length x.c, .slice none 0 0, .int .i64 x.p.id]) wx) := Lib.hid fun wx hx => ⟨hx.2.cell 1, (HA.out wx hx.1).look1 nz hwn hgx⟩
            obtain ⟨ep, hep⟩ : ∃ ep, x.p = ep := ⟨_, rfl⟩
            obtain ⟨eA, heA⟩ : ∃ eA, x.A = eA := ⟨_, rfl⟩
            obtain ⟨ec, hec⟩ : ∃ ec, x.c = ec := ⟨_, rfl⟩
            rw [hep, heA, hec] at HF HK
            rw [hep] at Hpl
            clear hEi hn1 hxr hxi hpl hgx hwn hdr hep heA hec
            go_wp2
            clear ck1
            go_region_held3 (fun wx => wx.cell? ⟨pb, 1, none⟩ = some (.map (some ab)) ∧ (Instr.lookup 126 (.map (some ab)) (.int .i64 nz) false).run Try.prog wx = .ok (.agg #[.int .i64 ep.code, .bool ep.there, .slice eA ep.rc.length ec, .slice none 0 0, .int .i64 ep.id]) wx)
              (first | exact HK.out _ HD.out | exact HK.out _ D3 | exact HK.out _ D4 | exact HK.out _ D6 | exact HK.out _ DA)
              (first
                | (go_at_call 19; refine (num_any nz _ (by have := Hn1.out; omega)).mono ?_; rintro e w7 ⟨v3, rfl, o3, b3⟩; rw [if_neg (by have := Hn1.out; omega)] at o3; obtain ⟨A3, m3, rfl, -, -, -⟩ := own_slice o3; have D3 : Below w.heap.size w w7 ∧ Box w7 pb 128 #[.int .i64 fl, .map (some ab)] := ⟨HD.out.1.trans (b3.mono HD.out.1.size), HD.out.2.below b3 HD.out.2.lt⟩)
                | (go_at_call 103; refine (HF.out _ D3.1).mono ?_; rintro e w8 ⟨v4, rfl, o4, b4⟩; obtain ⟨A4, m4, rfl, -, -, -⟩ := own_slice o4; have D4 : Below w.heap.size w w8 ∧ Box w8 pb 128 #[.int .i64 fl, .map (some ab)] := ⟨D3.1.trans (b4.mono D3.1.size), D3.2.below b4 D3.2.lt⟩; have L9 : Below w8.heap.size w8 (w8.alloc (.cells #[.slice A3 (numForm nz.toNat).length m3, .slice A4 (flat (formL ep)).length m4] 22)) := below_box _; have C9 : Below wr.drew.heap.size wr.drew (w8.alloc (.cells #[.slice A3 (numForm nz.toNat).length m3, .slice A4 (flat (formL ep)).length m4] 22)) := (b3.trans (b4.mono b3.size)).trans (L9.mono (Nat.le_trans b3.size b4.size)); have D6 : Below w.heap.size w (w8.alloc (.cells #[.slice A3 (numForm nz.toNat).length m3, .slice A4 (flat (formL ep)).length m4] 22)) ∧ Box (w8.alloc (.cells #[.slice A3 (numForm nz.toNat).length m3, .slice A4 (flat (formL ep)).length m4] 22)) pb 128 #[.int .i64 fl, .map (some ab)] := ⟨D4.1.trans (L9.mono D4.1.size), D4.2.below L9 D4.2.lt⟩; have HPv := Lib.hid (H6.out.1.below C9); have HOw : Hid ((w8.alloc (.cells #[.slice A3 (numForm nz.toNat).length m3, .slice A4 (flat (formL ep)).length m4] 22)).ownsRow w.heap.size 22 1 (.slice Ao Nq co) Nq (pvCells qs)) := Lib.hid (by have h9 := HPv.out.own; rw [HNq.out] at h9; exact h9))
                | (refine step_append_hasN (by rfl) _ _ _ (by rfl) 22 pv_elem (by omega) Try.underlying105 (by rfl) HOw.out (by rfl) (Has.lit w8 #[.slice A3 (numForm nz.toNat).length m3, .slice A4 (flat (formL ep)).length m4] 22) (fun u hu => by simp at hu; rcases hu with rfl | rfl <;> rfl) (by have := HNc.out; simp only [maxLen]; omega) (by have := HNc.out; omega) D6.1.size ?_; intro vA wA oA gA zA; have HPr := HPv.out; have gB : (w8.alloc (.cells #[.slice A3 (numForm nz.toNat).length m3, .slice A4 (flat (formL ep)).length m4] 22)).grownBy wA (Value.slice Ao Nq co).ownBlock := gA; have DA : Below w.heap.size w wA ∧ Box wA pb 128 #[.int .i64 fl, .map (some ab)] := ⟨below_grownP D6.1 HPr D6.1.size gB, box_grownP D6.2 HPr (by decide) gB⟩))
            all_goals
              have HPA : Hid (OwnPv wA w.heap.size vA (qs ++ [(.slice A3 (numForm nz.toNat).length m3, numForm nz.toNat), (.slice A4 (flat (formL ep)).length m4, flat (formL ep))])) := Lib.hid (by
                refine HPv.out.snoc (fun q hq => ?_) (by rw [HNq.out]; exact oA) gB
                have z3 := HD.out.1.size
                have z4 := D3.1.size
                simp only [List.mem_cons, List.not_mem_nil, or_false] at hq
                rcases hq with rfl | rfl
                · exact own_baseN (own_belowN o3 (b4.trans (L9.mono b4.size))) z3
                · exact own_baseN (own_belowN o4 L9) z4)
              have HRA : Hid ((qs ++ [((.slice A3 (numForm nz.toNat).length m3 : Value), numForm nz.toNat), (.slice A4 (flat (formL ep)).length m4, flat (formL ep))]).map (·.2) = formsT N (T.take j) ++ [numForm z.toNat, numForm fl.toNat, numForm m] ++ ((plE E).take (i + 1)).flatMap entL) := Lib.hid (by
                rw [List.map_append, HI.out.2.1, Hpl.out]
                simp)
              have HE : Hid (numRow wA w.heap.size (some a) N ck (numsG M) ∧ numRow wA w.heap.size (some b) m cn (numsG E) ∧ Box wA pb 128 #[.int .i64 fl, .map (some ab)] ∧ Below w.heap.size w wA) := Lib.hid ⟨(H6.out.2.1.below C9).grownP HPv.out gB, (H6.out.2.2.below C9).grownP HPv.out gB, DA.2, DA.1⟩
              clear oA gA gB zA o3 o4 b3 b4 D3 D4 D6 DA C9 L9 HOw HPv HD HK H6
              go_wp2
              go_roundw
              case rel => exact ⟨i + 1, _, by omega, by go_num, Lib.hid ⟨HPA.out, HRA.out, HE.out.1, HE.out.2.1, HE.out.2.2.1, HE.out.2.2.2⟩⟩
              case measure => simp [intOf] <;> omega
          · obtain rfl : i = m := by omega
            have HE : Hid (OwnPv wr w.heap.size (.slice Ao Nq co) qs ∧ qs.map (·.2) = formsT N (T.take (j + 1)) ∧ numRow wr w.heap.size (some a) N ck (numsG M) ∧ Below w.heap.size w wr) := Lib.hid ⟨HI.out.1, by
              have e1 : (plE E).take i = plE E := List.take_of_length_le (by rw [plE_len, Hm.out]; exact Nat.le_refl _)
              rw [HI.out.2.1, e1, formsT_succ HTj.out, HCF.out, List.append_assoc], HI.out.2.2.1, HI.out.2.2.2.2.2⟩
            clear HI
            go_wp2
            go_roundw
            case rel => exact ⟨j + 1, _, by omega, by go_num, HE⟩
            case measure => simp [intOf] <;> omega
    · obtain rfl : j = N := by omega
      have HE : Hid (rs.map (·.2) = saveL T) := Lib.hid (by
        rw [HR.out.2.1, List.take_of_length_le (by have := HTN.out; omega)]
        unfold formsT saveL
        rw [HTN.out])
      have Hparts : Hid (Parts wr wr.heap.size Ap Nr (pvCells rs) (saveL T)) := Lib.hid (by
        obtain ⟨A', c', e', -, -, hh⟩ := own_slice HR.out.1.own
        injection e' with e1 e2 e3
        subst e1
        rw [HNr.out] at hh
        rw [← HE.out]
        exact ⟨hh, by simp [pvCells], fun j hj => by
          rw [List.length_map] at hj
          obtain ⟨A', c', e', -, -, hh⟩ := own_slice (HR.out.1.rows rs[j] (List.getElem_mem hj))
          exact ⟨A', rs[j].2.length, c', by simp [pvCells, hj, e'], by simpa [hj] using hh⟩⟩)
      have Hfl : Hid ((flat (saveL T)).length ≤ 100000000) := Lib.hid (by
        have h1 := HSl.out.1
        have h2 := HT.out.cnt
        have h3 := HTN.out
        show (saveT T).length ≤ _
        omega)
      have Hj := Lib.hid (join_any Ap Nr cp wr.heap.size (pvCells rs) (saveL T) wr Hparts.out (Nat.le_refl _) Hfl.out (by have := HNb.out; omega))
      have HSv : Hid (flat (saveL T) = saveT T) := Lib.hid rfl
      rw [HSv.out] at Hj
      obtain ⟨F8, hF8⟩ : ∃ F8, saveT T = F8 := ⟨_, rfl⟩
      rw [hF8] at Hj
      have HF8 := Lib.hid hF8
      clear hF8
      go_wp2_with fail
      refine Hj.out.mono ?_
      rintro e w6 ⟨v6, rfl, o6, b6⟩
      obtain ⟨A6, m6, rfl, -, -, x6⟩ := own_slice o6
      have HE6 := Lib.hid (HR.out.2.2.2.trans (b6.mono HR.out.2.2.2.size))
      have hcv := string_run (w := w6) x6 m6
      clear o6 b6 x6
      go_wp2
      go_ret
      exact ⟨ret_str (by rw [HF8.out]), HE6.out⟩
end Go.Proofs.Ytdfhnjocpfjagaa
