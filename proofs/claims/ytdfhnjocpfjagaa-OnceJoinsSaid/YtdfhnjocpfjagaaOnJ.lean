/- Package once: what two tables know of one client. Condition: both pasts are in memory. -/
import Derived.Test.YtdfhnjocpfjagaaObA
namespace Go.Proofs.Ytdfhnjocpfjagaa
open Go.RowKit Go.Maps

/-- a past's answers, where there are none too -/
def OfAt (w : World) (F : Nat → Prop) (mo : Option Nat) (E : List (Int × AV)) : Prop := match mo with
  | none => E = []
  | some ab => AnsAt w F ab E
theorem run_max_i64 (x y : Int) (w : World) : (Builtin.max_ #[3, 3] 3 #[.int .i64 x, .int .i64 y]).run Try.prog w = .ok (.int .i64 (max x y)) w := by
  have e : max x y = if y > x then y else x := by split <;> omega
  rw [e]
  show (pure (Value.int .i64 (if y > x then y else x)) : Sem Value).run Try.prog w = _
  simp
theorem unionA_len : ∀ (a b : List (Int × Rp)), (unionA a b).length ≤ a.length + b.length
  | [], b => by simp [unionA]
  | e :: a, b => by
    have ih := unionA_len a (putG e.1 e.2 b)
    have := putG_len e.1 e.2 b
    have e0 : unionA (e :: a) b = unionA a (putG e.1 e.2 b) := rfl
    rw [e0, List.length_cons]
    omega
/-- a list that gives no more than both is no longer than both -/
theorem or_len {a b x : List (Int × Rp)} (hx : RiseG x) (ha : RiseG a) (hb : RiseG b) (h : ∀ n, (getG n x).isSome → ((getG n a).or (getG n b)).isSome) : x.length ≤ a.length + b.length := by
  refine Nat.le_trans (len_of_sub hx (unionA_rise a b hb) fun n hn => ?_) (unionA_len a b)
  rw [unionA_get n a b ha]
  exact h n hn
/-- the loop over one past's answers: those that were seen stand in the new map -/
def JR (w W wr : World) (mp ab : Nat) (E0 Eof : List (Int × AV)) (E1 : List (Int × AV)) (left : Lit → Bool) (cnt : Nat) : Prop :=
  wr.ranges Try.prog 3 Rn ab W.heap.size Eof.length (gmap AV.v Eof) left cnt ∧ AnsAt wr (addF (fun _ => False) w wr) mp E1 ∧
  (∀ n, getG n (plE E1) = if left (.int .i64 n) then getG n (plE E0) else (getG n (plE Eof)).or (getG n (plE E0))) ∧ KeptF (fun i => i = mp) W wr
section
variable {w W wr w1 : World} {mp ab : Nat} {E0 Eof E1 : List (Int × AV)} {left : Lit → Bool} {cnt cnt1 : Nat} {F : Nat → Prop}
theorem JR.start (_hw : w.heap.size ≤ W.heap.size) (h0 : AnsAt W (addF (fun _ => False) w W) mp E0) (_h : AnsAt W F ab Eof) {w0 : World} (hr : w0.ranges Try.prog 3 Rn ab W.heap.size Eof.length (gmap AV.v Eof) (Maps.has (gmap AV.v Eof)) (Maps.size (gmap AV.v Eof))) (hg : W.grownBy w0 none) : JR w W w0 mp ab E0 Eof E0 (Maps.has (gmap AV.v Eof)) (Maps.size (gmap AV.v Eof)) := by
  refine ⟨hr, (h0.below (grown_none hg)).mono fun i _ hi => hi.elim .inl fun hi => .inr ⟨hi.1, Nat.lt_of_lt_of_le hi.2 hg.size⟩, fun n => ?_, KeptF.of (grown_none hg)⟩
  rw [gmap_has]
  cases hn : getG n Eof with
  | none =>
    have : getG n (plE Eof) = none := by unfold plE; rw [getG_map, hn]; rfl
    rw [this]
    rfl
  | some x => rfl
theorem JR.next (h : JR w W wr mp ab E0 Eof E1 left cnt) (hg : wr.grownBy w1 (some W.heap.size)) (hs : w1.heap.size = wr.heap.size) : AnsAt w1 (addF (fun _ => False) w w1) mp E1 ∧ KeptF (fun i => i = mp) W w1 := by
  have hr := h.1.lt
  rw [addF_keep hs]
  exact ⟨h.2.1.iter (ranges_iter h.1) hg, h.2.2.2.trans (KeptF.grown hg (.inr ⟨Nat.le_refl _, hr⟩))⟩
theorem JR.get {k : Int} {x x' : AV} (h : ∀ n, getG n (plE E1) = if left (.int .i64 n) then getG n (plE E0) else (getG n (plE Eof)).or (getG n (plE E0))) (hx : getG k Eof = some x) (hp : x'.p = x.p) (n : Int) :
    getG n (plE (putG k x' E1)) = if (left (.int .i64 n) && !(Lit.int .i64 n).sameKey (.int .i64 k)) then getG n (plE E0) else (getG n (plE Eof)).or (getG n (plE E0)) := by
  rw [strike_key]
  have e1 : plE (putG k x' E1) = putG k x'.p (plE E1) := by unfold plE; rw [mapG_put]
  rw [e1, getG_put]
  by_cases hk : k = n
  · subst hk
    rw [if_pos rfl, show (if k = k then false else left (.int .i64 k)) = false from if_pos rfl]
    have : getG k (plE Eof) = some x.p := by unfold plE; rw [getG_map, hx]; rfl
    rw [this, hp]
    rfl
  · rw [if_neg hk, show (if n = k then false else left (.int .i64 n)) = left (.int .i64 n) from if_neg fun e => hk e.symm, h n]
theorem JR.done (h : ∀ n, getG n (plE E1) = if left (.int .i64 n) then getG n (plE E0) else (getG n (plE Eof)).or (getG n (plE E0))) (hl : ∀ kl, left kl = false) (n : Int) : getG n (plE E1) = (getG n (plE Eof)).or (getG n (plE E0)) := by
  rw [h n, hl]
  rfl
end
set_option maxRecDepth 100000 in
set_option maxHeartbeats 12800000 in
theorem joined_any {w : World} {Fa Fb : Nat → Prop} {ma mb : Option Nat} {Ea Eb : List (Int × AV)} (fa fb : Int) (ha : OfAt w Fa ma Ea) (hb : OfAt w Fb mb Eb) (hra : RiseG Ea) (hrb : RiseG Eb) (hla : Ea.length ≤ 10) (hlb : Eb.length ≤ 10) (hga : ∀ n e, getG n Ea = some e → e.p.Right) (hgb : ∀ n e, getG n Eb = some e → e.p.Right) :
    Calls Try.prog 95 #[.agg #[.int .i64 fa, .map ma], .agg #[.int .i64 fb, .map mb]] w fun e w' => ∃ ab fl E, e = .returned (.agg #[.int .i64 fl, .map (some ab)]) ∧ AnsAt w' (addF (fun _ => False) w w') ab E ∧ (⟨fl, plE E⟩ : Pa) = joinP ⟨fa, plE Ea⟩ ⟨fb, plE Eb⟩ ∧ Below w.heap.size w w' := by
  obtain ⟨wA, hwA⟩ : ∃ wA, ((w.alloc (.cells #[.int .i64 fa, .map ma] 128)).alloc (.cells #[.int .i64 fb, .map mb] 128)).alloc (.cells #[.int .i64 0, .map none] 128) = wA := ⟨_, rfl⟩
  have sA : wA.heap.size = w.heap.size + 3 := by rw [← hwA]; simp
  have xa : Box wA w.heap.size 128 #[.int .i64 fa, .map ma] := hwA ▸ ((Box.made _ _ _).alloc _).alloc _
  have xb : Box wA (w.heap.size + 1) 128 #[.int .i64 fb, .map mb] := by
    have := (Box.made (w.alloc (.cells #[.int .i64 fa, .map ma] 128)) 128 #[.int .i64 fb, .map mb]).alloc (.cells #[.int .i64 0, .map none] 128)
    rw [World.size_alloc, hwA] at this
    exact this
  have xz : Box wA (w.heap.size + 2) 128 #[.int .i64 0, .map none] := by
    have := Box.made ((w.alloc (.cells #[.int .i64 fa, .map ma] 128)).alloc (.cells #[.int .i64 fb, .map mb] 128)) 128 #[.int .i64 0, .map none]
    rw [World.size_alloc, World.size_alloc, hwA] at this
    exact this
  have uA : Below w.heap.size w wA := hwA ▸ ((below_box _).alloc (by simp) _).alloc (by simp; omega) _
  obtain ⟨wB, hwB⟩ : ∃ wB, wA.alloc (.map #[] 0) = wB := ⟨_, rfl⟩
  have sB : wB.heap.size = w.heap.size + 4 := by rw [← hwB]; simp [sA]
  have hmk := run_makeMap (P := Try.prog) 126 wA
  rw [hwB, sA] at hmk
  obtain ⟨wC, hwC⟩ : ∃ wC, wB.alloc (.cells #[.int .i64 0, .map none] 128) = wC := ⟨_, rfl⟩
  have sC : wC.heap.size = w.heap.size + 5 := by rw [← hwC]; simp [sB]
  have xp : Box wC (w.heap.size + 4) 128 #[.int .i64 0, .map none] := by have := Box.made wB 128 #[.int .i64 0, .map none]; rwa [hwC, sB] at this
  obtain ⟨wD, hwD⟩ : ∃ wD, ((wC.setCell ⟨w.heap.size + 4, 0, none⟩ (.int .i64 0)).setCell ⟨w.heap.size + 4, 1, none⟩ (.map (some (w.heap.size + 3)))) = wD := ⟨_, rfl⟩
  obtain ⟨yp, gD, sD0⟩ := store2 xp hwD
  have sD : wD.heap.size = w.heap.size + 5 := by rw [sD0, sC]
  have uAC : Below wA.heap.size wA wC := hwC ▸ hwB ▸ (below_box _).alloc (by simp) _
  have uAD : Below wA.heap.size wA wD := uAC.grown gD uAC.size (fun g hg => by injection hg with hg; omega)
  obtain ⟨wE, hwE⟩ : ∃ wE, wD.alloc (.cells #[.int .i64 fb, .map mb, .int .i64 fa, .map ma] 128) = wE := ⟨_, rfl⟩
  have sE : wE.heap.size = w.heap.size + 6 := by rw [← hwE]; simp [sD]
  have uAE : Below wA.heap.size wA wE := hwE ▸ uAD.alloc uAD.size _
  have uE : Below w.heap.size w wE := uA.trans (uAE.mono uA.size)
  have rE : Box wE (w.heap.size + 5) 128 #[.int .i64 fb, .map mb, .int .i64 fa, .map ma] := by have := Box.made wD 128 #[.int .i64 fb, .map mb, .int .i64 fa, .map ma]; rwa [hwE, sD] at this
  have pE : Box wE (w.heap.size + 4) 128 #[.int .i64 0, .map (some (w.heap.size + 3))] := hwE ▸ yp.alloc _
  have aE : AnsAt wE (addF (fun _ => False) w wE) (w.heap.size + 3) [] := by
    have h1 : AnsAt wB (addF (fun _ => False) w wE) wA.heap.size [] := by rw [← hwB]; exact AnsAt.made wA (.inr ⟨by omega, by omega⟩)
    rw [sA] at h1
    have uBC : Below wB.heap.size wB wC := hwC ▸ below_box _
    have uBE : Below wB.heap.size wB wE := hwE ▸ (uBC.grown gD uBC.size (fun g hg => by injection hg with hg; omega)).alloc (by omega) _
    exact h1.below uBE
  have HX := Lib.hid (And.intro (xa.below uAE (by omega)) (And.intro (xb.below uAE (by omega)) (And.intro (xz.below uAE (by omega)) (And.intro pE rE))))
  have a0 : wD.cell? ⟨w.heap.size + 1, 0, none⟩ = some (.int .i64 fb) := (xb.below uAD (by omega)).cell 0
  have a1 : wD.cell? ⟨w.heap.size + 1, 1, none⟩ = some (.map mb) := (xb.below uAD (by omega)).cell 1
  have a2 : wD.cell? ⟨w.heap.size, 0, none⟩ = some (.int .i64 fa) := (xa.below uAD (by omega)).cell 0
  have a3 : wD.cell? ⟨w.heap.size, 1, none⟩ = some (.map ma) := (xa.below uAD (by omega)).cell 1
  have c0 : wC.cell? ⟨w.heap.size + 4, 0, none⟩ = some (.int .i64 0) := xp.cell 0
  have c1 : wC.cell? ⟨w.heap.size + 4, 1, none⟩ = some (.map none) := xp.cell 1
  have f0 : wC.frozen? ⟨w.heap.size + 4, 0, none⟩ = false := xp.frozen 0
  have f1 : wC.frozen? ⟨w.heap.size + 4, 1, none⟩ = false := xp.frozen 1
  have Ha := Lib.hid (And.intro ha (And.intro hra (And.intro hla hga)))
  have Hb := Lib.hid (And.intro hb (And.intro hrb (And.intro hlb hgb)))
  have HU := Lib.hid uE
  have HaE := Lib.hid aE
  clear ha hra hla hga hb hrb hlb hgb xa xb xz uA xp yp gD uAC uAD uAE uE rE pE aE sD0
  go_enter Try.func95, Try.ntmps95
  go_wp2
  go_loopw [16] (fun iv wr => ∃ (k : Nat) (E : List (Int × AV)), k ≤ 2 ∧ iv = .int .i64 (k : Int) ∧ Hid (AnsAt wr (addF (fun _ => False) w wr) (w.heap.size + 3) E ∧ (∀ n, getG n (plE E) = if k = 0 then none else if k = 1 then getG n (plE Eb) else (getG n (plE Ea)).or (getG n (plE Eb))) ∧ KeptF (fun i => i = w.heap.size + 3) wE wr)) (fun iv _ => 2 - (intOf iv).toNat)
  case atStart => exact ⟨0, [], by omega, rfl, Lib.hid ⟨HaE.out, fun n => rfl, KeptF.of (Below.refl _ _)⟩⟩
  case round =>
    obtain ⟨k, E, hk, rfl, HR⟩ := hrel
    have hsz := HR.out.2.2.size
    rw [sE] at hsz
    have kX : ∀ {g : Nat} {cs : Array Value}, Box wE g 128 cs → g ≠ w.heap.size + 3 → Box wr g 128 cs := fun hx hg => HR.out.2.2.box hx hg
    clear a0 a1 a2 a3 c0 c1 f0 f1 hmk
    by_cases hlt : k < 2
    · have hk0 : (0 : Int) ≤ (k : Int) := by omega
      have hk1 : (k : Int) < 2 := by omega
      obtain ⟨fo, mo, Eo, Fo, q0, q1, HOf⟩ : ∃ (fo : Int) (mo : Option Nat) (Eo : List (Int × AV)) (Fo : Nat → Prop), wr.cell? ⟨w.heap.size + 5, k * 2, none⟩ = some (.int .i64 fo) ∧ wr.cell? ⟨w.heap.size + 5, k * 2 + 1, none⟩ = some (.map mo) ∧
          Hid (OfAt wr Fo mo Eo ∧ (RiseG Eo ∧ Eo.length ≤ 10 ∧ ∀ n e, getG n Eo = some e → e.p.Right) ∧ (k = 0 → Eo = Eb) ∧ (k = 1 → Eo = Ea) ∧ ∀ ab, mo = some ab → ab < w.heap.size) := by
        have hr := kX HX.out.2.2.2.2 (by omega)
        have keep : ∀ {F : Nat → Prop} {mo : Option Nat} {Eo : List (Int × AV)}, OfAt w F mo Eo → OfAt wr F mo Eo ∧ ∀ ab, mo = some ab → ab < w.heap.size := fun {F mo Eo} h => by
          cases mo with
          | none => exact ⟨h, fun ab e => by cases e⟩
          | some ab =>
            have h1 : AnsAt w F ab Eo := h
            have hl := h1.own.lt
            have h2 : AnsAt wE F ab Eo := h1.below HU.out
            exact ⟨(h2.but HR.out.2.2 (by omega) (fun _ => mapL_block HaE.out.own) : AnsAt wr F ab Eo), fun ab' e => by cases e; exact hl⟩
        rcases (by omega : k = 0 ∨ k = 1) with rfl | rfl
        · exact ⟨fb, mb, Eb, Fb, hr.cell 0, hr.cell 1, Lib.hid ⟨(keep Hb.out.1).1, Hb.out.2, fun _ => rfl, (fun h => by cases h), (keep Hb.out.1).2⟩⟩
        · exact ⟨fa, ma, Ea, Fa, hr.cell 2, hr.cell 3, Lib.hid ⟨(keep Ha.out.1).1, Ha.out.2, (fun h => by cases h), fun _ => rfl, (keep Ha.out.1).2⟩⟩
      have HG : Hid (∀ E1 : List (Int × AV), (∀ n, getG n (plE E1) = (getG n (plE Eo)).or (getG n (plE E))) → ∀ n, getG n (plE E1) = if k + 1 = 0 then none else if k + 1 = 1 then getG n (plE Eb) else (getG n (plE Ea)).or (getG n (plE Eb))) := Lib.hid fun E1 h n => by
        have h0 := HR.out.2.1 n
        rcases (by omega : k = 0 ∨ k = 1) with rfl | rfl
        · rw [h n, HOf.out.2.2.1 rfl, h0]
          simp
        · rw [h n, HOf.out.2.2.2.1 rfl, h0]
          simp
      have HEl : Hid (E.length ≤ 20) := Lib.hid (by
        have h1 := or_len (x := plE E) (a := plE Ea) (b := plE Eb) (riseG_map.2 HR.out.1.rise) (riseG_map.2 Ha.out.2.1) (riseG_map.2 Hb.out.2.1) (fun n hn => by
          rw [HR.out.2.1 n] at hn
          split at hn
          · cases hn
          · split at hn
            · cases hx : getG n (plE Ea) <;> simp [hn]
            · exact hn)
        rw [plE_len, plE_len, plE_len] at h1
        have := Ha.out.2.2.1
        have := Hb.out.2.2.1
        omega)
      obtain ⟨wF, hwF⟩ : ∃ wF, wr.alloc (.cells #[.int .i64 0, .map none] 128) = wF := ⟨_, rfl⟩
      have xF : Box wF wr.heap.size 128 #[.int .i64 0, .map none] := hwF ▸ Box.made _ _ _
      have uF : Below wr.heap.size wr wF := hwF ▸ below_box _
      obtain ⟨wG, hwG⟩ : ∃ wG, ((wF.setCell ⟨wr.heap.size, 0, none⟩ (.int .i64 fo)).setCell ⟨wr.heap.size, 1, none⟩ (.map mo)) = wG := ⟨_, rfl⟩
      obtain ⟨xG, gG, sG⟩ := store2 xF hwG
      have uG : Below wr.heap.size wr wG := uF.grown gG uF.size (fun g hg => by injection hg with hg; omega)
      have a0 : wF.cell? ⟨wr.heap.size, 0, none⟩ = some (.int .i64 0) := xF.cell 0
      have a1 : wF.cell? ⟨wr.heap.size, 1, none⟩ = some (.map none) := xF.cell 1
      have b0 : wF.frozen? ⟨wr.heap.size, 0, none⟩ = false := xF.frozen 0
      have b1 : wF.frozen? ⟨wr.heap.size, 1, none⟩ = false := xF.frozen 1
      have m1 : wG.cell? ⟨wr.heap.size, 1, none⟩ = some (.map mo) := xG.cell 1
      have HA0 := Lib.hid ((HR.out.1.below uG).mono (G := addF (fun _ => False) w wG) fun i _ hi => hi.elim .inl fun hi => .inr ⟨hi.1, Nat.lt_of_lt_of_le hi.2 uG.size⟩)
      have HK0 : Hid (KeptF (fun i => i = w.heap.size + 3) wE wG) := Lib.hid (HR.out.2.2.trans0 (KeptF.of uG))
      have hwG6 : w.heap.size + 6 ≤ wG.heap.size := Nat.le_trans hsz uG.size
      cases mo with
      | none =>
        have hEo : Eo = [] := HOf.out.1
        have hrg := run_range_nilMap (P := Try.prog) wG 126 3 82 Try.underlying126
        have hnx : ∀ ty, (Instr.next (.pointer (some ⟨wG.heap.size, 0, none⟩)) false ty).run Try.prog (wG.alloc (.mapIter none 0 #[] 0)) = _ := fun ty => run_next_nilMap _ ty 0 0 #[]
        obtain ⟨wI, hwI⟩ : ∃ wI, wG.alloc (.mapIter none 0 #[] 0) = wI := ⟨_, rfl⟩
        rw [hwI] at hrg hnx
        have uI : Below wG.heap.size wG wI := hwI ▸ below_box _
        have HE : Hid (AnsAt wI (addF (fun _ => False) w wI) (w.heap.size + 3) E ∧ (∀ n, getG n (plE E) = if k + 1 = 0 then none else if k + 1 = 1 then getG n (plE Eb) else (getG n (plE Ea)).or (getG n (plE Eb))) ∧ KeptF (fun i => i = w.heap.size + 3) wE wI) := Lib.hid
          ⟨(HA0.out.below uI).mono fun i _ hi => hi.elim .inl fun hi => .inr ⟨hi.1, Nat.lt_of_lt_of_le hi.2 uI.size⟩, HG.out E (fun n => by rw [hEo]; rfl), HK0.out.trans0 (KeptF.of uI)⟩
        clear hEo uI xF uF xG gG uG kX sG
        go_wp2
        go_loopw [23] (fun _ wx => wx = wI) (fun _ _ => 0)
        case atStart => rfl
        case round =>
          subst hrel
          go_wp2
          go_roundw
          case rel => exact ⟨k + 1, _, by omega, by go_num, HE⟩
          case measure => simp [intOf]; omega
      | some ab =>
        have hOf : AnsAt wr Fo ab Eo := HOf.out.1
        have hOG := hOf.below uG
        have hown := hOG.own
        have habl := HOf.out.2.2.2.2 ab rfl
        have HS := Lib.hid (fun (w0 : World) hr hg => JR.start (w := w) (E0 := E) (mp := w.heap.size + 3) (by omega : w.heap.size ≤ wG.heap.size) HA0.out hOG (w0 := w0) hr hg)
        have HOG := Lib.hid hOG
        clear xF uF xG gG uG kX sG hOf hOG
        go_wp2_with (first
          | (at_range; refine wpList_range_own _ rfl _ 126 rfl 3 82 intKeyed Try.underlying126 _ ab Eo.length _ rfl hown ?_; intro w0 hrg0 hg0 hs0)
          | go_in)
        go_frame
        have H0 := Lib.hid (HS.out w0 hrg0 hg0)
        clear hown m1 hrg0 hg0 hs0 HS a0 a1 b0 b1 q0 q1
        go_loopw [8, 23] (fun _ _ wx => ∃ (E1 : List (Int × AV)) (left : Lit → Bool) (cnt : Nat), Hid (JR w wG wx (w.heap.size + 3) ab E Eo E1 left cnt)) (fun _ _ wx => wx.rangeLeft ab wG.heap.size)
        case atStart => exact ⟨_, _, _, H0⟩
        case round =>
          obtain ⟨E1, left, cnt, HJ⟩ := hrel
          have hrg := HJ.out.1
          go_wp2_with (first
            | (at_next; refine wpList_next_g (w := wr) rfl _ rfl ab wG.heap.size Eo.length Eo left cnt rfl hrg ?_ ?_)
            | go_in)
          · intro _ hl0
            have HE : Hid (AnsAt wr (addF (fun _ => False) w wr) (w.heap.size + 3) E1 ∧ (∀ n, getG n (plE E1) = if k + 1 = 0 then none else if k + 1 = 1 then getG n (plE Eb) else (getG n (plE Ea)).or (getG n (plE Eb))) ∧ KeptF (fun i => i = w.heap.size + 3) wE wr) := Lib.hid
              ⟨HJ.out.2.1, HG.out E1 (JR.done HJ.out.2.2.1 hl0), HK0.out.trans0 HJ.out.2.2.2⟩
            clear hrg HJ H0
            go_wp2
            go_roundw
            case rel => exact ⟨k + 1, _, by omega, by go_num, HE⟩
            case measure => simp [intOf]; omega
          · intro kx x w1 cnt1 hx hwx hlx hrg1 hlt hg1 hs1 hen
            obtain ⟨h1, k1⟩ := HJ.out.next hg1 hs1
            have hxR := HOf.out.2.1.2.2 kx x hx
            have Hcnt : Hid (wr.rangeLeft ab wG.heap.size = cnt) := Lib.hid hrg.left_eq
            have hw1s : w.heap.size + 6 ≤ w1.heap.size := Nat.le_trans hwG6 k1.size
            obtain ⟨w2, hw2⟩ : ∃ w2, w1.alloc (.cells #[.int .i64 0, .bool false, .slice none 0 0, .slice none 0 0, .int .i64 0] 82) = w2 := ⟨_, rfl⟩
            have x2 : Box w2 w1.heap.size 82 #[.int .i64 0, .bool false, .slice none 0 0, .slice none 0 0, .int .i64 0] := hw2 ▸ Box.made _ _ _
            have u2 : Below w1.heap.size w1 w2 := hw2 ▸ below_box _
            obtain ⟨w3, hw3⟩ : ∃ w3, (((((w2.setCell ⟨w1.heap.size, 0, none⟩ (.int .i64 x.p.code)).setCell ⟨w1.heap.size, 1, none⟩ (.bool x.p.there)).setCell ⟨w1.heap.size, 2, none⟩ (.slice x.A x.p.rc.length x.c)).setCell ⟨w1.heap.size, 3, none⟩ (.slice none 0 0)).setCell ⟨w1.heap.size, 4, none⟩ (.int .i64 x.p.id)) = w3 := ⟨_, rfl⟩
            obtain ⟨x3, g3, s3⟩ := store5 x2 hw3
            have u3 : Below w1.heap.size w1 w3 := u2.grown g3 u2.size (fun g hg => by injection hg with hg; omega)
            have k3 : KeptF (fun i => i = w.heap.size + 3) wG w3 := k1.trans0 (KeptF.of u3)
            have p3 : Box w3 (w.heap.size + 4) 128 #[.int .i64 0, .map (some (w.heap.size + 3))] := k3.box (HK0.out.box HX.out.2.2.2.1 (by omega)) (by omega)
            have d0 : w2.cell? ⟨w1.heap.size, 0, none⟩ = some (.int .i64 0) := x2.cell 0
            have d1 : w2.cell? ⟨w1.heap.size, 1, none⟩ = some (.bool false) := x2.cell 1
            have d2 : w2.cell? ⟨w1.heap.size, 2, none⟩ = some (.slice none 0 0) := x2.cell 2
            have d3 : w2.cell? ⟨w1.heap.size, 3, none⟩ = some (.slice none 0 0) := x2.cell 3
            have d4 : w2.cell? ⟨w1.heap.size, 4, none⟩ = some (.int .i64 0) := x2.cell 4
            have f0 : w2.frozen? ⟨w1.heap.size, 0, none⟩ = false := x2.frozen 0
            have f1 : w2.frozen? ⟨w1.heap.size, 1, none⟩ = false := x2.frozen 1
            have f2 : w2.frozen? ⟨w1.heap.size, 2, none⟩ = false := x2.frozen 2
            have f3 : w2.frozen? ⟨w1.heap.size, 3, none⟩ = false := x2.frozen 3
            have f4 : w2.frozen? ⟨w1.heap.size, 4, none⟩ = false := x2.frozen 4
            have hsrc : HasVals w3 w3.heap.size x.A x.p.rc.length x.p.rc := (HOG.out.but k3 (by omega) (fun _ => mapL_block HA0.out.own)).has hx
            obtain ⟨r, hr⟩ : ∃ r, x.p = r := ⟨_, rfl⟩
            unfold AV.v at hen
            rw [hr] at x3 hsrc hxR hw3 hen
            have HS : Hid (∀ wx, Below w3.heap.size w3 wx → (wx.cell? ⟨w.heap.size + 4, 1, none⟩ = some (.map (some (w.heap.size + 3))) ∧ wx.cell? ⟨w1.heap.size, 0, none⟩ = some (.int .i64 r.code) ∧ wx.cell? ⟨w1.heap.size, 1, none⟩ = some (.bool r.there) ∧ wx.cell? ⟨w1.heap.size, 2, none⟩ = some (.slice x.A r.rc.length x.c) ∧ wx.cell? ⟨w1.heap.size, 3, none⟩ = some (.slice none 0 0) ∧ wx.cell? ⟨w1.heap.size, 4, none⟩ = some (.int .i64 r.id)) ∧ Box wx (w.heap.size + 4) 128 #[.int .i64 0, .map (some (w.heap.size + 3))] ∧ Box wx w1.heap.size 82 #[.int .i64 r.code, .bool r.there, .slice x.A r.rc.length x.c, .slice none 0 0, .int .i64 r.id]) := Lib.hid fun wx hx => by
              have a := p3.below hx p3.lt
              have b := x3.below hx x3.lt
              exact ⟨⟨a.cell 1, b.cell 0, b.cell 1, b.cell 2, b.cell 3, b.cell 4⟩, a, b⟩
            have HSM : Hid (∀ wx, Box wx (w.heap.size + 4) 128 #[.int .i64 0, .map (some (w.heap.size + 3))] → Box wx w1.heap.size 82 #[.int .i64 r.code, .bool r.there, .slice x.A r.rc.length x.c, .slice none 0 0, .int .i64 r.id] → (wx.cell? ⟨w.heap.size + 4, 1, none⟩ = some (.map (some (w.heap.size + 3))) ∧ wx.cell? ⟨w1.heap.size, 0, none⟩ = some (.int .i64 r.code) ∧ wx.cell? ⟨w1.heap.size, 1, none⟩ = some (.bool r.there) ∧ wx.cell? ⟨w1.heap.size, 2, none⟩ = some (.slice x.A r.rc.length x.c) ∧ wx.cell? ⟨w1.heap.size, 3, none⟩ = some (.slice none 0 0) ∧ wx.cell? ⟨w1.heap.size, 4, none⟩ = some (.int .i64 r.id))) := Lib.hid fun wx a b => ⟨a.cell 1, b.cell 0, b.cell 1, b.cell 2, b.cell 3, b.cell 4⟩
            have HC := Lib.hid (fun wx (hx : Below w3.heap.size w3 wx) => copied_any r x.A r.rc.length x.c 0 none 0 w3.heap.size wx (hsrc.belowOf hx (Nat.le_refl _)) hx.size (by have := (right_small hxR).1; omega) (fun v hv => by have := (right_small hxR).2 v hv; omega))
            have H1 := Lib.hid (And.intro (h1.below u3) (And.intro k1 u3))
            have Hkn := Lib.hid (Maps.keyOf_int_mk (P := Try.prog) Try.underlying3 hwx)
            have HE1l : Hid (E1.length ≤ 100) := Lib.hid (by
              have h2 := or_len (x := plE E1) (a := plE Eo) (b := plE E) (riseG_map.2 h1.rise) (riseG_map.2 HOf.out.2.1.1) (riseG_map.2 HA0.out.rise) (fun n hn => by
                rw [HJ.out.2.2.1 n] at hn
                split at hn
                · cases hx : getG n (plE Eo) <;> simp [hn]
                · exact hn)
              rw [plE_len, plE_len, plE_len] at h2
              have := HOf.out.2.1.2.1
              have := HEl.out
              omega)
            have Hget := Lib.hid (fun (x' : AV) (hp : x'.p = r) n => JR.get (k := kx) (x := x) (x' := x') HJ.out.2.2.1 hx (hp.trans hr.symm) n)
            have Hrg := Lib.hid hrg1
            have Hne : Hid (ab < w.heap.size ∧ w.heap.size + 6 ≤ wG.heap.size ∧ w.heap.size + 6 ≤ w1.heap.size) := Lib.hid ⟨habl, hwG6, hw1s⟩
            clear h1 k1 x2 u2 x3 g3 s3 u3 k3 p3 hsrc hxR hrg hg1 hs1 HJ H0 hrg1 hx hr hw1s hwx
            go_wp2
            go_region_held3 (fun wx => (wx.cell? ⟨w.heap.size + 4, 1, none⟩ = some (.map (some (w.heap.size + 3))) ∧ wx.cell? ⟨w1.heap.size, 0, none⟩ = some (.int .i64 r.code) ∧ wx.cell? ⟨w1.heap.size, 1, none⟩ = some (.bool r.there) ∧ wx.cell? ⟨w1.heap.size, 2, none⟩ = some (.slice x.A r.rc.length x.c) ∧ wx.cell? ⟨w1.heap.size, 3, none⟩ = some (.slice none 0 0) ∧ wx.cell? ⟨w1.heap.size, 4, none⟩ = some (.int .i64 r.id)))
              (first | exact (HS.out _ (Below.refl _ _).drew).1 | exact (HS.out _ cR).1 | exact HSN.out)
              (first
                | (go_at_call 87; refine (HC.out _ (Below.refl _ _).drew).mono ?_; rintro e wR ⟨A9, c9, rfl, oR, bR⟩; have cR : Below w3.heap.size w3 wR := (Below.refl w3.heap.size w3).drew.trans bR; have hAR := H1.out.1.below cR; obtain ⟨wN, hrM, mN, tN⟩ := hAR.own.store intKeyed Try.underlying126 (by have := HE1l.out; simp only [maxLen]; omega) Hkn.out (R := Rn) (val := .agg #[.int .i64 r.code, .bool r.there, .slice A9 r.rc.length c9, .slice none 0 0, .int .i64 r.id]) (d := .held (.agg #[.int .i64 r.code, .bool r.there, .slice A9 r.rc.length c9, .slice none 0 0, .int .i64 r.id])) (ps := []) rfl; have hrN : (Instr.mapUpdate 126 (.map (some (w.heap.size + 3))) (.int .i64 kx) (.agg #[.int .i64 r.code, .bool r.there, .slice A9 r.rc.length c9, .slice none 0 0, .int .i64 r.id])).run Try.prog wR = .ok () wN := hrM; have HSN := Lib.hid (HSM.out wN (mapTurned_box tN (HS.out wR cR).2.1) (mapTurned_box tN (HS.out wR cR).2.2))))
            have hsN := mapTurned_size tN
            have uR : Below w1.heap.size w1 wR := H1.out.2.2.trans (cR.mono H1.out.2.2.size)
            have hAN : AnsAt wN (addF (fun _ => False) w wN) (w.heap.size + 3) (putG kx ⟨r, A9, c9⟩ E1) := AnsAt.put (x := ⟨r, A9, c9⟩) (hAR.mono (G := addF (fun _ => False) w wN) fun i hi hF => hF.elim .inl fun hF => .inr ⟨hF.1, by rw [hsN]; exact hi⟩) (own_baseN oR (Nat.zero_le _)) (fun g hg => by have h1 := World.ownsRow.lt oR g hg; exact .inr ⟨by have h4 := h1.1; have h5 := H1.out.2.2.size; have h6 := Hne.out.2.2; have h7 : w3.heap.size ≤ g := (by simpa using h4); omega, by omega⟩) mN tN
            have hrgR := Hrg.out.kept (⟨uR.os, uR.tape, uR.output, uR.size, fun i hi _ => uR.block i hi⟩ : w1.grownBy wR none) (by simp) (by simp)
            have hrgN := hrgR.kept tN.grown (by have := Hne.out; intro e; injection e with e; omega) (by have := Hne.out; intro e; injection e with e; omega)
            have HE : Hid (JR w wG wN (w.heap.size + 3) ab E Eo (putG kx ⟨r, A9, c9⟩ E1) (fun z => left z && !z.sameKey (.int .i64 kx)) cnt1) := Lib.hid ⟨hrgN, hAN, Hget.out _ rfl, (H1.out.2.1.trans0 (KeptF.of uR)).trans0 (KeptF.grown tN.grown rfl)⟩
            clear hAN hrgR hrgN uR hsN mN tN hAR cR oR bR hrN hrM HS HSM HC HSN
            go_wp2
            go_roundw
            case rel => exact ⟨_, _, _, HE⟩
            case measure => rw [HE.out.1.left_eq, Hcnt.out]; omega
    · obtain rfl : k = 2 := by omega
      have hEe : plE E = unionA (plE Ea) (plE Eb) := extG (riseG_map.2 HR.out.1.rise) (unionA_rise _ _ (riseG_map.2 Hb.out.2.1)) (fun n => by
        rw [HR.out.2.1 n, unionA_get n (plE Ea) (plE Eb) (riseG_map.2 Ha.out.2.1)]
        rfl)
      have hbl : Below w.heap.size w wr := HR.out.2.2.belowNew (fun i e => by omega) HU.out
      have xa := kX HX.out.1 (by omega)
      have xb := kX HX.out.2.1 (by omega)
      have xz := kX HX.out.2.2.1 (by omega)
      have xp := kX HX.out.2.2.2.1 (by omega)
      have q0 : wr.cell? ⟨w.heap.size, 0, none⟩ = some (.int .i64 fa) := xa.cell 0
      have q1 : wr.cell? ⟨w.heap.size + 1, 0, none⟩ = some (.int .i64 fb) := xb.cell 0
      have hmx := run_max_i64 fa fb wr
      obtain ⟨mx, hmxe⟩ : ∃ mx, max fa fb = mx := ⟨_, rfl⟩
      rw [hmxe] at hmx
      have Hr := Lib.hid (rise_any ⟨xp, HR.out.1⟩ mx)
      have HJn : Hid (joinP ⟨fa, plE Ea⟩ ⟨fb, plE Eb⟩ = narrowT ⟨mx, (plE E).filter fun e => decide (mx < e.1)⟩) := Lib.hid (by unfold joinP; simp only; rw [← hEe, hmxe]; rfl)
      have HZ := Lib.hid (And.intro xz hbl)
      have HEl : Hid (E.length ≤ 1000) := Lib.hid (by
        have h1 := unionA_len (plE Ea) (plE Eb)
        rw [← hEe, plE_len, plE_len, plE_len] at h1
        have := Ha.out.2.2.1
        have := Hb.out.2.2.1
        omega)
      clear hEe hbl xa xb xz xp kX hmxe HX Ha Hb HU HaE
      go_wp2_with fail
      refine Hr.out.mono ?_
      rintro e w2 ⟨rfl, h2, k2⟩
      have Hn := Lib.hid (narrow_any h2 (Nat.le_trans (List.length_filter_le _ _) (by have := HEl.out; omega)))
      have H2 := Lib.hid (And.intro ((HZ.out.2).trans (k2.below (B := w.heap.size) (fun i hi => hi.elim (fun e => by omega) (fun e => by omega)) HZ.out.2.size)) (k2.box HZ.out.1 (fun e => e.elim (fun e => by omega) (fun e => by omega))))
      clear h2 k2
      go_wp2_with fail
      refine Hn.out.mono ?_
      rintro e w3 ⟨rfl, fl3, E3, ⟨h3, a3⟩, hn3, k3⟩
      have b3 : Below w.heap.size w w3 := H2.out.1.trans (k3.below (B := w.heap.size) (fun i hi => hi.elim (fun e => by omega) (fun e => by omega)) H2.out.1.size)
      have z3 := k3.box H2.out.2 (fun e => e.elim (fun e => by omega) (fun e => by omega))
      have d0 : w3.cell? ⟨w.heap.size + 2, 0, none⟩ = some (.int .i64 0) := z3.cell 0
      have d1 : w3.cell? ⟨w.heap.size + 2, 1, none⟩ = some (.map none) := z3.cell 1
      have f0 : w3.frozen? ⟨w.heap.size + 2, 0, none⟩ = false := z3.frozen 0
      have f1 : w3.frozen? ⟨w.heap.size + 2, 1, none⟩ = false := z3.frozen 1
      have p0 : w3.cell? ⟨w.heap.size + 4, 0, none⟩ = some (.int .i64 fl3) := h3.cell 0
      have p1 : w3.cell? ⟨w.heap.size + 4, 1, none⟩ = some (.map (some (w.heap.size + 3))) := h3.cell 1
      obtain ⟨w4, hw4⟩ : ∃ w4, ((w3.setCell ⟨w.heap.size + 2, 0, none⟩ (.int .i64 fl3)).setCell ⟨w.heap.size + 2, 1, none⟩ (.map (some (w.heap.size + 3)))) = w4 := ⟨_, rfl⟩
      obtain ⟨z4, g4, s4⟩ := store2 z3 hw4
      have g0 : w4.cell? ⟨w.heap.size + 2, 0, none⟩ = some (.int .i64 fl3) := z4.cell 0
      have g1 : w4.cell? ⟨w.heap.size + 2, 1, none⟩ = some (.map (some (w.heap.size + 3))) := z4.cell 1
      have a4 : AnsAt w4 (addF (fun _ => False) w w4) (w.heap.size + 3) E3 := by
        have h5 := (a3.set z3 types17.2.1 0 (.int .i64 fl3)).set (z3.set_ 0 (.int .i64 fl3)) types17.2.1 1 (.map (some (w.heap.size + 3)))
        rw [hw4] at h5
        exact h5.mono fun i hi hF => hF.elim .inl fun hF => .inr ⟨hF.1, hi⟩
      have HE : Hid (AnsAt w4 (addF (fun _ => False) w w4) (w.heap.size + 3) E3 ∧ (⟨fl3, plE E3⟩ : Pa) = joinP ⟨fa, plE Ea⟩ ⟨fb, plE Eb⟩ ∧ Below w.heap.size w w4) := Lib.hid ⟨a4, by rw [HJn.out, hn3, plE_filter], b3.grown g4 b3.size (fun g hg => by injection hg with hg; omega)⟩
      clear h3 a3 hn3 k3 b3 z3 z4 g4 s4 a4
      go_wp2
      refine bodyPost_ret (v := .agg #[.int .i64 fl3, .map (some (w.heap.size + 3))]) ?_ rfl ⟨_, _, _, rfl, HE.out.1, HE.out.2.1, HE.out.2.2⟩
      simp [results, Try.results95, go_sem, g0, g1]
end Go.Proofs.Ytdfhnjocpfjagaa
