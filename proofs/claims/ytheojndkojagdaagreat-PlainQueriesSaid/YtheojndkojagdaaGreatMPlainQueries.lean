/- The law PlainQueries: for every input it returns true and leaves what it was given. No condition. -/
import Derived.Test.YtheojndkojagdaaGreatMPlnB
import Derived.Test.YtheojndkojagdaaGreatRecF
import Derived.Test.YtheojndkojagdaaGreatRow
namespace Go.Proofs.YtheojndkojagdaaGreat
open Go.RowKit
open Go.Lib (strCells compareBytes)

theorem lt_zero : ∀ (l k : List UInt8), ¬ (k < l ++ [0]) ↔ l < k
  | [], [] => by simp
  | [], x :: r => by
    simp [List.cons_lt_cons_iff]
  | a :: l, [] => by simp
  | a :: l, x :: r => by
    have ih := lt_zero l r
    simp only [List.cons_append, List.cons_lt_cons_iff]
    constructor
    · intro h
      rcases Nat.lt_trichotomy a.toNat x.toNat with h1 | h1 | h1
      · exact .inl h1
      · have e : a = x := UInt8.toNat_inj.1 h1
        refine .inr ⟨e, ih.1 fun h2 => h (.inr ⟨e.symm, h2⟩)⟩
      · exact absurd (.inl h1) h
    · rintro (h | ⟨rfl, h⟩) h2
      · rcases h2 with h2 | ⟨rfl, _⟩
        · exact absurd (UInt8.lt_trans h h2) (UInt8.lt_irrefl _)
        · exact UInt8.lt_irrefl _ h
      · rcases h2 with h2 | ⟨_, h2⟩
        · exact UInt8.lt_irrefl _ h2
        · exact ih.2 h h2
theorem drop_after {W : List (List UInt8)} (hW : W.Pairwise fun a b => a < b) {j : Nat} {x : List UInt8} (hx : W[j]? = some x) : W.filter (fun k => decide (x < k)) = W.drop (j + 1) := by
  obtain ⟨hj, rfl⟩ := List.getElem?_eq_some_iff.1 hx
  have e : W = W.take (j + 1) ++ W.drop (j + 1) := (List.take_append_drop _ _).symm
  have h1 : (W.take (j + 1)).filter (fun k => decide (W[j] < k)) = [] := by
    rw [List.filter_eq_nil_iff]
    intro k hk
    obtain ⟨i, hi, rfl⟩ := List.getElem_of_mem hk
    rw [List.length_take] at hi
    rw [List.getElem_take]
    have hij : i ≤ j := by omega
    rcases Nat.lt_or_ge i j with h | h
    · have := List.pairwise_iff_getElem.1 hW i j (by omega) hj h
      simp
      exact fun h2 => absurd (List.lt_trans this h2) (List.lt_irrefl _)
    · have : i = j := by omega
      subst this
      simp [List.lt_irrefl]
  have h2 : (W.drop (j + 1)).filter (fun k => decide (W[j] < k)) = W.drop (j + 1) := by
    rw [List.filter_eq_self]
    intro k hk
    obtain ⟨i, hi, rfl⟩ := List.getElem_of_mem hk
    rw [List.length_drop] at hi
    rw [List.getElem_drop]
    have := List.pairwise_iff_getElem.1 hW j (j + 1 + i) hj (by omega) (by omega)
    simpa using this
  generalize W[j] = y at h1 h2 ⊢
  conv => lhs; rw [e]
  rw [List.filter_append, h1, h2, List.nil_append]
/-- behind a key that lies in the scan: what is left of it -/
theorem inK_next {f t x k : List UInt8} (hx : inK f t x = true) : inK (x ++ [0]) t k = (inK f t k && decide (x < k)) := by
  have h1 : decide (k < x ++ [0]) = !decide (x < k) := by
    have := lt_zero x k
    by_cases h : x < k
    · simp [h, this.2 h]
    · have h2 : k < x ++ [0] := Classical.byContradiction fun h2 => h (this.1 h2)
      simp [h, h2]
  unfold inK outK at *
  rw [h1]
  by_cases h : x < k
  · have hf : ¬ k < f := fun h2 => by
      have h3 : ¬ x < f := by
        intro h3
        simp [h3] at hx
      exact h3 (List.lt_trans h h2)
    simp [h, hf]
  · simp [h]
theorem page_next {K : List (List UInt8)} (hK : K.Pairwise fun a b => a < b) {f t x : List UInt8} {j s : Nat} (hx : (K.filter (inK f t))[j + s]? = some x) :
    K.filter (inK (x ++ [0]) t) = (K.filter (inK f t)).drop (j + (s + 1)) := by
  have hm := List.mem_of_getElem? hx
  have hin : inK f t x = true := (List.mem_filter.1 hm).2
  have h1 : K.filter (inK (x ++ [0]) t) = (K.filter (inK f t)).filter (fun k => decide (x < k)) := by
    rw [List.filter_filter]
    congr 1
    funext k
    rw [inK_next hin, Bool.and_comm]
  rw [h1, drop_after (hK.filter _) hx, Nat.add_assoc]
theorem take_pages {α : Type} (W : List α) (a s : Nat) : W.take a ++ (W.drop a).take s = W.take (a + s) := by rw [List.take_add]

def scanOp (f t : ByteArray) (lim : Int) : TOp := ⟨5, f, t, [], [], 0, [], [], [], lim, 0, 0⟩
theorem check_scan (f t : ByteArray) (lim : Int) (hf : f.size ≤ 16) (ht : t.size ≤ 16) (h1 : 1 ≤ lim) (h2 : lim ≤ 64) : checkT (scanOp f t lim) = 0 := by
  have a1 : inE (f.size : Int) 0 16 = 0 := by unfold inE; rw [if_neg (by omega)]
  have a2 : inE (t.size : Int) 0 16 = 0 := by unfold inE; rw [if_neg (by omega)]
  have a3 : inE lim 1 64 = 0 := by unfold inE; rw [if_neg (by omega)]
  unfold checkT errsT scanOp
  simp [a1, a2, a3, firstN]
theorem do_scan (f t : ByteArray) (lim : Int) (S : PSt) (hf : f.size ≤ 16) (ht : t.size ≤ 16) (h1 : 1 ≤ lim) (h2 : lim ≤ 64) : doT (scanOp f t lim) S.1 S.2.1 S.2.2 = (scanA f.data.toList t.data.toList lim.toNat S.1, S) := by
  unfold doT
  rw [if_neg (by rw [check_scan f t lim hf ht h1 h2]; simp), if_neg (by simp [scanOp]), if_neg (by simp [scanOp]), if_neg (by simp [scanOp]), if_neg (by simp [scanOp]), if_pos (by simp [scanOp])]
  rfl
theorem step_scan (f t : ByteArray) (lim : Int) (S : PSt) (hf : f.size ≤ 16) (ht : t.size ≤ 16) (h1 : 1 ≤ lim) (h2 : lim ≤ 64) : stepT S (scanOp f t lim) = S := by
  unfold stepT
  rw [do_scan f t lim S hf ht h1 h2]
theorem Stands.rise {w : World} {B sb mb : Nat} {S : PSt} (h : Stands w B sb mb S) : (S.1.map (·.1)).Pairwise (· < ·) := by
  obtain ⟨ix, E, X, h1, h2, h3⟩ := h
  have := (rise_map (fun p : Value × List TVal => p.2)).2 h1.rise
  rw [h2] at this
  exact rise_keys this
theorem rowsT_len (M : Kv (List TVal)) (ks : List (List UInt8)) : (rowsT M ks).length = ks.length := by simp [rowsT]
theorem rowsT_app (M : Kv (List TVal)) (a b : List (List UInt8)) : rowsT M (a ++ b) = rowsT M a ++ rowsT M b := by simp [rowsT]
theorem field_rows (c : Int) (b : Bool) (A A' : Option Addr) (n m n' m' : Nat) (i : Int) (w : World) : (Instr.field 35 (.agg #[.int .i64 c, .bool b, .slice A n m, .slice A' n' m', .int .i64 i]) 3).run Tryz.prog w = .ok (.slice A' n' m') w := by kernel_rfl
section
variable {w w' : World} {B sb mb N m : Nat} {v : Value} {xs : List Value}
/-- the store stays where a row of rows grows -/
theorem Stands.grown {S : PSt} (h : Stands w B sb mb S) (ho : w.ownsRow N 58 2 v m xs) (hg : w.grownBy w' v.ownBlock) : Stands w' B sb mb S := by
  obtain ⟨ix, E, X, h1, h2, h3⟩ := h
  refine ⟨ix, E, X, h1.frame fun i o hi ho' _ => hg.block i (Array.getElem?_eq_some_iff.1 hi).1 fun e => ?_, h2, h3⟩
  obtain ⟨cur, hc⟩ := own_type ho e.symm
  rw [hc] at hi
  injection hi with hi
  subst hi
  rcases ho' with e | e | e | e <;> exact absurd e (by decide)
theorem vals_grown {b k : Nat} {u : Value} {l : List TVal} (h : w.ownsRow b 67 3 u k (valCells l)) (ho : w.ownsRow N 58 2 v m xs) (hg : w.grownBy w' v.ownBlock) : w'.ownsRow b 67 3 u k (valCells l) :=
  own_keep h fun g hgr => hg.block g (h.lt g hgr).2 fun e => by
    obtain ⟨cur, hc⟩ := own_type h hgr
    obtain ⟨cur', hc'⟩ := own_type ho e.symm
    rw [hc'] at hc
    injection hc with hc
    injection hc with _ hc _
    exact absurd hc (by decide)
/-- rows stay where another row of rows grows -/
theorem OwnRows.other {b : Nat} {u : Value} {rs : Kv (Value × List TVal)} (h : OwnRows w b u rs) (ho : w.ownsRow N 58 2 v m xs) (hg : w.grownBy w' v.ownBlock) (hne : ∀ g, u.ownBlock = some g → v.ownBlock ≠ some g) : OwnRows w' b u rs :=
  ⟨own_keep h.1 fun g hgr => hg.block g (h.1.lt g hgr).2 fun e => hne g hgr e.symm, fun r hr => vals_grown (h.2 r hr) ho hg⟩
theorem OwnRows.append {b : Nat} {u v' : Value} {rs rs2 : Kv (Value × List TVal)} (h : OwnRows w b v rs) (h2 : OwnRows w b u rs2) (hown : w'.ownsRow b 58 2 v' (rs.length + rs2.length) (rowCells rs ++ rowCells rs2)) (hg : w.grownBy w' v.ownBlock) : OwnRows w' b v' (rs ++ rs2) := by
  refine ⟨by rw [List.length_append, rowCells_app]; exact hown, fun r hr => ?_⟩
  rcases List.mem_append.1 hr with hr | hr
  · exact vals_grown (h.2 r hr) h.1 hg
  · exact vals_grown (h2.2 r hr) h.1 hg
theorem OwnRows.stays' {b : Nat} {u : Value} {rs : Kv (Value × List TVal)} (h : OwnRows w b u rs) (hs : Stays w w') : OwnRows w' b u rs := ⟨own_stays h.1 hs (by decide) (by decide), fun r hr => own_stays (h.2 r hr) hs (by decide) (by decide)⟩
theorem rowCells_one : ∀ (rs : Kv (Value × List TVal)), (∀ r ∈ rs, ∃ A n c, r.2.1 = .slice A n c) → ∀ u ∈ rowCells rs, u.oneCell' = true
  | [], _, u, hu => by simp [rowCells] at hu
  | r :: l, h, u, hu => by
    simp only [rowCells, List.mem_cons] at hu
    rcases hu with rfl | rfl | hu
    · rfl
    · obtain ⟨A, n, c, e⟩ := h r (by simp)
      rw [e]
      rfl
    · exact rowCells_one l (fun x hx => h x (by simp [hx])) u hu
theorem OwnRows.slices {b : Nat} {u : Value} {rs : Kv (Value × List TVal)} (h : OwnRows w b u rs) : ∀ r ∈ rs, ∃ A n c, r.2.1 = .slice A n c := fun r hr => by
  obtain ⟨A, c, e, _⟩ := own_sliceN (h.2 r hr)
  exact ⟨A, _, c, e⟩
theorem OwnRows.has {b n c : Nat} {A : Option Addr} {rs : Kv (Value × List TVal)} (h : OwnRows w b (.slice A n c) rs) : n = rs.length ∧ HasRows w w.heap.size A n rs := by
  obtain ⟨A', c', e, h3, h4, h5⟩ := own_sliceN h.1
  injection e with e1 e2 e3
  subst e1; subst e2; subst e3
  refine ⟨rfl, rfl, h5, fun r hr => ?_⟩
  obtain ⟨A', c', e, g1, g2, g3⟩ := own_sliceN (h.2 r hr)
  exact ⟨A', _, c', e, Nat.le_trans g1 g2, rfl, g3⟩
theorem rowsT_at {M : Kv (List TVal)} {P : List (List UInt8)} {rs : Kv (Value × List TVal)} (h : mapK (·.2) rs = rowsT M P) {i : Nat} {x : List UInt8 × Value × List TVal} (hx : rs[i]? = some x) : P[i]? = some x.1 := by
  have h1 := mapK_at (f := fun p : Value × List TVal => p.2) hx
  rw [h] at h1
  unfold rowsT at h1
  rw [List.getElem?_map] at h1
  cases hp : P[i]? with
  | none => rw [hp] at h1; simp at h1
  | some k =>
    rw [hp] at h1
    simp at h1
    rw [h1.1]
end
end Go.Proofs.YtheojndkojagdaaGreat

namespace Go.Proofs.YtheojndkojagdaaGreat
open Go.RowKit
open Go.Lib (strCells compareBytes)

theorem keysRec {E : Kv (Value × List TVal)} (h : Rise E) : (keysOf E).map (fun k => (k, recOf k E)) = mapK (·.2) E := by
  unfold keysOf mapK
  rw [List.map_map]
  refine List.map_congr_left fun p hp => ?_
  have h1 : getK p.1 E = some p.2 := getK_of_mem h (by simpa using hp)
  simp only [Function.comp, recOf, h1]
set_option maxRecDepth 100000 in
set_option maxHeartbeats 800000 in
theorem allRows_any {w : World} {B sb mb : Nat} {S : PSt} (h : Stands w B sb mb S) (hl : S.1.length ≤ 1000) :
    Calls Tryz.prog 19 #[.pointer (some ⟨sb, 0, none⟩)] w fun e w' => ∃ v, e = .returned v ∧ RowsIs w' w.heap.size v S.1 ∧ Below w.heap.size w w' := by
  obtain ⟨ix, E, X, h1, h2, h3⟩ := h
  have hE : E.length ≤ 1000 := by rw [← h2, mapK_len] at hl; exact hl
  have Hk := Lib.hid (keys_any h1 hE)
  have H1 := Lib.hid h1
  have H2 := Lib.hid h2
  have HE := Lib.hid hE
  clear h1 h2 hE hl
  go_enter Tryz.func19, Tryz.ntmps19
  go_wp2_with fail
  refine Hk.out.mono ?_
  rintro e w1 ⟨v, rfl, hown, hb1⟩
  obtain ⟨A, c, rfl, _, _, hh⟩ := own_slice hown
  have Hr := Lib.hid (rows_any (H1.out.below hb1) A E.length c w1.heap.size (keysOf E) hh (Nat.le_refl _) HE.out (fun k hk => by
    obtain ⟨p, hp, rfl⟩ := List.mem_map.1 hk
    have := (H1.out.good p hp).2
    unfold keyOk at this
    simp only [Bool.and_eq_true, decide_eq_true_eq] at this
    omega))
  have Hb1 := Lib.hid hb1
  clear hown hh hb1
  generalize E.length = z at *
  go_wp2_with fail
  refine Hr.out.mono ?_
  rintro e w2 ⟨v2, rfl, hR, hb2⟩
  go_wp2
  go_ret
  refine ⟨_, rfl, ?_, Hb1.out.trans (hb2.mono Hb1.out.size)⟩
  rw [keysRec H1.out.rise, H2.out] at hR
  exact hR.base Hb1.out.size
end Go.Proofs.YtheojndkojagdaaGreat

namespace Go.Proofs.YtheojndkojagdaaGreat
open Go.RowKit
open Go.Lib (strCells compareBytes)

/-- a row of indexes of the call's own, the fields too -/
def IdxIs (w : World) (base : Nat) (v : Value) (I : List (Int × List Int)) : Prop :=
  ∃ X : List Ix, w.ownsRow base 56 2 v X.length (ixCells X) ∧ (∀ x ∈ X, w.ownsRow base 3 1 x.v x.fs.length (intCells x.fs)) ∧ X.map xi = I
theorem ints_grown {w w' : World} {b N k m : Nat} {u v : Value} {zs : List Int} {xs : List Value} (h : w.ownsRow b 3 1 u k (intCells zs)) (ho : w.ownsRow N 56 2 v m xs) (hg : w.grownBy w' v.ownBlock) : w'.ownsRow b 3 1 u k (intCells zs) :=
  own_keep h fun g hgr => hg.block g (h.lt g hgr).2 fun e => by
    obtain ⟨cur, hc⟩ := own_type h hgr
    obtain ⟨cur', hc'⟩ := own_type ho e.symm
    rw [hc'] at hc
    injection hc with hc
    injection hc with _ hc _
    exact absurd hc (by decide)
theorem idx_some {fs : List Int} (h : idxErr 1 fs = 0) : 1 ≤ fs.length ∧ fs.length ≤ 1000 := by
  unfold idxErr at h
  by_cases h1 : isIdB 1 = false ∨ fs.length = 0
  · rw [if_pos h1] at h; cases h
  · rw [if_neg h1] at h
    by_cases h2 : 2 < fs.length
    · rw [if_pos h2] at h; cases h
    · have : fs.length ≠ 0 := fun e => h1 (.inr e)
      omega
set_option maxRecDepth 100000 in
set_option maxHeartbeats 3200000 in
theorem allIdx_any {w : World} {B sb mb : Nat} {S : PSt} (h : Stands w B sb mb S) :
    Calls Tryz.prog 21 #[.pointer (some ⟨sb, 0, none⟩)] w fun e w' => ∃ v, e = .returned v ∧ IdxIs w' w.heap.size v S.2.1 ∧ Below w.heap.size w w' := by
  obtain ⟨ix, E, X, h1, h2, h3⟩ := h
  have hfew := h1.few
  have H1 := Lib.hid h1
  have H3 := Lib.hid h3
  obtain ⟨Ai, ci, rfl, _, _, hhi⟩ := own_sliceN h1.irow
  have Hi := Lib.hid hhi
  obtain ⟨q0, q1, q2, -, -, -⟩ := h1.cells
  obtain ⟨n, hn⟩ : ∃ n, X.length = n := ⟨_, rfl⟩
  have HX := Lib.hid hn
  rw [hn] at q1 Hi hfew
  clear h1 h2 h3 hhi hn
  go_enter Tryz.func21, Tryz.ntmps21
  go_wp2
  clear q0 q1 q2
  go_loopw [3, 5, 11] (fun lv _ i wr => ∃ (k : Nat) (Y : List Ix), k ≤ n ∧ i = .int .i64 (k : Int) ∧ Y.length = k ∧ wr.ownsRow w.heap.size 56 2 lv k (ixCells Y) ∧ Hid (∀ x ∈ Y, wr.ownsRow w.heap.size 3 1 x.v x.fs.length (intCells x.fs)) ∧ Below w.heap.size w wr ∧ Hid (Y.map xi = (X.take k).map xi)) (fun _ _ i _ => n - (intOf i).toNat)
  case atStart => exact ⟨0, [], by omega, rfl, rfl, World.ownsRow_nil _ _ _ _, Lib.hid (by simp), Below.refl _ _, Lib.hid rfl⟩
  case round =>
    obtain ⟨k, Y, hk, rfl, hY, hown, Hf, hb, Hm⟩ := hrel
    have Hown := Lib.hid hown
    have Hb := Lib.hid hb
    have HY := Lib.hid hY
    have hsz := hb.size
    clear hown hb hY
    by_cases hlt : k < n
    · have hkl : k < X.length := by have := HX.out; omega
      obtain ⟨a, rfl, _, hall⟩ := (Hi.out.belowOf Hb.out (Nat.le_refl _)).all (by omega)
      obtain ⟨c0, c1⟩ := ixCells_at X k X[k] (List.getElem?_eq_getElem hkl)
      have d0 := hall _ _ c0
      have d1 := hall _ _ c1
      rw [addr_step a _ 1 (by omega)] at d1
      have hfl := (H1.out.below Hb.out).flds X[k] (List.getElem_mem hkl)
      have hnum := (H1.out.nums X[k] (List.getElem_mem hkl))
      have E1 : Hid (X.take (k + 1) = X.take k ++ [X[k]]) := Lib.hid (by rw [List.take_succ_eq_append_getElem hkl])
      generalize X[k] = x at d0 d1 hfl hnum E1
      obtain ⟨hs1, hs2⟩ := idx_some hnum.2.2.1
      obtain ⟨num, xv, fs⟩ := x
      dsimp only at d0 d1 hfl hs1 hs2
      obtain ⟨Af, cf, rfl, _, _, hhf⟩ := own_slice hfl
      obtain ⟨w0, hw0⟩ : ∃ w0, wr.alloc (.cells #[.int .i64 num, .slice Af fs.length cf] 56) = w0 := ⟨_, rfl⟩
      have hb0 : Below wr.heap.size wr w0 := hw0 ▸ below_alloc _ _
      have hbx : Box w0 wr.heap.size 56 #[.int .i64 num, .slice Af fs.length cf] := hw0 ▸ Box.made _ _ _
      have p0 := hbx.cell 0
      have p1 := hbx.cell 1
      have Hcl := Lib.hid (fun wx (hb : Below w0.heap.size w0 wx) => cloneInts_any Af fs.length cf wr.heap.size fs wx ⟨rfl, (hhf.belowOf hb0 (Nat.le_refl _)).belowOf hb hb0.size⟩ hs1 hs2 (Nat.le_trans hb0.size hb.size))
      have Hown0 := Lib.hid (own_belowN Hown.out hb0)
      have Hf0 := Lib.hid (fun y hy => own_below (Hf.out y hy) hb0)
      have Hb0 := Lib.hid (Hb.out.trans (hb0.mono hsz))
      have hz0 : wr.heap.size < w0.heap.size := hbx.lt
      have Hlb := Lib.hid (fun g hg => (Hown.out.lt g hg).2)
      have hk0 : (0 : Int) ≤ (k : Int) := by omega
      have hk1 : (k : Int) < (n : Int) := by omega
      clear hfl hnum hhf hkl c0 c1 hall hs1 hb0
      go_wp2
      go_region_held3 (fun wx => wx.cell? ⟨wr.heap.size, 0, none⟩ = some (.int .i64 num) ∧ wx.cell? ⟨wr.heap.size, 1, none⟩ = some (.slice Af fs.length cf))
        (first | assumption | exact ⟨p0, p1⟩ | exact ⟨keepcell (by assumption) p0, keepcell (by assumption) p1⟩ | exact ⟨keepcell (Below.then bD (below_alloc _ _)) p0, keepcell (Below.then bD (below_alloc _ _)) p1⟩ | exact ⟨keepA _ _ (keepcell (Below.then bD (below_alloc _ _)) p0), keepA _ _ (keepcell (Below.then bD (below_alloc _ _)) p1)⟩)
        (first
          | (refine step_append_hasN (by rfl) _ _ _ (by rfl) 56 idx_elem (by omega) Tryz.underlying49 (by rfl) (oD.alloc _) (by rfl) (Has.lit wR #[.int .i64 num, .slice Av fs.length cv] _) (by intro u hu; simp at hu; rcases hu with rfl | rfl <;> rfl) (by simp only [maxLen]; omega) (by omega) (by simp; have := bD.size; omega) ?_; intro lA wA oA gA zA; have keepA : ∀ (j : Nat) (u : Value), (wR.alloc (.cells #[.int .i64 num, .slice Av fs.length cv] 56)).cell? ⟨wr.heap.size, j, none⟩ = some u → wA.cell? ⟨wr.heap.size, j, none⟩ = some u := fun j u hu => World.grownBy.cell gA hu (fun e => by have h1 := Hlb.out wr.heap.size e.symm; omega))
          | (go_at_call 50; refine (Hcl.out _ (below_drew _)).mono ?_; rintro e wR ⟨vR, rfl, oR, bR⟩; obtain ⟨Av, cv, rfl, -⟩ := own_slice oR; have bD : Below w0.heap.size w0 wR := Below.then (below_drew _) bR; have oD := own_belowN Hown0.out bD))
      all_goals
        have hf' : ∀ y ∈ Y ++ [(⟨num, .slice Av fs.length cv, fs⟩ : Ix)], wA.ownsRow w.heap.size 3 1 y.v y.fs.length (intCells y.fs) := fun y hy => by
          rcases List.mem_append.1 hy with hy | hy
          · exact ints_grown ((own_below (Hf0.out y hy) bD).alloc _) (oD.alloc _) gA
          · simp only [List.mem_singleton] at hy
            subst hy
            exact ints_grown ((own_base oR Hb0.out.size).alloc _) (oD.alloc _) gA
        have Hf' := Lib.hid hf'
        have Hb' := Lib.hid (below_ownN ((Hb0.out.trans (bD.mono Hb0.out.size)).alloc (Nat.le_trans Hb0.out.size bD.size) (.cells #[.int .i64 num, .slice Av fs.length cv] 56)) (oD.alloc _) gA (by simp; have := bD.size; have := Hb0.out.size; omega))
        have HoA := Lib.hid oA
        clear hf' oD oR oA gA zA keepA bD bR
        go_wp2
        go_roundw
        case rel =>
          refine ⟨k + 1, Y ++ [⟨num, .slice Av fs.length cv, fs⟩], by omega, by go_num, by rw [List.length_append, HY.out]; rfl, ?_, Hf', Hb'.out, Lib.hid ?_⟩
          · rw [ixCells_app]
            exact HoA.out
          · rw [E1.out, List.map_append, List.map_append, Hm.out]
            rfl
        case measure => simp [intOf]; omega
    · have hkn : k = n := by omega
      have Hm' : Hid (Y.map xi = X.map xi) := Lib.hid (by rw [Hm.out, List.take_of_length_le (by have := HX.out; omega)])
      go_wp2
      go_ret
      exact ⟨_, rfl, ⟨Y, by rw [HY.out]; exact Hown.out, Hf.out, by rw [Hm'.out, H3.out]⟩, Hb.out⟩
end Go.Proofs.YtheojndkojagdaaGreat

namespace Go.Proofs.YtheojndkojagdaaGreat
open Go.RowKit
open Go.Lib (strCells compareBytes)

/-- does a record show the index something in the area? -/
def hitB (id : Int) (fs : List Int) (low high : List TVal) (r : List TVal) : Bool := match showT id fs r with | some m => liesB m low high | none => false
theorem Stands.goods {w : World} {B sb mb : Nat} {S : PSt} (h : Stands w B sb mb S) : (∀ p ∈ S.1, GoodRec p.2 ∧ keyOk p.1 = true) ∧ Rise S.1 ∧ S.2.1.Pairwise (fun x y => x.1 < y.1) := by
  obtain ⟨ix, E, X, h1, h2, h3⟩ := h
  refine ⟨fun p hp => ?_, ?_, ?_⟩
  · rw [← h2] at hp
    obtain ⟨q, hq, rfl⟩ := List.mem_map.1 hp
    exact h1.good q hq
  · rw [← h2]
    exact (rise_map _).2 h1.rise
  · rw [← h3, List.pairwise_map]
    exact h1.ids
theorem hit_filter {id : Int} {fs : List Int} {low high : List TVal} : ∀ (M : Kv (List TVal)), (∀ p ∈ M, GoodRec p.2 ∧ keyOk p.1 = true) → (entsOf id fs M).filterMap (hitK low high) = (M.filter fun p => hitB id fs low high p.2).map (·.1)
  | [], _ => rfl
  | p :: M, h => by
    have ih := hit_filter (id := id) (fs := fs) (low := low) (high := high) M fun q hq => h q (by simp [hq])
    obtain ⟨hg, hk⟩ := h p (by simp)
    unfold entsOf at ih ⊢
    cases hs : showT id fs p.2 with
    | none =>
      have e1 : entE id fs p.1 p.2 = none := by unfold entE; rw [hs]; rfl
      have e2 : hitB id fs low high p.2 = false := by unfold hitB; rw [hs]
      rw [List.filterMap_cons_none (f := fun p : List UInt8 × List TVal => entE id fs p.1 p.2) (a := p) e1, List.filter_cons_of_neg (by simp [e2])]
      exact ih
    | some m =>
      obtain ⟨h1, h2⟩ := show_entry hg hs hk
      have e1 : entE id fs p.1 p.2 = some (entryT id m p.1) := by unfold entE; rw [hs]; rfl
      have e2 : hitB id fs low high p.2 = liesB m low high := by unfold hitB; rw [hs]
      have e3 := hitK_entry (low := low) (high := high) h1 h2
      rw [List.filterMap_cons_some (f := fun p : List UInt8 × List TVal => entE id fs p.1 p.2) (a := p) e1]
      by_cases hl : liesB m low high = true
      · rw [List.filterMap_cons_some (by rw [e3, if_pos hl]), List.filter_cons_of_pos (by rw [e2]; exact hl), List.map_cons, ih]
      · rw [List.filterMap_cons_none (by rw [e3, if_neg hl]), List.filter_cons_of_neg (by rw [e2]; exact hl)]
        exact ih
theorem rowsT_self {M L : Kv (List TVal)} (hM : Rise M) (hL : ∀ p ∈ L, p ∈ M) : rowsT M (L.map (·.1)) = L := by
  unfold rowsT
  rw [List.map_map]
  conv => rhs; rw [← List.map_id L]
  refine List.map_congr_left fun p hp => ?_
  simp only [Function.comp, getK_of_mem hM (show (p.1, p.2) ∈ M from hL p hp)]
  rfl
/-- an index's place, if it is there -/
theorem idxT_at {id : Int} : ∀ {I : List (Int × List Int)}, idxT id I < I.length → ∃ fs, I[idxT id I]? = some (id, fs)
  | [], h => by simp at h
  | x :: l, h => by
    unfold idxT at h ⊢
    by_cases e : x.1 = id
    · rw [if_pos e]
      exact ⟨x.2, by simp [← e]⟩
    · rw [if_neg e] at h ⊢
      obtain ⟨fs, hf⟩ := idxT_at (id := id) (I := l) (by simpa using h)
      exact ⟨fs, by simpa using hf⟩
theorem query_plain {S : PSt} (hg : ∀ p ∈ S.1, GoodRec p.2 ∧ keyOk p.1 = true) (hr : Rise S.1) (id : Int) (low high : List TVal) (hl : S.1.length ≤ 60) :
    ((queryA id S.2.1 low high 64 S.1).code ≠ 0 ∧ (queryA id S.2.1 low high 64 S.1).rows = []) ∨
    ((queryA id S.2.1 low high 64 S.1).code = 0 ∧ ∃ fs, S.2.1[idxT id S.2.1]? = some (id, fs) ∧ ((queryA id S.2.1 low high 64 S.1).rows).Perm (S.1.filter fun p => hitB id fs low high p.2)) := by
  unfold queryA
  by_cases h : idxT id S.2.1 < S.2.1.length
  · rw [if_pos h]
    obtain ⟨fs, hf⟩ := idxT_at h
    refine .inr ⟨rfl, fs, hf, ?_⟩
    have hp : ((shownI id S.2.1 S.1).filterMap (hitK low high)).Perm ((S.1.filter fun p => hitB id fs low high p.2).map (·.1)) := by
      unfold shownI
      rw [hf]
      rw [← hit_filter S.1 hg]
      exact (List.mergeSort_perm _ _).filterMap _
    have hlen := hp.length_eq
    rw [List.length_map] at hlen
    have h2 : (S.1.filter fun p => hitB id fs low high p.2).length ≤ S.1.length := List.length_filter_le _ _
    dsimp only
    rw [List.take_of_length_le (by omega)]
    have h3 : (rowsT S.1 ((shownI id S.2.1 S.1).filterMap (hitK low high))).Perm (rowsT S.1 ((S.1.filter fun p => hitB id fs low high p.2).map (·.1))) := hp.map _
    rwa [rowsT_self hr fun p hp => (List.mem_filter.1 hp).1] at h3
  · rw [if_neg h]
    exact .inl ⟨by simp, rfl⟩
/-- of all indexes just one has the number -/
theorem idx_count {I : List (Int × List Int)} (hI : I.Pairwise fun x y => x.1 < y.1) {id : Int} {fs : List Int} (h : I[idxT id I]? = some (id, fs)) (f : List Int → Bool) : (I.filter fun x => decide (x.1 = id) && f x.2).length = if f fs then 1 else 0 := by
  induction I with
  | nil => simp at h
  | cons x l ih =>
    have hx := List.pairwise_cons.1 hI
    unfold idxT at h
    by_cases e : x.1 = id
    · rw [if_pos e] at h
      simp at h
      have h0 : l.filter (fun y => decide (y.1 = id) && f y.2) = [] := by
        rw [List.filter_eq_nil_iff]
        intro y hy
        have := hx.1 y hy
        have : y.1 ≠ id := by omega
        simp [this]
      rw [List.filter_cons, h0]
      subst h
      by_cases hf : f fs <;> simp [hf]
    · rw [if_neg e] at h
      rw [List.filter_cons, if_neg (by simp [e])]
      exact ih hx.2 (by simpa using h)
def queryOp (id : Int) (low high : List TVal) : TOp := ⟨6, ⟨#[]⟩, ⟨#[]⟩, [], [], id, [], low, high, 64, 0, 0⟩
theorem step_query (S : PSt) (id : Int) (low high : List TVal) : stepT S (queryOp id low high) = S := by
  unfold stepT doT
  by_cases h : checkT (queryOp id low high) = 0
  · rw [if_neg (by rw [h]; simp), if_neg (by simp [queryOp]), if_neg (by simp [queryOp]), if_neg (by simp [queryOp]), if_neg (by simp [queryOp]), if_neg (by simp [queryOp]), if_pos (by simp [queryOp])]
  · rw [if_pos h]
theorem query_ans {S : PSt} (hg : ∀ p ∈ S.1, GoodRec p.2 ∧ keyOk p.1 = true) (hr : Rise S.1) (id : Int) (low high : List TVal) (hl : S.1.length ≤ 60) {a : Ans} (ha : (doT (queryOp id low high) S.1 S.2.1 S.2.2).1 = a) :
    (a.code ≠ 0 ∧ a.rows = []) ∨ (a.code = 0 ∧ ∃ fs, S.2.1[idxT id S.2.1]? = some (id, fs) ∧ (a.rows).Perm (S.1.filter fun p => hitB id fs low high p.2)) := by
  unfold doT at ha
  by_cases h : checkT (queryOp id low high) = 0
  · rw [if_neg (by rw [h]; simp), if_neg (by simp [queryOp]), if_neg (by simp [queryOp]), if_neg (by simp [queryOp]), if_neg (by simp [queryOp]), if_neg (by simp [queryOp]), if_pos (by simp [queryOp])] at ha
    subst ha
    exact query_plain hg hr id low high hl
  · rw [if_pos h] at ha
    subst ha
    exact .inl ⟨by simpa using h, rfl⟩
theorem Stands.few {w : World} {B sb mb : Nat} {S : PSt} (h : Stands w B sb mb S) : S.2.1.length ≤ 6 := by
  obtain ⟨ix, E, X, h1, h2, h3⟩ := h
  rw [← h3, List.length_map]
  exact h1.few
/-- the index that has the number is the one that is found -/
theorem hit_id {I : List (Int × List Int)} (hI : I.Pairwise fun x y => x.1 < y.1) {id num : Int} {fs gs : List Int} {low high r : List TVal} {b : Nat} (h : I[idxT id I]? = some (id, fs)) (hb : I[b]? = some (num, gs)) (e : num = id) : hitB id gs low high r = hitB id fs low high r := by
  subst e
  obtain ⟨h1, e1⟩ := List.getElem?_eq_some_iff.1 h
  obtain ⟨h2, e2⟩ := List.getElem?_eq_some_iff.1 hb
  have hp := List.pairwise_iff_getElem.1 hI
  have hbi : b = idxT num I := by
    rcases Nat.lt_trichotomy b (idxT num I) with hlt | heq | hgt
    · have := hp _ _ h2 h1 hlt
      rw [e1, e2] at this
      simp at this
    · exact heq
    · have := hp _ _ h1 h2 hgt
      rw [e1, e2] at this
      simp at this
  subst hbi
  rw [h] at hb
  injection hb with hb
  injection hb with _ hb
  rw [hb]
end Go.Proofs.YtheojndkojagdaaGreat

namespace Go.Proofs.YtheojndkojagdaaGreat
open Go.RowKit
open Go.Lib (strCells compareBytes)

set_option maxRecDepth 100000 in
set_option maxHeartbeats 12800000 in
theorem plainQueries_walk (v : Value) (l : List TOp) (id : Int) (A1 A2 : Option Addr) (n1 c1 n2 c2 : Nat) (low high : List TVal) (w : World) (ho : IsOps w w.heap.size v l) (hsh : ∀ o ∈ l, OpShort o)
    (h1 : IsVals w w.heap.size (.slice A1 n1 c1) low) (h2 : IsVals w w.heap.size (.slice A2 n2 c2) high) (s1 : ∀ u ∈ low, u.s.size ≤ maxLen) (s2 : ∀ u ∈ high, u.s.size ≤ maxLen) :
    Calls Tryz.prog 4 #[v, .int .i64 id, .slice A1 n1 c1, .slice A2 n2 c2] w fun e w' => e = .returned (.bool true) ∧ Below w.heap.size w w' := by
  have Ho := Lib.hid ho
  have Hsh := Lib.hid hsh
  have H1 := Lib.hid h1
  have H2 := Lib.hid h2
  have U1 := Lib.hid (isVals_slice h1)
  have U2 := Lib.hid (isVals_slice h2)
  have HLa := Lib.hid (fun wx (hb : Below w.heap.size w wx) => light_any A1 n1 c1 w.heap.size 300 low wx (U1.out.2.2.belowOf hb (Nat.le_refl _)) (Nat.le_trans U1.out.1 U1.out.2.1) (by omega) s1)
  have HLb := Lib.hid (fun wx (hb : Below w.heap.size w wx) => light_any A2 n2 c2 w.heap.size 300 high wx (U2.out.2.2.belowOf hb (Nat.le_refl _)) (Nat.le_trans U2.out.1 U2.out.2.1) (by omega) s2)
  obtain ⟨A, n, c, rfl, -, -, hops⟩ := ho
  have Hops := Lib.hid hops
  have Hlen := Lib.hid hops.1
  clear hsh hops h1 h2 s1 s2
  go_enter Tryz.func4, Tryz.ntmps4
  go_wp2_with fail
  refine (awake_any _).mono ?_
  rintro e w1 ⟨rfl, hb1⟩
  have Hb1 := Lib.hid hb1
  go_wp2_with fail
  refine (allLight_any _ l w.heap.size 60 w1 hb1.size (Ho.out.belowOf hb1 (Nat.le_refl _)) Hsh.out (by omega)).mono ?_
  rintro e w2 ⟨b, rfl, hb2, hlen⟩
  have Hb2 := Lib.hid (Below.then hb1 hb2)
  cases b with
  | false => go_wp2; go_ret; exact ⟨rfl, Hb2.out⟩
  | true =>
    have Hl60 := Lib.hid (hlen rfl)
    clear hlen hb1 hb2
    go_wp2_with fail
    refine (HLa.out w2 Hb2.out).mono ?_
    rintro e w2a ⟨b, rfl, -, rfl⟩
    have Hb2a := Hb2
    cases b with
    | false => go_wp2; go_ret; exact ⟨rfl, Hb2a.out⟩
    | true =>
      go_wp2_with fail
      refine (HLb.out w2 Hb2.out).mono ?_
      rintro e w3 ⟨b, rfl, -, rfl⟩
      have Hb3 := Hb2
      cases b with
      | false => go_wp2; go_ret; exact ⟨rfl, Hb3.out⟩
      | true =>
        go_wp2_with fail
        refine (new_any w2 w.heap.size Hb3.out.size).mono ?_
        rintro e w4 ⟨rfl, hst, hb4⟩
        have Hb4 := Lib.hid (Below.then Hb3.out hb4)
        have Hst : Hid (Stands w4 w.heap.size (w2.heap.size + 1) w2.heap.size (runT [])) := Lib.hid ⟨_, _, _, hst, rfl, rfl⟩
        have Hsb : Hid (w.heap.size ≤ w2.heap.size + 1) := Lib.hid (Nat.le_succ_of_le Hb3.out.size)
        generalize w2.heap.size + 1 = sb at *
        generalize w2.heap.size = mb at Hst
        clear hst hb4
        have Hn : Hid (l.length = n) := Hlen
        go_wp2
        go_loopw [10] (fun i wr => ∃ k : Nat, k ≤ n ∧ i = .int .i64 (k : Int) ∧ Hid (Stands wr w.heap.size sb mb (runT (l.take k))) ∧ Hid ((runT (l.take k)).1.length ≤ k) ∧ Below w.heap.size w wr) (fun i _ => n - (intOf i).toNat)
        case atStart => exact ⟨0, by omega, rfl, Hst, Lib.hid (by simp [runT]), Hb4.out⟩
        case round =>
          obtain ⟨k, hk, rfl, Hst, Hk, hb⟩ := hrel
          have Hb := Lib.hid hb
          clear hb
          have hk60 : n ≤ 60 := by have := Hl60.out; have := Hn.out; omega
          by_cases hlt : k < n
          · obtain ⟨a, o, rv, ov, fv, lv, hv, rfl, hab, hol, hop, d0, d1, d2, d3, d4, d5, d6, d7, d8, d9, d10, d11⟩ := ops_at (Hops.out.belowOf Hb.out (Nat.le_refl _)) hlt
            have Hcall := Lib.hid (step_any Hst.out _ o w.heap.size Hsb.out hop (by have := Hk.out; omega))
            have Hrun : Hid (stepT (runT (l.take k)) o = runT (l.take (k + 1))) := Lib.hid (by
              obtain ⟨hkl, e⟩ := List.getElem?_eq_some_iff.1 hol
              rw [List.take_succ_eq_append_getElem hkl, runT_snoc, e])
            have Hk2 : Hid ((runT (l.take (k + 1))).1.length ≤ k + 1) := Lib.hid (by
              rw [← Hrun.out]
              have := stepT_len (runT (l.take k)) o
              have := Hk.out
              omega)
            rw [Hrun.out] at Hcall
            unfold opCells at Hcall
            have hk0 : (0 : Int) ≤ (k : Int) := by omega
            have hk1 : (k : Int) < (n : Int) := by omega
            clear hop hol
            go_wp2_with fail
            refine Hcall.out.mono ?_
            rintro e w5 ⟨u, rfl, -, hs5, hb5⟩
            have Hs5 := Lib.hid hs5
            have Hb5 := Lib.hid (Hb.out.trans hb5)
            clear hs5 hb5
            go_wp2
            go_roundw
            case rel => exact ⟨k + 1, by omega, by go_num, Hs5, Hk2, Hb5.out⟩
            case measure => simp [intOf]; omega
          · have hkn : k = n := by omega
            subst hkn
            rw [List.take_of_length_le (by have := Hn.out; omega)] at Hst Hk
            --TAIL
            have hn60 : k ≤ 60 := by have := Hl60.out; have := Hn.out; omega
            obtain ⟨S, hS⟩ : ∃ S, runT l = S := ⟨_, rfl⟩
            rw [hS] at Hst Hk
            clear hS hlt hk
            obtain ⟨a, ha⟩ : ∃ r, (doT (queryOp id low high) S.1 S.2.1 S.2.2).1 = r := ⟨_, rfl⟩
            have Hgoods := Lib.hid Hst.out.goods
            have hcases := query_ans Hgoods.out.1 Hgoods.out.2.1 id low high (by have := Hk.out; omega) ha
            have Ha := Lib.hid ha
            clear ha
            go_wp2_with fail
            refine (step_stays Hst.out _ (queryOp id low high) w.heap.size Hsb.out ⟨_, _, _, _, _, rfl, isVals_nil _ _, isVals_nil _ _, isInts_nil _ _, H1.out.belowOf Hb.out (Nat.le_refl _), H2.out.belowOf Hb.out (Nat.le_refl _)⟩ (by have := Hk.out; omega)).mono ?_
            rintro e x1 ⟨u, rfl, ha, hs, hb, hq⟩
            rw [Ha.out] at ha
            rw [step_query] at hs
            obtain ⟨B1, d1, E1, f1, rfl, -, -, -, hR⟩ := ha.parts
            have HR1 := Lib.hid hR
            have Hs1 := Lib.hid hs
            have Hb1 := Lib.hid (Hb.out.trans hb)
            clear ha hs hb hq hR
            obtain ⟨y1, hy1⟩ : ∃ y, x1.alloc (.cells #[.int .i64 a.code, .bool a.there, .slice B1 a.rc.length d1, .slice E1 a.rows.length f1, .int .i64 a.num] 35) = y := ⟨_, rfl⟩
            have Hy1 : Hid (Below x1.heap.size x1 y1) := Lib.hid (hy1 ▸ below_alloc _ _)
            have Hbx : Hid (Box y1 x1.heap.size 35 #[.int .i64 a.code, .bool a.there, .slice B1 a.rc.length d1, .slice E1 a.rows.length f1, .int .i64 a.num]) := Lib.hid (hy1 ▸ Box.made _ _ _)
            have Hst1 := Lib.hid (Hs1.out.below Hy1.out)
            have Hby := Lib.hid (Hb1.out.trans (Hy1.out.mono Hb1.out.size))
            have p0 := Hbx.out.cell 0
            have p3 := Hbx.out.cell 3
            rcases hcases with ⟨hc, hrl⟩ | ⟨hc, fs, hfs, hperm⟩
            · have hcb : (a.code != 0) = true := by simpa using hc
              have hrl0 : a.rows.length = 0 := by rw [hrl]; rfl
              clear hc hrl
              go_wp2
              go_ret
              exact ⟨rfl, Hb1.out.alloc Hb1.out.size _⟩
            · have hcb : (a.code != 0) = false := by simp [hc]
              have Hfs := Lib.hid hfs
              have Hperm := Lib.hid hperm
              clear hc hfs hperm
              go_wp2_with fail
              refine (allRows_any Hst1.out (by have := Hk.out; omega)).mono ?_
              rintro e x2 ⟨v2, rfl, hR2, hb2⟩
              have Hst2 := Lib.hid (Hst1.out.below hb2)
              have Hb2' := Lib.hid hb2
              have HR2 := Lib.hid hR2
              clear hR2 hb2
              go_wp2_with fail
              refine (allIdx_any Hst2.out).mono ?_
              rintro e x3 ⟨v3, rfl, hI, hb3⟩
              have Hb13 : Hid (Below y1.heap.size y1 x3) := Lib.hid (Hb2'.out.trans (hb3.mono Hb2'.out.size))
              have Hbw : Hid (Below w.heap.size w x3) := Lib.hid (Hby.out.trans (Hb13.out.mono Hby.out.size))
              obtain ⟨rsQ, hoQ, heQ⟩ := HR1.out
              obtain ⟨-, hQ1⟩ := hoQ.has
              have HQ := Lib.hid ((hQ1.belowOf Hy1.out (Nat.le_refl _)).belowOf Hb13.out Hy1.out.size)
              have HeQ := Lib.hid heQ
              have Hbq := Lib.hid (Hbx.out.below Hb13.out Hbx.out.lt)
              obtain ⟨AR, cR, rsR, rfl, hcR, -, hR, heR⟩ := ownRows_has (HR2.out.stays (Stays.below hb3))
              have HRr := Lib.hid hR
              have HeR := Lib.hid heR
              obtain ⟨Xi, hoI, hfI, hxi⟩ := hI
              obtain ⟨AI, cI, rfl, hcI, -, hhI⟩ := own_sliceN hoI
              have HI := Lib.hid hhI
              have HfI := Lib.hid hfI
              have Hxi := Lib.hid hxi
              have hz6 : Xi.length ≤ 6 := by rw [← List.length_map (f := xi), hxi]; exact Hst2.out.few
              have hm60 : S.1.length ≤ 60 := by have := Hk.out; omega
              have hpm : a.rows.length ≤ 60 := by
                have h1 := Hperm.out.length_eq
                have h2 : (S.1.filter fun p => hitB id fs low high p.2).length ≤ S.1.length := List.length_filter_le _ _
                omega
              obtain ⟨m, hm⟩ : ∃ m, S.1.length = m := ⟨_, rfl⟩
              obtain ⟨p, hp⟩ : ∃ p, a.rows.length = p := ⟨_, rfl⟩
              obtain ⟨z, hz⟩ : ∃ z, Xi.length = z := ⟨_, rfl⟩
              rw [hm] at HRr hm60 hcR ⊢
              rw [hp] at HQ Hbq hpm
              rw [hz] at HI hz6 hcI ⊢
              have Hm := Lib.hid hm
              have Hp := Lib.hid hp
              have Hz := Lib.hid hz
              have Hcb := Lib.hid hcb
              have Hx1x : Hid (x1.heap.size ≤ x3.heap.size) := Lib.hid (Nat.le_trans Hy1.out.size Hb13.out.size)
              clear hoQ heQ hQ1 hR heR hoI hfI hxi hhI hb3 hm hz p0 p3
              rw [hp] at Hbx hy1
              clear hp
              go_wp2_with fail
              clear hy1
              generalize x3 = wx at *
              go_loopw [8, 14, 15, 16, 17, 18, 19, 20] (fun _ nv iv _ _ _ _ _ wq => ∃ (i c : Nat), i ≤ m ∧ iv = .int .i64 (i : Int) ∧ nv = .int .i64 (c : Int) ∧ c ≤ i ∧ Hid (c = ((S.1.take i).filter fun p => hitB id fs low high p.2).length) ∧ Below wx.heap.size wx wq) (fun _ _ iv _ _ _ _ _ _ => m - (intOf iv).toNat)
              case atStart => exact ⟨0, 0, by omega, rfl, rfl, by omega, Lib.hid (by simp), Below.refl _ _⟩
              case round =>
                obtain ⟨i, cc, him, rfl, rfl, hci, Hcc, hb⟩ := hrel
                have Hbl := Lib.hid hb
                clear hb
                by_cases hlt : i < m
                · obtain ⟨aR, s, Ar, mr, cr, r, xr, rfl, -, hxr, hs, hr, hmr, hvr, d0, d1⟩ := row_at HRr.out hlt
                  have hpi := mapK_at (f := fun p : Value × List TVal => p.2) hxr
                  rw [HeR.out, hs, hr] at hpi
                  have Hpi := Lib.hid hpi
                  have Hvr := Lib.hid hvr
                  have HD := Lib.hid (And.intro d0 d1)
                  obtain ⟨hb, hhb⟩ : ∃ b, hitB id fs low high r = b := ⟨_, rfl⟩
                  have Hhb := Lib.hid hhb
                  have Hnx : Hid (((S.1.take (i + 1)).filter fun p => hitB id fs low high p.2).length = cc + if hb then 1 else 0) := Lib.hid (by
                    rw [List.take_add_one, hpi, List.filter_append, List.length_append, ← Hcc.out]
                    simp only [Option.toList_some, List.filter_cons, List.filter_nil, hhb]
                    cases hb <;> rfl)
                  have Hmr := Lib.hid hmr
                  have i0 : (0 : Int) ≤ (i : Int) := by omega
                  have i1 : (i : Int) < (m : Int) := by omega
                  clear hxr hs hr hpi hvr d0 d1 hhb hmr
                  generalize wr = wi at *
                  go_wp2_with fail
                  go_loopw [8, 14, 16, 17, 18, 19, 20] (fun _ nv kv _ _ _ _ wq => ∃ (b c' : Nat), b ≤ z ∧ kv = .int .i64 (b : Int) ∧ nv = .int .i64 (c' : Int) ∧ c' ≤ cc + b ∧ Hid (c' = cc + ((S.2.1.take b).filter fun x => decide (x.1 = id) && hitB id x.2 low high r).length) ∧ Below wx.heap.size wx wq) (fun _ _ kv _ _ _ _ _ => z - (intOf kv).toNat)
                  case atStart => exact ⟨0, cc, by omega, rfl, rfl, by omega, Lib.hid (by simp), Hbl.out⟩
                  case round =>
                    obtain ⟨b, c', hbz, rfl, rfl, hcb', Hc', hb3⟩ := hrel
                    have Hb3' := Lib.hid hb3
                    clear hb3
                    by_cases hlb : b < z
                    · have hbX : b < Xi.length := by have := Hz.out; omega
                      obtain ⟨aI, rfl, _, hall⟩ := HI.out.all (by omega)
                      obtain ⟨c0, c1⟩ := ixCells_at Xi b Xi[b] (List.getElem?_eq_getElem hbX)
                      have e0 := hall _ _ c0
                      have e1 := hall _ _ c1
                      rw [addr_step aI _ 1 (by omega)] at e1
                      have hfl := HfI.out Xi[b] (List.getElem_mem hbX)
                      have hSb : S.2.1[b]? = some (xi Xi[b]) := by rw [← Hxi.out, List.getElem?_map, List.getElem?_eq_getElem hbX]; rfl
                      have hidx := hSb
                      generalize Xi[b] = x at e0 e1 hfl hSb hidx
                      obtain ⟨num, xv, gs⟩ := x
                      dsimp only [xi] at e0 e1 hfl hSb hidx
                      have Hidx := Lib.hid hidx
                      clear hidx
                      obtain ⟨Af, cf, rfl, hcf, hcfm, hhf⟩ := own_slice hfl
                      have Hfil : Hid (((S.2.1.take (b + 1)).filter fun x => decide (x.1 = id) && hitB id x.2 low high r).length = ((S.2.1.take b).filter fun x => decide (x.1 = id) && hitB id x.2 low high r).length + if decide (num = id) && hitB id gs low high r then 1 else 0) := Lib.hid (by
                        rw [List.take_add_one, hSb, List.filter_append, List.length_append]
                        simp only [Option.toList_some, List.filter_cons, List.filter_nil]
                        cases (decide (num = id) && hitB id gs low high r) <;> rfl)
                      have Hsh := Lib.hid (fun wq (hb : Below wx.heap.size wx wq) => refShows_any num Af Ar gs.length cf mr cr wx.heap.size gs r wq ⟨rfl, hhf.belowOf hb (Nat.le_refl _)⟩ (Hvr.out.belowOf hb (Nat.le_refl _)) (Nat.le_trans hcf hcfm) Hmr.out hb.size)
                      have HE := Lib.hid (And.intro e0 e1)
                      have q0 := (Hb3'.out.cell (World.block_lt_of_cell? wx _ e0)).trans e0
                      have q1 := (Hb3'.out.cell (World.block_lt_of_cell? wx _ e1)).trans e1
                      have q2 := (Hb3'.out.cell (World.block_lt_of_cell? wx _ HD.out.2)).trans HD.out.2
                      have b0 : (0 : Int) ≤ (b : Int) := by omega
                      have b1 : (b : Int) < (z : Int) := by omega
                      clear hall c0 c1 e0 e1 hfl hSb hhf hcf hcfm hbX
                      cases hsh : showT num gs r with
                      | none =>
                        rw [hsh] at Hsh
                        unfold ShowsPost at Hsh
                        dsimp only at Hsh
                        have hz0 : Hid (hitB id gs low high r = false ∨ num ≠ id) := Lib.hid (by
                          by_cases e : num = id
                          · left
                            subst e
                            unfold hitB
                            rw [hsh]
                          · exact .inr e)
                        clear hsh
                        go_wp2
                        go_region_held3 (fun wq => wq.cell? (aI.add (b * 2)) = some (.int .i64 num) ∧ wq.cell? ⟨(aI.add (b * 2)).block, (aI.add (b * 2)).off + 1, none⟩ = some (.slice Af gs.length cf) ∧ wq.cell? ⟨(aR.add (i * 2)).block, (aR.add (i * 2)).off + 1, none⟩ = some (.slice Ar mr cr))
                          (first | assumption | exact ⟨q0, q1, q2⟩ | exact ⟨keepcell (Below.then (below_drew _) hbS) q0, keepcell (Below.then (below_drew _) hbS) q1, keepcell (Below.then (below_drew _) hbS) q2⟩)
                          (first | (go_at_call 24; refine (Hsh.out _ ((Hb3'.out.trans ((below_drew _).mono Hb3'.out.size)))).mono ?_; rintro e wS ⟨rfl, hbS⟩))
                        all_goals
                          have HbS : Hid (Below wx.heap.size wx wS) := Lib.hid ((Hb3'.out.trans ((below_drew _).mono Hb3'.out.size)).trans (hbS.mono ((Hb3'.out.trans ((below_drew _).mono Hb3'.out.size)).size)))
                          have q4 := keepcell HbS.out HE.out.1
                          clear hbS q0 q1 q2
                          by_cases hni : num = id
                          · have hnb : (num != id) = false := by simp [hni]
                            have hg0 : Hid (hitB id gs low high r = false) := Lib.hid (by rcases hz0.out with h | h; exact h; exact absurd hni h)
                            clear hni
                            go_wp2
                            go_roundw
                            case rel => exact ⟨b + 1, c', by omega, by go_num, by go_num, by omega, Lib.hid (by rw [Hfil.out, if_neg (by simp [hg0.out]), Hc'.out]; omega), HbS.out⟩
                            case measure => simp [intOf]; omega
                          · have hnb : (num != id) = true := by simp [hni]
                            have Hni := Lib.hid hni
                            clear hni
                            go_wp2
                            go_roundw
                            case rel => exact ⟨b + 1, c', by omega, by go_num, by go_num, by omega, Lib.hid (by rw [Hfil.out, if_neg (by simp [Hni.out]), Hc'.out]; omega), HbS.out⟩
                            case measure => simp [intOf]; omega
                      | some mm =>
                        rw [hsh] at Hsh
                        unfold ShowsPost at Hsh
                        dsimp only at Hsh
                        have hhl : Hid (num = id → hitB id gs low high r = liesB mm low high) := Lib.hid (fun e => by
                          subst e
                          unfold hitB
                          rw [hsh])
                        clear hsh
                        go_wp2
                        go_region_held3 (fun wq => wq.cell? (aI.add (b * 2)) = some (.int .i64 num) ∧ wq.cell? ⟨(aI.add (b * 2)).block, (aI.add (b * 2)).off + 1, none⟩ = some (.slice Af gs.length cf) ∧ wq.cell? ⟨(aR.add (i * 2)).block, (aR.add (i * 2)).off + 1, none⟩ = some (.slice Ar mr cr))
                          (first | assumption | exact ⟨q0, q1, q2⟩ | exact ⟨keepcell (Below.then (below_drew _) hbS) q0, keepcell (Below.then (below_drew _) hbS) q1, keepcell (Below.then (below_drew _) hbS) q2⟩)
                          (first | (go_at_call 24; refine (Hsh.out _ ((Hb3'.out.trans ((below_drew _).mono Hb3'.out.size)))).mono ?_; rintro e wS ⟨vS, rfl, hoS, hbS⟩; obtain ⟨AS, cS, rfl, hcS, hcSm, _⟩ := own_sliceN hoS))
                        all_goals
                          have HbS : Hid (Below wx.heap.size wx wS) := Lib.hid ((Hb3'.out.trans ((below_drew _).mono Hb3'.out.size)).trans (hbS.mono ((Hb3'.out.trans ((below_drew _).mono Hb3'.out.size)).size)))
                          have q4 := keepcell HbS.out HE.out.1
                          have Hlies := Lib.hid (refLies_any AS A1 A2 _ n1 n2 cS c1 c2 wS.heap.size mm low high wS (own_vals hoS) ((U1.out.2.2.belowOf (Hbw.out.trans (HbS.out.mono Hbw.out.size)) (Nat.le_refl _)).more (Nat.le_trans Hbw.out.size HbS.out.size)) ((U2.out.2.2.belowOf (Hbw.out.trans (HbS.out.mono Hbw.out.size)) (Nat.le_refl _)).more (Nat.le_trans Hbw.out.size HbS.out.size)) (Nat.le_trans hcS hcSm) (Nat.le_trans U1.out.1 U1.out.2.1) (Nat.le_trans U2.out.1 U2.out.2.1) hcS (Nat.le_refl _))
                          clear hbS q0 q1 q2 hoS hcS hcSm
                          by_cases hni : num = id
                          · have hnb : (num != id) = false := by simp [hni]
                            have Hhg := Lib.hid (hhl.out hni)
                            have Hni := Lib.hid hni
                            clear hni
                            cases hlies : liesB mm low high with
                            | false =>
                              rw [hlies] at Hlies Hhg
                              clear hlies
                              go_wp2_with fail
                              refine Hlies.out.mono ?_
                              rintro e wL ⟨rfl, hbL⟩
                              have HbL : Hid (Below wx.heap.size wx wL) := Lib.hid (HbS.out.trans (hbL.mono HbS.out.size))
                              clear hbL
                              go_wp2
                              go_roundw
                              case rel => exact ⟨b + 1, c', by omega, by go_num, by go_num, by omega, Lib.hid (by rw [Hfil.out, if_neg (by simp [Hhg.out]), Hc'.out]; omega), HbL.out⟩
                              case measure => simp [intOf]; omega
                            | true =>
                              rw [hlies] at Hlies Hhg
                              clear hlies
                              have HhitG := Lib.hid (And.intro Hni.out Hhg.out)
                              go_wp2_with fail
                              refine Hlies.out.mono ?_
                              rintro e wL ⟨rfl, hbL⟩
                              have HbL : Hid (Below wx.heap.size wx wL) := Lib.hid (HbS.out.trans (hbL.mono HbS.out.size))
                              have HhitT : Hid (hitB id fs low high r = true) := Lib.hid (by rw [← hit_id Hgoods.out.2.2 Hfs.out Hidx.out Hni.out]; exact Hhg.out)
                              clear hbL
                              go_wp2_with fail
                              go_loopw [19, 20] (fun fv jv wq => ∃ (t : Nat) (fb : Bool), t ≤ p ∧ jv = .int .i64 (t : Int) ∧ fv = .bool fb ∧ Hid (fb = (a.rows.take t).any fun y => decide (y = (s.data.toList, r))) ∧ Below wx.heap.size wx wq) (fun _ jv _ => p - (intOf jv).toNat)
                              case atStart => exact ⟨0, false, by omega, rfl, rfl, Lib.hid (by simp), HbL.out⟩
                              case round =>
                                obtain ⟨t, fb, htp, rfl, rfl, Hfb, hb4⟩ := hrel
                                have Hb4 := Lib.hid hb4
                                clear hb4
                                by_cases hlt4 : t < p
                                · obtain ⟨aQ, sQ, Aq, mq, cq, rq, xq, rfl, -, hxq, hsq, hrq, hmq, hvq, w0', w1'⟩ := row_at HQ.out hlt4
                                  have hpq := mapK_at (f := fun p : Value × List TVal => p.2) hxq
                                  rw [HeQ.out, hsq, hrq] at hpq
                                  have Hstep : Hid ((a.rows.take (t + 1)).any (fun y => decide (y = (s.data.toList, r))) = ((a.rows.take t).any (fun y => decide (y = (s.data.toList, r))) || decide ((sQ.data.toList, rq) = (s.data.toList, r)))) := Lib.hid (by
                                    rw [List.take_add_one, hpq, List.any_append]
                                    simp)
                                  have SQ := Lib.hid (fun wq (hb : Below wx.heap.size wx wq) => same_any Aq Ar mq mr cq cr x1.heap.size wx.heap.size rq r wq (hvq.belowOf hb Hx1x.out) (Hvr.out.belowOf hb (Nat.le_refl _)) hmq Hmr.out)
                                  have LQ : Hid (∀ wq, Below wx.heap.size wx wq → (fun wq => wq.cell? ⟨x1.heap.size, 3, none⟩ = some (.slice (some aQ) p f1) ∧ wq.cell? (aQ.add (t * 2)) = some (.string sQ) ∧ wq.cell? ⟨(aQ.add (t * 2)).block, (aQ.add (t * 2)).off + 1, none⟩ = some (.slice Aq mq cq) ∧ wq.cell? (aR.add (i * 2)) = some (.string s) ∧ wq.cell? ⟨(aR.add (i * 2)).block, (aR.add (i * 2)).off + 1, none⟩ = some (.slice Ar mr cr)) wq) := Lib.hid fun wq hb => ⟨(Hbq.out.below hb Hbq.out.lt).cell 3, keepcell hb w0', keepcell hb w1', keepcell hb HD.out.1, keepcell hb HD.out.2⟩
                                  have hS0 := LQ.out wr Hb4.out
                                  have t0 : (0 : Int) ≤ (t : Int) := by omega
                                  have t1 : (t : Int) < (p : Int) := by omega
                                  clear hxq hsq hrq hmq hvq w0' w1' hpq
                                  cases fb with
                                  | true =>
                                    go_wp2_with fail
                                    refine wp_region_held_drew (S := fun wq => wq.cell? ⟨x1.heap.size, 3, none⟩ = some (.slice (some aQ) p f1) ∧ wq.cell? (aQ.add (t * 2)) = some (.string sQ) ∧ wq.cell? ⟨(aQ.add (t * 2)).block, (aQ.add (t * 2)).off + 1, none⟩ = some (.slice Aq mq cq) ∧ wq.cell? (aR.add (i * 2)) = some (.string s) ∧ wq.cell? ⟨(aR.add (i * 2)).block, (aR.add (i * 2)).off + 1, none⟩ = some (.slice Ar mr cr)) (by kernel_rfl) hS0 (fun hHeld => ?_)
                                    clear hS0
                                    refine wpAnyH_take (i := 0) (oi := ⟨some 118, _, _, _, _, _⟩) (v := .bool true) rfl (by kernel_rfl) (by kernel_rfl) (by kernel_rfl) (fun _ _ _ h => h) (Or.inl ⟨by rfl, ?_⟩) (by assumption) ?_
                                    · intro w hSw; (try dsimp only at hSw); go_simp
                                    simp only [Act.put, List.setIfInBounds_toArray, List.set_cons_zero, List.set_cons_succ]
                                    refine wpAnyH_take (i := 1) (oi := ⟨some 119, _, _, _, _, _⟩) (v := .bool true) rfl (by kernel_rfl) (by kernel_rfl) (by kernel_rfl) (fun _ _ _ h => h) (Or.inl ⟨by rfl, ?_⟩) (by assumption) ?_
                                    · intro w hSw; (try dsimp only at hSw); go_simp
                                    simp only [Act.put, List.setIfInBounds_toArray, List.set_cons_zero, List.set_cons_succ]
                                    refine wpAnyH_take (i := 2) (oi := ⟨some 120, _, _, _, _, _⟩) (v := undef) rfl (by kernel_rfl) (by kernel_rfl) (by kernel_rfl) (fun _ _ _ h => h) (Or.inr ⟨by rfl, rfl⟩) (by assumption) ?_
                                    simp only [Act.put, List.setIfInBounds_toArray, List.set_cons_zero, List.set_cons_succ]
                                    refine wpAnyH_take (i := 3) (oi := ⟨some 121, _, _, _, _, _⟩) (v := undef) rfl (by kernel_rfl) (by kernel_rfl) (by kernel_rfl) (fun _ _ _ h => h) (Or.inr ⟨by rfl, rfl⟩) (by assumption) ?_
                                    simp only [Act.put, List.setIfInBounds_toArray, List.set_cons_zero, List.set_cons_succ]
                                    refine wpAnyH_take (i := 4) (oi := ⟨some 122, _, _, _, _, _⟩) (v := undef) rfl (by kernel_rfl) (by kernel_rfl) (by kernel_rfl) (fun _ _ _ h => h) (Or.inr ⟨by rfl, rfl⟩) (by assumption) ?_
                                    simp only [Act.put, List.setIfInBounds_toArray, List.set_cons_zero, List.set_cons_succ]
                                    refine wpAnyH_take (i := 5) (oi := ⟨some 123, _, _, _, _, _⟩) (v := undef) rfl (by kernel_rfl) (by kernel_rfl) (by kernel_rfl) (fun _ _ _ h => h) (Or.inr ⟨by rfl, rfl⟩) (by assumption) ?_
                                    simp only [Act.put, List.setIfInBounds_toArray, List.set_cons_zero, List.set_cons_succ]
                                    refine wpAnyH_take (i := 6) (oi := ⟨some 124, _, _, _, _, _⟩) (v := undef) rfl (by kernel_rfl) (by kernel_rfl) (by kernel_rfl) (fun _ _ _ h => h) (Or.inr ⟨by rfl, rfl⟩) (by assumption) ?_
                                    simp only [Act.put, List.setIfInBounds_toArray, List.set_cons_zero, List.set_cons_succ]
                                    refine wpAnyH_take (i := 7) (oi := ⟨some 125, _, _, _, _, _⟩) (v := undef) rfl (by kernel_rfl) (by kernel_rfl) (by kernel_rfl) (fun _ _ _ h => h) (Or.inr ⟨by rfl, rfl⟩) (by assumption) ?_
                                    simp only [Act.put, List.setIfInBounds_toArray, List.set_cons_zero, List.set_cons_succ]
                                    refine wpAnyH_take (i := 8) (oi := ⟨some 126, _, _, _, _, _⟩) (v := undef) rfl (by kernel_rfl) (by kernel_rfl) (by kernel_rfl) (fun _ _ _ h => h) (Or.inr ⟨by rfl, rfl⟩) (by assumption) ?_
                                    simp only [Act.put, List.setIfInBounds_toArray, List.set_cons_zero, List.set_cons_succ]
                                    refine wpAnyH_take (i := 9) (oi := ⟨some 127, _, _, _, _, _⟩) (v := undef) rfl (by kernel_rfl) (by kernel_rfl) (by kernel_rfl) (fun _ _ _ h => h) (Or.inr ⟨by rfl, rfl⟩) (by assumption) ?_
                                    simp only [Act.put, List.setIfInBounds_toArray, List.set_cons_zero, List.set_cons_succ]
                                    refine wpAnyH_take (i := 10) (oi := ⟨some 128, _, _, _, _, _⟩) (v := undef) rfl (by kernel_rfl) (by kernel_rfl) (by kernel_rfl) (fun _ _ _ h => h) (Or.inr ⟨by rfl, rfl⟩) (by assumption) ?_
                                    simp only [Act.put, List.setIfInBounds_toArray, List.set_cons_zero, List.set_cons_succ]
                                    refine wpAnyH_take (i := 11) (oi := ⟨some 129, _, _, _, _, _⟩) (v := undef) rfl (by kernel_rfl) (by kernel_rfl) (by kernel_rfl) (fun _ _ _ h => h) (Or.inr ⟨by rfl, rfl⟩) (by assumption) ?_
                                    simp only [Act.put, List.setIfInBounds_toArray, List.set_cons_zero, List.set_cons_succ]
                                    refine wpAnyH_take (i := 12) (oi := ⟨some 130, _, _, _, _, _⟩) (v := undef) rfl (by kernel_rfl) (by kernel_rfl) (by kernel_rfl) (fun _ _ _ h => h) (Or.inr ⟨by rfl, rfl⟩) (by assumption) ?_
                                    simp only [Act.put, List.setIfInBounds_toArray, List.set_cons_zero, List.set_cons_succ]
                                    refine wpAnyH_take (i := 13) (oi := ⟨some 131, _, _, _, _, _⟩) (v := undef) rfl (by kernel_rfl) (by kernel_rfl) (by kernel_rfl) (fun _ _ _ h => h) (Or.inr ⟨by rfl, rfl⟩) (by assumption) ?_
                                    simp only [Act.put, List.setIfInBounds_toArray, List.set_cons_zero, List.set_cons_succ]
                                    refine wpAnyH_take (i := 14) (oi := ⟨some 132, _, _, _, _, _⟩) (v := undef) rfl (by kernel_rfl) (by kernel_rfl) (by kernel_rfl) (fun _ _ _ h => h) (Or.inr ⟨by rfl, rfl⟩) (by assumption) ?_
                                    simp only [Act.put, List.setIfInBounds_toArray, List.set_cons_zero, List.set_cons_succ]
                                    refine wpAnyH_take (i := 15) (oi := ⟨some 133, _, _, _, _, _⟩) (v := undef) rfl (by kernel_rfl) (by kernel_rfl) (by kernel_rfl) (fun _ _ _ h => h) (Or.inr ⟨by rfl, rfl⟩) (by assumption) ?_
                                    simp only [Act.put, List.setIfInBounds_toArray, List.set_cons_zero, List.set_cons_succ]
                                    refine wpAnyH_take (i := 16) (oi := ⟨some 134, _, _, _, _, _⟩) (v := undef) rfl (by kernel_rfl) (by kernel_rfl) (by kernel_rfl) (fun _ _ _ h => h) (Or.inr ⟨by rfl, rfl⟩) (by assumption) ?_
                                    simp only [Act.put, List.setIfInBounds_toArray, List.set_cons_zero, List.set_cons_succ]
                                    refine wpAnyH_take (i := 17) (oi := ⟨some 135, _, _, _, _, _⟩) (v := undef) rfl (by kernel_rfl) (by kernel_rfl) (by kernel_rfl) (fun _ _ _ h => h) (Or.inr ⟨by rfl, rfl⟩) (by assumption) ?_
                                    simp only [Act.put, List.setIfInBounds_toArray, List.set_cons_zero, List.set_cons_succ]
                                    refine wpAnyH_take (i := 18) (oi := ⟨some 136, _, _, _, _, _⟩) (v := undef) rfl (by kernel_rfl) (by kernel_rfl) (by kernel_rfl) (fun _ _ _ h => h) (Or.inr ⟨by rfl, rfl⟩) (by assumption) ?_
                                    simp only [Act.put, List.setIfInBounds_toArray, List.set_cons_zero, List.set_cons_succ]
                                    refine wpAnyH_take (i := 19) (oi := ⟨some 137, _, _, _, _, _⟩) (v := undef) rfl (by kernel_rfl) (by kernel_rfl) (by kernel_rfl) (fun _ _ _ h => h) (Or.inr ⟨by rfl, rfl⟩) (by assumption) ?_
                                    simp only [Act.put, List.setIfInBounds_toArray, List.set_cons_zero, List.set_cons_succ]
                                    refine wpAnyH_take (i := 20) (oi := ⟨some 138, _, _, _, _, _⟩) (v := undef) rfl (by kernel_rfl) (by kernel_rfl) (by kernel_rfl) (fun _ _ _ h => h) (Or.inr ⟨by rfl, rfl⟩) (by assumption) ?_
                                    simp only [Act.put, List.setIfInBounds_toArray, List.set_cons_zero, List.set_cons_succ]
                                    refine wpAnyH_take (i := 21) (oi := ⟨some 139, _, _, _, _, _⟩) (v := undef) rfl (by kernel_rfl) (by kernel_rfl) (by kernel_rfl) (fun _ _ _ h => h) (Or.inr ⟨by rfl, rfl⟩) (by assumption) ?_
                                    simp only [Act.put, List.setIfInBounds_toArray, List.set_cons_zero, List.set_cons_succ]
                                    refine wpAnyH_take (i := 22) (oi := ⟨some 140, _, _, _, _, _⟩) (v := undef) rfl (by kernel_rfl) (by kernel_rfl) (by kernel_rfl) (fun _ _ _ h => h) (Or.inr ⟨by rfl, rfl⟩) (by assumption) ?_
                                    simp only [Act.put, List.setIfInBounds_toArray, List.set_cons_zero, List.set_cons_succ]
                                    refine wpAnyH_take (i := 23) (oi := ⟨some 141, _, _, _, _, _⟩) (v := undef) rfl (by kernel_rfl) (by kernel_rfl) (by kernel_rfl) (fun _ _ _ h => h) (Or.inr ⟨by rfl, rfl⟩) (by assumption) ?_
                                    simp only [Act.put, List.setIfInBounds_toArray, List.set_cons_zero, List.set_cons_succ]
                                    refine wpAnyH_take (i := 24) (oi := ⟨some 142, _, _, _, _, _⟩) (v := undef) rfl (by kernel_rfl) (by kernel_rfl) (by kernel_rfl) (fun _ _ _ h => h) (Or.inr ⟨by rfl, rfl⟩) (by assumption) ?_
                                    simp only [Act.put, List.setIfInBounds_toArray, List.set_cons_zero, List.set_cons_succ]
                                    refine wpAnyH_take (i := 25) (oi := ⟨some 143, _, _, _, _, _⟩) (v := undef) rfl (by kernel_rfl) (by kernel_rfl) (by kernel_rfl) (fun _ _ _ h => h) (Or.inr ⟨by rfl, rfl⟩) (by assumption) ?_
                                    simp only [Act.put, List.setIfInBounds_toArray, List.set_cons_zero, List.set_cons_succ]
                                    refine wpAnyH_take (i := 26) (oi := ⟨some 144, _, _, _, _, _⟩) (v := undef) rfl (by kernel_rfl) (by kernel_rfl) (by kernel_rfl) (fun _ _ _ h => h) (Or.inr ⟨by rfl, rfl⟩) (by assumption) ?_
                                    simp only [Act.put, List.setIfInBounds_toArray, List.set_cons_zero, List.set_cons_succ]
                                    refine wpAnyH_take (i := 27) (oi := ⟨some 145, _, _, _, _, _⟩) (v := undef) rfl (by kernel_rfl) (by kernel_rfl) (by kernel_rfl) (fun _ _ _ h => h) (Or.inr ⟨by rfl, rfl⟩) (by assumption) ?_
                                    simp only [Act.put, List.setIfInBounds_toArray, List.set_cons_zero, List.set_cons_succ]
                                    refine wpAnyH_take (i := 28) (oi := ⟨some 146, _, _, _, _, _⟩) (v := .bool true) rfl (by kernel_rfl) (by kernel_rfl) (by kernel_rfl) (fun _ _ _ h => h) (Or.inl ⟨by rfl, ?_⟩) (by assumption) ?_
                                    · intro w hSw; (try dsimp only at hSw); go_simp
                                    simp only [Act.put, List.setIfInBounds_toArray, List.set_cons_zero, List.set_cons_succ]
                                    refine wpAnyH_take (i := 29) (oi := ⟨some 19, _, _, _, _, _⟩) (v := .bool true) rfl (by kernel_rfl) (by kernel_rfl) (by kernel_rfl) (fun _ _ _ h => h) (Or.inl ⟨by rfl, ?_⟩) (by assumption) ?_
                                    · intro w hSw; (try dsimp only at hSw); go_simp
                                    simp only [Act.put, List.setIfInBounds_toArray, List.set_cons_zero, List.set_cons_succ]
                                    refine wpAnyH_done (by kernel_rfl) ?_ _
                                    go_wp2
                                    go_roundw
                                    case rel => exact ⟨t + 1, true, by omega, by go_num, rfl, Lib.hid (by rw [Hstep.out, ← Hfb.out]; rfl), Hb4.out.trans ((below_drew _).mono Hb4.out.size)⟩
                                    case measure => simp [intOf]; omega
                                  | false =>
                                    by_cases hks : sQ.data.toList = s.data.toList
                                    · have hkb : (sQ.toList == s.toList) = true := by rw [eq_toList]; exact decide_eq_true hks
                                      have Hks := Lib.hid hks
                                      clear hks
                                      go_wp2_with fail
                                      refine wp_region_held_drew (S := fun wq => wq.cell? ⟨x1.heap.size, 3, none⟩ = some (.slice (some aQ) p f1) ∧ wq.cell? (aQ.add (t * 2)) = some (.string sQ) ∧ wq.cell? ⟨(aQ.add (t * 2)).block, (aQ.add (t * 2)).off + 1, none⟩ = some (.slice Aq mq cq) ∧ wq.cell? (aR.add (i * 2)) = some (.string s) ∧ wq.cell? ⟨(aR.add (i * 2)).block, (aR.add (i * 2)).off + 1, none⟩ = some (.slice Ar mr cr)) (by kernel_rfl) hS0 (fun hHeld => ?_)
                                      clear hS0
                                      refine wpAnyH_take (i := 0) (oi := ⟨some 118, _, _, _, _, _⟩) (v := .bool false) rfl (by kernel_rfl) (by kernel_rfl) (by kernel_rfl) (fun _ _ _ h => h) (Or.inl ⟨by rfl, ?_⟩) (by assumption) ?_
                                      · intro w hSw; (try dsimp only at hSw); go_simp
                                      simp only [Act.put, List.setIfInBounds_toArray, List.set_cons_zero, List.set_cons_succ]
                                      refine wpAnyH_take (i := 1) (oi := ⟨some 119, _, _, _, _, _⟩) (v := .bool false) rfl (by kernel_rfl) (by kernel_rfl) (by kernel_rfl) (fun _ _ _ h => h) (Or.inl ⟨by rfl, ?_⟩) (by assumption) ?_
                                      · intro w hSw; (try dsimp only at hSw); go_simp
                                      simp only [Act.put, List.setIfInBounds_toArray, List.set_cons_zero, List.set_cons_succ]
                                      refine wpAnyH_take (i := 2) (oi := ⟨some 120, _, _, _, _, _⟩) (v := .pointer (some ⟨x1.heap.size, 3, none⟩)) rfl (by kernel_rfl) (by kernel_rfl) (by kernel_rfl) (fun _ _ _ h => h) (Or.inl ⟨by rfl, ?_⟩) (by assumption) ?_
                                      · intro w hSw; (try dsimp only at hSw); go_simp
                                      simp only [Act.put, List.setIfInBounds_toArray, List.set_cons_zero, List.set_cons_succ]
                                      refine wpAnyH_take (i := 3) (oi := ⟨some 121, _, _, _, _, _⟩) (v := .slice (some aQ) p f1) rfl (by kernel_rfl) (by kernel_rfl) (by kernel_rfl) (fun _ _ _ h => h) (Or.inl ⟨by rfl, ?_⟩) (by assumption) ?_
                                      · intro w hSw; (try dsimp only at hSw); go_simp
                                      simp only [Act.put, List.setIfInBounds_toArray, List.set_cons_zero, List.set_cons_succ]
                                      refine wpAnyH_take (i := 4) (oi := ⟨some 122, _, _, _, _, _⟩) (v := .int .i64 (t : Int)) rfl (by kernel_rfl) (by kernel_rfl) (by kernel_rfl) (fun _ _ _ h => h) (Or.inl ⟨by rfl, ?_⟩) (by assumption) ?_
                                      · intro w hSw; (try dsimp only at hSw); go_simp
                                      simp only [Act.put, List.setIfInBounds_toArray, List.set_cons_zero, List.set_cons_succ]
                                      refine wpAnyH_take (i := 5) (oi := ⟨some 123, _, _, _, _, _⟩) (v := .pointer (some (aQ.add (t * 2)))) rfl (by kernel_rfl) (by kernel_rfl) (by kernel_rfl) (fun _ _ _ h => h) (Or.inl ⟨by rfl, ?_⟩) (by assumption) ?_
                                      · intro w hSw; (try dsimp only at hSw); go_simp
                                      simp only [Act.put, List.setIfInBounds_toArray, List.set_cons_zero, List.set_cons_succ]
                                      refine wpAnyH_take (i := 6) (oi := ⟨some 124, _, _, _, _, _⟩) (v := .pointer (some (aQ.add (t * 2)))) rfl (by kernel_rfl) (by kernel_rfl) (by kernel_rfl) (fun _ _ _ h => h) (Or.inl ⟨by rfl, ?_⟩) (by assumption) ?_
                                      · intro w hSw; (try dsimp only at hSw); go_simp
                                      simp only [Act.put, List.setIfInBounds_toArray, List.set_cons_zero, List.set_cons_succ]
                                      refine wpAnyH_take (i := 7) (oi := ⟨some 125, _, _, _, _, _⟩) (v := .string sQ) rfl (by kernel_rfl) (by kernel_rfl) (by kernel_rfl) (fun _ _ _ h => h) (Or.inl ⟨by rfl, ?_⟩) (by assumption) ?_
                                      · intro w hSw; (try dsimp only at hSw); go_simp
                                      simp only [Act.put, List.setIfInBounds_toArray, List.set_cons_zero, List.set_cons_succ]
                                      refine wpAnyH_take (i := 8) (oi := ⟨some 126, _, _, _, _, _⟩) (v := .slice (some aR) m cR) rfl (by kernel_rfl) (by kernel_rfl) (by kernel_rfl) (fun _ _ _ h => h) (Or.inl ⟨by rfl, ?_⟩) (by assumption) ?_
                                      · intro w hSw; (try dsimp only at hSw); go_simp
                                      simp only [Act.put, List.setIfInBounds_toArray, List.set_cons_zero, List.set_cons_succ]
                                      refine wpAnyH_take (i := 9) (oi := ⟨some 127, _, _, _, _, _⟩) (v := .int .i64 (i : Int)) rfl (by kernel_rfl) (by kernel_rfl) (by kernel_rfl) (fun _ _ _ h => h) (Or.inl ⟨by rfl, ?_⟩) (by assumption) ?_
                                      · intro w hSw; (try dsimp only at hSw); go_simp
                                      simp only [Act.put, List.setIfInBounds_toArray, List.set_cons_zero, List.set_cons_succ]
                                      refine wpAnyH_take (i := 10) (oi := ⟨some 128, _, _, _, _, _⟩) (v := .pointer (some (aR.add (i * 2)))) rfl (by kernel_rfl) (by kernel_rfl) (by kernel_rfl) (fun _ _ _ h => h) (Or.inl ⟨by rfl, ?_⟩) (by assumption) ?_
                                      · intro w hSw; (try dsimp only at hSw); go_simp
                                      simp only [Act.put, List.setIfInBounds_toArray, List.set_cons_zero, List.set_cons_succ]
                                      refine wpAnyH_take (i := 11) (oi := ⟨some 129, _, _, _, _, _⟩) (v := .pointer (some (aR.add (i * 2)))) rfl (by kernel_rfl) (by kernel_rfl) (by kernel_rfl) (fun _ _ _ h => h) (Or.inl ⟨by rfl, ?_⟩) (by assumption) ?_
                                      · intro w hSw; (try dsimp only at hSw); go_simp
                                      simp only [Act.put, List.setIfInBounds_toArray, List.set_cons_zero, List.set_cons_succ]
                                      refine wpAnyH_take (i := 12) (oi := ⟨some 130, _, _, _, _, _⟩) (v := .string s) rfl (by kernel_rfl) (by kernel_rfl) (by kernel_rfl) (fun _ _ _ h => h) (Or.inl ⟨by rfl, ?_⟩) (by assumption) ?_
                                      · intro w hSw; (try dsimp only at hSw); go_simp
                                      simp only [Act.put, List.setIfInBounds_toArray, List.set_cons_zero, List.set_cons_succ]
                                      refine wpAnyH_take (i := 13) (oi := ⟨some 131, _, _, _, _, _⟩) (v := .bool true) rfl (by kernel_rfl) (by kernel_rfl) (by kernel_rfl) (fun _ _ _ h => h) (Or.inl ⟨by rfl, ?_⟩) (by assumption) ?_
                                      · intro w hSw; (try dsimp only at hSw); go_simp
                                      simp only [Act.put, List.setIfInBounds_toArray, List.set_cons_zero, List.set_cons_succ]
                                      refine wpAnyH_take (i := 14) (oi := ⟨some 132, _, _, _, _, _⟩) (v := .bool true) rfl (by kernel_rfl) (by kernel_rfl) (by kernel_rfl) (fun _ _ _ h => h) (Or.inl ⟨by rfl, ?_⟩) (by assumption) ?_
                                      · intro w hSw; (try dsimp only at hSw); go_simp
                                      simp only [Act.put, List.setIfInBounds_toArray, List.set_cons_zero, List.set_cons_succ]
                                      refine wpAnyH_take (i := 15) (oi := ⟨some 133, _, _, _, _, _⟩) (v := .pointer (some ⟨x1.heap.size, 3, none⟩)) rfl (by kernel_rfl) (by kernel_rfl) (by kernel_rfl) (fun _ _ _ h => h) (Or.inl ⟨by rfl, ?_⟩) (by assumption) ?_
                                      · intro w hSw; (try dsimp only at hSw); go_simp
                                      simp only [Act.put, List.setIfInBounds_toArray, List.set_cons_zero, List.set_cons_succ]
                                      refine wpAnyH_take (i := 16) (oi := ⟨some 134, _, _, _, _, _⟩) (v := .slice (some aQ) p f1) rfl (by kernel_rfl) (by kernel_rfl) (by kernel_rfl) (fun _ _ _ h => h) (Or.inl ⟨by rfl, ?_⟩) (by assumption) ?_
                                      · intro w hSw; (try dsimp only at hSw); go_simp
                                      simp only [Act.put, List.setIfInBounds_toArray, List.set_cons_zero, List.set_cons_succ]
                                      refine wpAnyH_take (i := 17) (oi := ⟨some 135, _, _, _, _, _⟩) (v := .int .i64 (t : Int)) rfl (by kernel_rfl) (by kernel_rfl) (by kernel_rfl) (fun _ _ _ h => h) (Or.inl ⟨by rfl, ?_⟩) (by assumption) ?_
                                      · intro w hSw; (try dsimp only at hSw); go_simp
                                      simp only [Act.put, List.setIfInBounds_toArray, List.set_cons_zero, List.set_cons_succ]
                                      refine wpAnyH_take (i := 18) (oi := ⟨some 136, _, _, _, _, _⟩) (v := .pointer (some (aQ.add (t * 2)))) rfl (by kernel_rfl) (by kernel_rfl) (by kernel_rfl) (fun _ _ _ h => h) (Or.inl ⟨by rfl, ?_⟩) (by assumption) ?_
                                      · intro w hSw; (try dsimp only at hSw); go_simp
                                      simp only [Act.put, List.setIfInBounds_toArray, List.set_cons_zero, List.set_cons_succ]
                                      refine wpAnyH_take (i := 19) (oi := ⟨some 137, _, _, _, _, _⟩) (v := .pointer (some ⟨(aQ.add (t * 2)).block, (aQ.add (t * 2)).off + 1, none⟩)) rfl (by kernel_rfl) (by kernel_rfl) (by kernel_rfl) (fun _ _ _ h => h) (Or.inl ⟨by rfl, ?_⟩) (by assumption) ?_
                                      · intro w hSw; (try dsimp only at hSw); go_simp
                                      simp only [Act.put, List.setIfInBounds_toArray, List.set_cons_zero, List.set_cons_succ]
                                      refine wpAnyH_take (i := 20) (oi := ⟨some 138, _, _, _, _, _⟩) (v := .slice Aq mq cq) rfl (by kernel_rfl) (by kernel_rfl) (by kernel_rfl) (fun _ _ _ h => h) (Or.inl ⟨by rfl, ?_⟩) (by assumption) ?_
                                      · intro w hSw; (try dsimp only at hSw); go_simp
                                      simp only [Act.put, List.setIfInBounds_toArray, List.set_cons_zero, List.set_cons_succ]
                                      refine wpAnyH_take (i := 21) (oi := ⟨some 139, _, _, _, _, _⟩) (v := .slice (some aR) m cR) rfl (by kernel_rfl) (by kernel_rfl) (by kernel_rfl) (fun _ _ _ h => h) (Or.inl ⟨by rfl, ?_⟩) (by assumption) ?_
                                      · intro w hSw; (try dsimp only at hSw); go_simp
                                      simp only [Act.put, List.setIfInBounds_toArray, List.set_cons_zero, List.set_cons_succ]
                                      refine wpAnyH_take (i := 22) (oi := ⟨some 140, _, _, _, _, _⟩) (v := .int .i64 (i : Int)) rfl (by kernel_rfl) (by kernel_rfl) (by kernel_rfl) (fun _ _ _ h => h) (Or.inl ⟨by rfl, ?_⟩) (by assumption) ?_
                                      · intro w hSw; (try dsimp only at hSw); go_simp
                                      simp only [Act.put, List.setIfInBounds_toArray, List.set_cons_zero, List.set_cons_succ]
                                      refine wpAnyH_take (i := 23) (oi := ⟨some 141, _, _, _, _, _⟩) (v := .pointer (some (aR.add (i * 2)))) rfl (by kernel_rfl) (by kernel_rfl) (by kernel_rfl) (fun _ _ _ h => h) (Or.inl ⟨by rfl, ?_⟩) (by assumption) ?_
                                      · intro w hSw; (try dsimp only at hSw); go_simp
                                      simp only [Act.put, List.setIfInBounds_toArray, List.set_cons_zero, List.set_cons_succ]
                                      refine wpAnyH_take (i := 24) (oi := ⟨some 142, _, _, _, _, _⟩) (v := .pointer (some ⟨(aR.add (i * 2)).block, (aR.add (i * 2)).off + 1, none⟩)) rfl (by kernel_rfl) (by kernel_rfl) (by kernel_rfl) (fun _ _ _ h => h) (Or.inl ⟨by rfl, ?_⟩) (by assumption) ?_
                                      · intro w hSw; (try dsimp only at hSw); go_simp
                                      simp only [Act.put, List.setIfInBounds_toArray, List.set_cons_zero, List.set_cons_succ]
                                      refine wpAnyH_take (i := 25) (oi := ⟨some 143, _, _, _, _, _⟩) (v := .slice Ar mr cr) rfl (by kernel_rfl) (by kernel_rfl) (by kernel_rfl) (fun _ _ _ h => h) (Or.inl ⟨by rfl, ?_⟩) (by assumption) ?_
                                      · intro w hSw; (try dsimp only at hSw); go_simp
                                      simp only [Act.put, List.setIfInBounds_toArray, List.set_cons_zero, List.set_cons_succ]
                                      refine wpAnyH_ready (rs := [26]) (by kernel_rfl) (by simp) (AllReadyH.cons (o := ⟨some 144, _, _, _, _, _⟩) rfl (fun K hK => ?_) AllReadyH.nil)
                                      go_simp
                                      refine (SQ.out _ ((Hb4.out.trans ((below_drew _).mono Hb4.out.size)))).mono ?_
                                      rintro e wS2 ⟨rfl, hbS2⟩
                                      have Hb5 : Hid (Below wx.heap.size wx wS2) := Lib.hid ((Hb4.out.trans ((below_drew _).mono Hb4.out.size)).trans (hbS2.mono ((Hb4.out.trans ((below_drew _).mono Hb4.out.size)).size)))
                                      clear hbS2
                                      refine hK.out _ _ (LQ.out wS2 Hb5.out) (fun _ => ?_)
                                      clear hK K
                                      refine wpAnyH_take (i := 27) (oi := ⟨some 145, _, _, _, _, _⟩) (v := .bool (decide (rq = r))) rfl (by kernel_rfl) (by kernel_rfl) (by kernel_rfl) (fun _ _ _ h => h) (Or.inl ⟨by rfl, ?_⟩) (by assumption) ?_
                                      · intro w hSw; (try dsimp only at hSw); go_simp
                                      simp only [Act.put, List.setIfInBounds_toArray, List.set_cons_zero, List.set_cons_succ]
                                      refine wpAnyH_take (i := 28) (oi := ⟨some 146, _, _, _, _, _⟩) (v := .bool (decide (rq = r))) rfl (by kernel_rfl) (by kernel_rfl) (by kernel_rfl) (fun _ _ _ h => h) (Or.inl ⟨by rfl, ?_⟩) (by assumption) ?_
                                      · intro w hSw; (try dsimp only at hSw); go_simp
                                      simp only [Act.put, List.setIfInBounds_toArray, List.set_cons_zero, List.set_cons_succ]
                                      refine wpAnyH_take (i := 29) (oi := ⟨some 19, _, _, _, _, _⟩) (v := .bool (decide (rq = r))) rfl (by kernel_rfl) (by kernel_rfl) (by kernel_rfl) (fun _ _ _ h => h) (Or.inl ⟨by rfl, ?_⟩) (by assumption) ?_
                                      · intro w hSw; (try dsimp only at hSw); go_simp
                                      simp only [Act.put, List.setIfInBounds_toArray, List.set_cons_zero, List.set_cons_succ]
                                      refine wpAnyH_done (by kernel_rfl) ?_ _
                                      go_wp2
                                      go_roundw
                                      case rel => exact ⟨t + 1, decide (rq = r), by omega, by go_num, rfl, Lib.hid (by rw [Hstep.out, ← Hfb.out, Bool.false_or]; exact decide_eq_decide.2 (by rw [Prod.mk.injEq]; exact ⟨fun h => ⟨Hks.out, h⟩, fun h => h.2⟩)), Hb5.out⟩
                                      case measure => simp [intOf]; omega
                                    · have hkb : (sQ.toList == s.toList) = false := by rw [eq_toList]; exact decide_eq_false hks
                                      have Hks := Lib.hid hks
                                      clear hks
                                      go_wp2_with fail
                                      refine wp_region_held_drew (S := fun wq => wq.cell? ⟨x1.heap.size, 3, none⟩ = some (.slice (some aQ) p f1) ∧ wq.cell? (aQ.add (t * 2)) = some (.string sQ) ∧ wq.cell? ⟨(aQ.add (t * 2)).block, (aQ.add (t * 2)).off + 1, none⟩ = some (.slice Aq mq cq) ∧ wq.cell? (aR.add (i * 2)) = some (.string s) ∧ wq.cell? ⟨(aR.add (i * 2)).block, (aR.add (i * 2)).off + 1, none⟩ = some (.slice Ar mr cr)) (by kernel_rfl) hS0 (fun hHeld => ?_)
                                      clear hS0
                                      refine wpAnyH_take (i := 0) (oi := ⟨some 118, _, _, _, _, _⟩) (v := .bool false) rfl (by kernel_rfl) (by kernel_rfl) (by kernel_rfl) (fun _ _ _ h => h) (Or.inl ⟨by rfl, ?_⟩) (by assumption) ?_
                                      · intro w hSw; (try dsimp only at hSw); go_simp
                                      simp only [Act.put, List.setIfInBounds_toArray, List.set_cons_zero, List.set_cons_succ]
                                      refine wpAnyH_take (i := 1) (oi := ⟨some 119, _, _, _, _, _⟩) (v := .bool false) rfl (by kernel_rfl) (by kernel_rfl) (by kernel_rfl) (fun _ _ _ h => h) (Or.inl ⟨by rfl, ?_⟩) (by assumption) ?_
                                      · intro w hSw; (try dsimp only at hSw); go_simp
                                      simp only [Act.put, List.setIfInBounds_toArray, List.set_cons_zero, List.set_cons_succ]
                                      refine wpAnyH_take (i := 2) (oi := ⟨some 120, _, _, _, _, _⟩) (v := .pointer (some ⟨x1.heap.size, 3, none⟩)) rfl (by kernel_rfl) (by kernel_rfl) (by kernel_rfl) (fun _ _ _ h => h) (Or.inl ⟨by rfl, ?_⟩) (by assumption) ?_
                                      · intro w hSw; (try dsimp only at hSw); go_simp
                                      simp only [Act.put, List.setIfInBounds_toArray, List.set_cons_zero, List.set_cons_succ]
                                      refine wpAnyH_take (i := 3) (oi := ⟨some 121, _, _, _, _, _⟩) (v := .slice (some aQ) p f1) rfl (by kernel_rfl) (by kernel_rfl) (by kernel_rfl) (fun _ _ _ h => h) (Or.inl ⟨by rfl, ?_⟩) (by assumption) ?_
                                      · intro w hSw; (try dsimp only at hSw); go_simp
                                      simp only [Act.put, List.setIfInBounds_toArray, List.set_cons_zero, List.set_cons_succ]
                                      refine wpAnyH_take (i := 4) (oi := ⟨some 122, _, _, _, _, _⟩) (v := .int .i64 (t : Int)) rfl (by kernel_rfl) (by kernel_rfl) (by kernel_rfl) (fun _ _ _ h => h) (Or.inl ⟨by rfl, ?_⟩) (by assumption) ?_
                                      · intro w hSw; (try dsimp only at hSw); go_simp
                                      simp only [Act.put, List.setIfInBounds_toArray, List.set_cons_zero, List.set_cons_succ]
                                      refine wpAnyH_take (i := 5) (oi := ⟨some 123, _, _, _, _, _⟩) (v := .pointer (some (aQ.add (t * 2)))) rfl (by kernel_rfl) (by kernel_rfl) (by kernel_rfl) (fun _ _ _ h => h) (Or.inl ⟨by rfl, ?_⟩) (by assumption) ?_
                                      · intro w hSw; (try dsimp only at hSw); go_simp
                                      simp only [Act.put, List.setIfInBounds_toArray, List.set_cons_zero, List.set_cons_succ]
                                      refine wpAnyH_take (i := 6) (oi := ⟨some 124, _, _, _, _, _⟩) (v := .pointer (some (aQ.add (t * 2)))) rfl (by kernel_rfl) (by kernel_rfl) (by kernel_rfl) (fun _ _ _ h => h) (Or.inl ⟨by rfl, ?_⟩) (by assumption) ?_
                                      · intro w hSw; (try dsimp only at hSw); go_simp
                                      simp only [Act.put, List.setIfInBounds_toArray, List.set_cons_zero, List.set_cons_succ]
                                      refine wpAnyH_take (i := 7) (oi := ⟨some 125, _, _, _, _, _⟩) (v := .string sQ) rfl (by kernel_rfl) (by kernel_rfl) (by kernel_rfl) (fun _ _ _ h => h) (Or.inl ⟨by rfl, ?_⟩) (by assumption) ?_
                                      · intro w hSw; (try dsimp only at hSw); go_simp
                                      simp only [Act.put, List.setIfInBounds_toArray, List.set_cons_zero, List.set_cons_succ]
                                      refine wpAnyH_take (i := 8) (oi := ⟨some 126, _, _, _, _, _⟩) (v := .slice (some aR) m cR) rfl (by kernel_rfl) (by kernel_rfl) (by kernel_rfl) (fun _ _ _ h => h) (Or.inl ⟨by rfl, ?_⟩) (by assumption) ?_
                                      · intro w hSw; (try dsimp only at hSw); go_simp
                                      simp only [Act.put, List.setIfInBounds_toArray, List.set_cons_zero, List.set_cons_succ]
                                      refine wpAnyH_take (i := 9) (oi := ⟨some 127, _, _, _, _, _⟩) (v := .int .i64 (i : Int)) rfl (by kernel_rfl) (by kernel_rfl) (by kernel_rfl) (fun _ _ _ h => h) (Or.inl ⟨by rfl, ?_⟩) (by assumption) ?_
                                      · intro w hSw; (try dsimp only at hSw); go_simp
                                      simp only [Act.put, List.setIfInBounds_toArray, List.set_cons_zero, List.set_cons_succ]
                                      refine wpAnyH_take (i := 10) (oi := ⟨some 128, _, _, _, _, _⟩) (v := .pointer (some (aR.add (i * 2)))) rfl (by kernel_rfl) (by kernel_rfl) (by kernel_rfl) (fun _ _ _ h => h) (Or.inl ⟨by rfl, ?_⟩) (by assumption) ?_
                                      · intro w hSw; (try dsimp only at hSw); go_simp
                                      simp only [Act.put, List.setIfInBounds_toArray, List.set_cons_zero, List.set_cons_succ]
                                      refine wpAnyH_take (i := 11) (oi := ⟨some 129, _, _, _, _, _⟩) (v := .pointer (some (aR.add (i * 2)))) rfl (by kernel_rfl) (by kernel_rfl) (by kernel_rfl) (fun _ _ _ h => h) (Or.inl ⟨by rfl, ?_⟩) (by assumption) ?_
                                      · intro w hSw; (try dsimp only at hSw); go_simp
                                      simp only [Act.put, List.setIfInBounds_toArray, List.set_cons_zero, List.set_cons_succ]
                                      refine wpAnyH_take (i := 12) (oi := ⟨some 130, _, _, _, _, _⟩) (v := .string s) rfl (by kernel_rfl) (by kernel_rfl) (by kernel_rfl) (fun _ _ _ h => h) (Or.inl ⟨by rfl, ?_⟩) (by assumption) ?_
                                      · intro w hSw; (try dsimp only at hSw); go_simp
                                      simp only [Act.put, List.setIfInBounds_toArray, List.set_cons_zero, List.set_cons_succ]
                                      refine wpAnyH_take (i := 13) (oi := ⟨some 131, _, _, _, _, _⟩) (v := .bool false) rfl (by kernel_rfl) (by kernel_rfl) (by kernel_rfl) (fun _ _ _ h => h) (Or.inl ⟨by rfl, ?_⟩) (by assumption) ?_
                                      · intro w hSw; (try dsimp only at hSw); go_simp
                                      simp only [Act.put, List.setIfInBounds_toArray, List.set_cons_zero, List.set_cons_succ]
                                      refine wpAnyH_take (i := 14) (oi := ⟨some 132, _, _, _, _, _⟩) (v := .bool false) rfl (by kernel_rfl) (by kernel_rfl) (by kernel_rfl) (fun _ _ _ h => h) (Or.inl ⟨by rfl, ?_⟩) (by assumption) ?_
                                      · intro w hSw; (try dsimp only at hSw); go_simp
                                      simp only [Act.put, List.setIfInBounds_toArray, List.set_cons_zero, List.set_cons_succ]
                                      refine wpAnyH_take (i := 15) (oi := ⟨some 133, _, _, _, _, _⟩) (v := undef) rfl (by kernel_rfl) (by kernel_rfl) (by kernel_rfl) (fun _ _ _ h => h) (Or.inr ⟨by rfl, rfl⟩) (by assumption) ?_
                                      simp only [Act.put, List.setIfInBounds_toArray, List.set_cons_zero, List.set_cons_succ]
                                      refine wpAnyH_take (i := 16) (oi := ⟨some 134, _, _, _, _, _⟩) (v := undef) rfl (by kernel_rfl) (by kernel_rfl) (by kernel_rfl) (fun _ _ _ h => h) (Or.inr ⟨by rfl, rfl⟩) (by assumption) ?_
                                      simp only [Act.put, List.setIfInBounds_toArray, List.set_cons_zero, List.set_cons_succ]
                                      refine wpAnyH_take (i := 17) (oi := ⟨some 135, _, _, _, _, _⟩) (v := undef) rfl (by kernel_rfl) (by kernel_rfl) (by kernel_rfl) (fun _ _ _ h => h) (Or.inr ⟨by rfl, rfl⟩) (by assumption) ?_
                                      simp only [Act.put, List.setIfInBounds_toArray, List.set_cons_zero, List.set_cons_succ]
                                      refine wpAnyH_take (i := 18) (oi := ⟨some 136, _, _, _, _, _⟩) (v := undef) rfl (by kernel_rfl) (by kernel_rfl) (by kernel_rfl) (fun _ _ _ h => h) (Or.inr ⟨by rfl, rfl⟩) (by assumption) ?_
                                      simp only [Act.put, List.setIfInBounds_toArray, List.set_cons_zero, List.set_cons_succ]
                                      refine wpAnyH_take (i := 19) (oi := ⟨some 137, _, _, _, _, _⟩) (v := undef) rfl (by kernel_rfl) (by kernel_rfl) (by kernel_rfl) (fun _ _ _ h => h) (Or.inr ⟨by rfl, rfl⟩) (by assumption) ?_
                                      simp only [Act.put, List.setIfInBounds_toArray, List.set_cons_zero, List.set_cons_succ]
                                      refine wpAnyH_take (i := 20) (oi := ⟨some 138, _, _, _, _, _⟩) (v := undef) rfl (by kernel_rfl) (by kernel_rfl) (by kernel_rfl) (fun _ _ _ h => h) (Or.inr ⟨by rfl, rfl⟩) (by assumption) ?_
                                      simp only [Act.put, List.setIfInBounds_toArray, List.set_cons_zero, List.set_cons_succ]
                                      refine wpAnyH_take (i := 21) (oi := ⟨some 139, _, _, _, _, _⟩) (v := undef) rfl (by kernel_rfl) (by kernel_rfl) (by kernel_rfl) (fun _ _ _ h => h) (Or.inr ⟨by rfl, rfl⟩) (by assumption) ?_
                                      simp only [Act.put, List.setIfInBounds_toArray, List.set_cons_zero, List.set_cons_succ]
                                      refine wpAnyH_take (i := 22) (oi := ⟨some 140, _, _, _, _, _⟩) (v := undef) rfl (by kernel_rfl) (by kernel_rfl) (by kernel_rfl) (fun _ _ _ h => h) (Or.inr ⟨by rfl, rfl⟩) (by assumption) ?_
                                      simp only [Act.put, List.setIfInBounds_toArray, List.set_cons_zero, List.set_cons_succ]
                                      refine wpAnyH_take (i := 23) (oi := ⟨some 141, _, _, _, _, _⟩) (v := undef) rfl (by kernel_rfl) (by kernel_rfl) (by kernel_rfl) (fun _ _ _ h => h) (Or.inr ⟨by rfl, rfl⟩) (by assumption) ?_
                                      simp only [Act.put, List.setIfInBounds_toArray, List.set_cons_zero, List.set_cons_succ]
                                      refine wpAnyH_take (i := 24) (oi := ⟨some 142, _, _, _, _, _⟩) (v := undef) rfl (by kernel_rfl) (by kernel_rfl) (by kernel_rfl) (fun _ _ _ h => h) (Or.inr ⟨by rfl, rfl⟩) (by assumption) ?_
                                      simp only [Act.put, List.setIfInBounds_toArray, List.set_cons_zero, List.set_cons_succ]
                                      refine wpAnyH_take (i := 25) (oi := ⟨some 143, _, _, _, _, _⟩) (v := undef) rfl (by kernel_rfl) (by kernel_rfl) (by kernel_rfl) (fun _ _ _ h => h) (Or.inr ⟨by rfl, rfl⟩) (by assumption) ?_
                                      simp only [Act.put, List.setIfInBounds_toArray, List.set_cons_zero, List.set_cons_succ]
                                      refine wpAnyH_take (i := 26) (oi := ⟨some 144, _, _, _, _, _⟩) (v := undef) rfl (by kernel_rfl) (by kernel_rfl) (by kernel_rfl) (fun _ _ _ h => h) (Or.inr ⟨by rfl, rfl⟩) (by assumption) ?_
                                      simp only [Act.put, List.setIfInBounds_toArray, List.set_cons_zero, List.set_cons_succ]
                                      refine wpAnyH_take (i := 27) (oi := ⟨some 145, _, _, _, _, _⟩) (v := .bool false) rfl (by kernel_rfl) (by kernel_rfl) (by kernel_rfl) (fun _ _ _ h => h) (Or.inl ⟨by rfl, ?_⟩) (by assumption) ?_
                                      · intro w hSw; (try dsimp only at hSw); go_simp
                                      simp only [Act.put, List.setIfInBounds_toArray, List.set_cons_zero, List.set_cons_succ]
                                      refine wpAnyH_take (i := 28) (oi := ⟨some 146, _, _, _, _, _⟩) (v := .bool false) rfl (by kernel_rfl) (by kernel_rfl) (by kernel_rfl) (fun _ _ _ h => h) (Or.inl ⟨by rfl, ?_⟩) (by assumption) ?_
                                      · intro w hSw; (try dsimp only at hSw); go_simp
                                      simp only [Act.put, List.setIfInBounds_toArray, List.set_cons_zero, List.set_cons_succ]
                                      refine wpAnyH_take (i := 29) (oi := ⟨some 19, _, _, _, _, _⟩) (v := .bool false) rfl (by kernel_rfl) (by kernel_rfl) (by kernel_rfl) (fun _ _ _ h => h) (Or.inl ⟨by rfl, ?_⟩) (by assumption) ?_
                                      · intro w hSw; (try dsimp only at hSw); go_simp
                                      simp only [Act.put, List.setIfInBounds_toArray, List.set_cons_zero, List.set_cons_succ]
                                      refine wpAnyH_done (by kernel_rfl) ?_ _
                                      go_wp2
                                      go_roundw
                                      case rel => exact ⟨t + 1, false, by omega, by go_num, rfl, Lib.hid (by rw [Hstep.out, ← Hfb.out, Bool.false_or]; exact (decide_eq_false (by rw [Prod.mk.injEq]; exact fun h => Hks.out h.1)).symm), Hb4.out.trans ((below_drew _).mono Hb4.out.size)⟩
                                      case measure => simp [intOf]; omega
                                · have hte : t = p := by omega
                                  subst hte
                                  have hft : fb = true := by
                                    rw [Hfb.out, List.take_of_length_le (by rw [Hp.out]; exact Nat.le_refl _), List.any_eq_true]
                                    refine ⟨(s.data.toList, r), Hperm.out.mem_iff.2 (List.mem_filter.2 ⟨List.mem_of_getElem? Hpi.out, HhitT.out⟩), by simp⟩
                                  subst hft
                                  clear hlt4
                                  have q3 := (Hbq.out.below Hb4.out Hbq.out.lt).cell 3
                                  go_wp2
                                  go_roundw
                                  case rel => exact ⟨b + 1, c' + 1, by omega, by go_num, by go_num, by omega, Lib.hid (by rw [Hfil.out, if_pos (by simp [HhitG.out]), Hc'.out]; omega), Hb4.out⟩
                                  case measure => simp [intOf]; omega
                          · have hnb : (num != id) = true := by simp [hni]
                            have Hni := Lib.hid hni
                            clear hni
                            go_wp2
                            go_roundw
                            case rel => exact ⟨b + 1, c', by omega, by go_num, by go_num, by omega, Lib.hid (by rw [Hfil.out, if_neg (by simp [Hni.out]), Hc'.out]; omega), HbS.out⟩
                            case measure => simp [intOf]; omega
                    · have hbe : b = z := by omega
                      subst hbe
                      have hcnt := idx_count Hgoods.out.2.2 Hfs.out (fun gs => hitB id gs low high r)
                      have Hcf : Hid (c' = cc + if hb then 1 else 0) := Lib.hid (by
                        rw [Hc'.out, List.take_of_length_le (by rw [← Hxi.out, List.length_map, Hz.out]; exact Nat.le_refl _), hcnt, Hhb.out])
                      clear hcnt hlb
                      go_wp2
                      go_roundw
                      case rel => exact ⟨i + 1, c', by omega, by go_num, rfl, by have := Hcf.out; cases hb <;> simp at this <;> omega, Lib.hid (by rw [Hnx.out, Hcf.out]), Hb3'.out⟩
                      case measure => simp [intOf]; omega
                · have hie : i = m := by omega
                  subst hie
                  have Hfin : Hid (cc = p) := Lib.hid (by
                    rw [Hcc.out, List.take_of_length_le (by rw [Hm.out]; exact Nat.le_refl _), ← Hp.out]
                    exact Hperm.out.length_eq.symm)
                  have q3 := (Hbq.out.below Hbl.out Hbq.out.lt).cell 3
                  have hcp : ((cc : Int) == (p : Int)) = true := by rw [Hfin.out]; simp
                  clear hlt
                  go_wp2
                  go_ret
                  exact ⟨rfl, Hbw.out.trans (Hbl.out.mono Hbw.out.size)⟩

namespace lawPlainQueries
open Go.ChangeShapes Go.WideShapes Go.ChangeAt

theorem own : ownKnob Tryz.prog.godebug = none := by kernel_rfl
theorem kids : Kids Tryz.prog (· < Tryz.prog.types.size) := kids_rows (by kernel_rfl) (by kernel_rfl)
theorem full : ∀ t e, t < Tryz.prog.types.size → Tryz.prog.underlying t = some (.slice e) → 0 < Tryz.prog.cellsOf e := slices_full_of Tryz.prog (by kernel_rfl)

set_option maxRecDepth 100000 in
theorem lifted (os : Os) (started : os.Started) (H : Type) (enc : TypeId × Value → H) :
    ReturnsInHanded {} Tryz.checked os 4 .any (Rows.plainQueriesSpec.pre6 enc Tryz.prog Tryz.f4 Rows.plainQueriesRow.domain false) (Rows.plainQueriesSpec.post enc Tryz.prog Tryz.f4 false true false false) := by
  refine returnsInHanded_of_change (C := Tryz.checked) own started (by kernel_rfl) Tryz.func4
    (ChangeSpec.witness6 (enc := enc) (C := Tryz.checked) false ⟨#[], #[.slice none 0 0, .int .i64 0, .slice none 0 0, .slice none 0 0], []⟩ 8 (by kernel_rfl) (by kernel_rfl) (by kernel_rfl) (by kernel_rfl)) ?_
  intro W base args ds gs before hval0 hW _ _
  have hval : ∀ (j : Nat) t v, Tryz.f4.params[j]? = some t → args[j]? = some v → Value.okWide Tryz.prog W .any base t v := hval0
  have hW' := hW
  obtain ⟨p, q, hA0, hV, rfl, _, _⟩ := hW
  obtain ⟨rfl, rfl⟩ := trodVars_none hV
  have hA : DataW.TrodAll enc Tryz.prog W 0 (fun _ => true) true Tryz.f4.params.toList args.toList ds p := hA0
  rw [Tryz.params4] at hA hval
  obtain ⟨v0, vs0, d0, ds0, p0, q0, hargs, rfl, rfl, h0, r0⟩ := trodAll_cons hA
  obtain ⟨v1, vs1, d1, ds1, p1, q1, rfl, rfl, rfl, h1, r1⟩ := trodAll_cons r0
  obtain ⟨v2, vs2, d2, ds2, p2, q2, rfl, rfl, rfl, h2, r2⟩ := trodAll_cons r1
  obtain ⟨v3, vs3, d3, ds3, p3, q3, rfl, rfl, rfl, h3, r3⟩ := trodAll_cons r2
  obtain ⟨rfl, rfl, rfl⟩ := trodAll_nil r3
  obtain rfl : args = #[v0, v1, v2, v3] := by cases args; simp_all
  have hlt := hW'.lt
  obtain ⟨L0, ho0, hsh0, hlen0⟩ := open_ops (hval 0 22 v0 rfl rfl) h0 (fun x hx => hlt x (by simp [hx]))
  obtain ⟨k1, rfl, _, _, _⟩ := open_int Tryz.underlying3 (hval 1 3 v1 rfl rfl) h1
  obtain ⟨A2, n2, c2, l2, rfl, hb2, hw2⟩ := open_isvals Tryz.underlying31 Tryz.underlying67 (by kernel_rfl) ⟨rfl, rfl, rfl⟩ ⟨by kernel_rfl, by kernel_rfl, by kernel_rfl⟩ ⟨by kernel_rfl, by kernel_rfl, by kernel_rfl⟩ (hval 2 31 v2 rfl rfl) h2 (fun x hx => hlt x (by simp [hx]))
  obtain ⟨A3, n3, c3, l3, rfl, hb3, hw3⟩ := open_isvals Tryz.underlying31 Tryz.underlying67 (by kernel_rfl) ⟨rfl, rfl, rfl⟩ ⟨by kernel_rfl, by kernel_rfl, by kernel_rfl⟩ ⟨by kernel_rfl, by kernel_rfl, by kernel_rfl⟩ (hval 3 31 v3 rfl rfl) h3 (fun x hx => hlt x (by simp [hx]))
  refine (plainQueries_walk v0 L0 k1 A2 A3 n2 c2 n3 c3 l2 l3 W ho0 hsh0 hb2 hb3 hw2 hw3).mono fun e W' ⟨he, hbel⟩ => ?_
  subst he
  exact ⟨_, rfl, law_post kids full (of_decide_eq_true (by kernel_rfl)) Tryz.underlying4 rfl rfl rfl hW' hbel⟩

theorem proved : Rows.PlainQueriesSaid :=
  OpenClaim.holds_of_wide 4 Tryz.f4 rfl rfl rfl rfl rfl rfl rfl ⟨rfl, rfl, rfl, rfl, rfl⟩ rfl rfl rfl rfl rfl (by kernel_rfl) Tryz.func4 (by kernel_rfl)
    (of_decide_eq_true (by kernel_rfl)) (by unfold Func.isWrapper; first | (rw [if_pos (by decide +kernel)]; kernel_rfl) | (rw [if_neg (by decide +kernel)]; exact ⟨rfl, rfl⟩))
    (fun os started H enc _ => lifted os started H enc)
end lawPlainQueries

end Go.Proofs.YtheojndkojagdaaGreat
