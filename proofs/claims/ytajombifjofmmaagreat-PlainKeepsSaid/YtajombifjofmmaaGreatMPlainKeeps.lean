/- The law PlainKeeps: for every input it returns true and leaves what it was given. No condition. -/
import Derived.Test.YtajombifjofmmaaGreatMPlnB
import Derived.Test.YtajombifjofmmaaGreatRow
namespace Go.Proofs.YtajombifjofmmaaGreat
open Go.RowKit
open Go.Lib (strCells compareBytes)

theorem lt_zero : ∀ (l k : List UInt8), ¬ (k < l ++ [0]) ↔ l < k
  | [], [] => by simp
  | [], x :: r => by
    simp [List.cons_lt_cons_iff]
  | a :: l, [] => by simp
  | a :: l, x :: r => by
    have ih := lt_zero l r
    simp only [List.cons_append, List.cons_lt_cons_iff]
    constructor
    · intro h
      rcases Nat.lt_trichotomy a.toNat x.toNat with h1 | h1 | h1
      · exact .inl h1
      · have e : a = x := UInt8.toNat_inj.1 h1
        refine .inr ⟨e, ih.1 fun h2 => h (.inr ⟨e.symm, h2⟩)⟩
      · exact absurd (.inl h1) h
    · rintro (h | ⟨rfl, h⟩) h2
      · rcases h2 with h2 | ⟨rfl, _⟩
        · exact absurd (UInt8.lt_trans h h2) (UInt8.lt_irrefl _)
        · exact UInt8.lt_irrefl _ h
      · rcases h2 with h2 | ⟨_, h2⟩
        · exact UInt8.lt_irrefl _ h2
        · exact ih.2 h h2
theorem drop_after {W : List (List UInt8)} (hW : W.Pairwise fun a b => a < b) {j : Nat} {x : List UInt8} (hx : W[j]? = some x) : W.filter (fun k => decide (x < k)) = W.drop (j + 1) := by
  obtain ⟨hj, rfl⟩ := List.getElem?_eq_some_iff.1 hx
  have e : W = W.take (j + 1) ++ W.drop (j + 1) := (List.take_append_drop _ _).symm
  have h1 : (W.take (j + 1)).filter (fun k => decide (W[j] < k)) = [] := by
    rw [List.filter_eq_nil_iff]
    intro k hk
    obtain ⟨i, hi, rfl⟩ := List.getElem_of_mem hk
    rw [List.length_take] at hi
    rw [List.getElem_take]
    have hij : i ≤ j := by omega
    rcases Nat.lt_or_ge i j with h | h
    · have := List.pairwise_iff_getElem.1 hW i j (by omega) hj h
      simp
      exact fun h2 => absurd (List.lt_trans this h2) (List.lt_irrefl _)
    · have : i = j := by omega
      subst this
      simp [List.lt_irrefl]
  have h2 : (W.drop (j + 1)).filter (fun k => decide (W[j] < k)) = W.drop (j + 1) := by
    rw [List.filter_eq_self]
    intro k hk
    obtain ⟨i, hi, rfl⟩ := List.getElem_of_mem hk
    rw [List.length_drop] at hi
    rw [List.getElem_drop]
    have := List.pairwise_iff_getElem.1 hW j (j + 1 + i) hj (by omega) (by omega)
    simpa using this
  generalize W[j] = y at h1 h2 ⊢
  conv => lhs; rw [e]
  rw [List.filter_append, h1, h2, List.nil_append]
/-- behind a key that lies in the scan: what is left of it -/
theorem inK_next {f t x k : List UInt8} (hx : inK f t x = true) : inK (x ++ [0]) t k = (inK f t k && decide (x < k)) := by
  have h1 : decide (k < x ++ [0]) = !decide (x < k) := by
    have := lt_zero x k
    by_cases h : x < k
    · simp [h, this.2 h]
    · have h2 : k < x ++ [0] := Classical.byContradiction fun h2 => h (this.1 h2)
      simp [h, h2]
  unfold inK outK at *
  rw [h1]
  by_cases h : x < k
  · have hf : ¬ k < f := fun h2 => by
      have h3 : ¬ x < f := by
        intro h3
        simp [h3] at hx
      exact h3 (List.lt_trans h h2)
    simp [h, hf]
  · simp [h]
theorem page_next {K : List (List UInt8)} (hK : K.Pairwise fun a b => a < b) {f t x : List UInt8} {j s : Nat} (hx : (K.filter (inK f t))[j + s]? = some x) :
    K.filter (inK (x ++ [0]) t) = (K.filter (inK f t)).drop (j + (s + 1)) := by
  have hm := List.mem_of_getElem? hx
  have hin : inK f t x = true := (List.mem_filter.1 hm).2
  have h1 : K.filter (inK (x ++ [0]) t) = (K.filter (inK f t)).filter (fun k => decide (x < k)) := by
    rw [List.filter_filter]
    congr 1
    funext k
    rw [inK_next hin, Bool.and_comm]
  rw [h1, drop_after (hK.filter _) hx, Nat.add_assoc]
theorem take_pages {α : Type} (W : List α) (a s : Nat) : W.take a ++ (W.drop a).take s = W.take (a + s) := by rw [List.take_add]

def scanOp (f t : ByteArray) (lim : Int) : TOp := ⟨5, f, t, [], [], 0, [], [], [], lim, 0, 0⟩
theorem check_scan (f t : ByteArray) (lim : Int) (hf : f.size ≤ 16) (ht : t.size ≤ 16) (h1 : 1 ≤ lim) (h2 : lim ≤ 64) : checkT (scanOp f t lim) = 0 := by
  have a1 : inE (f.size : Int) 0 16 = 0 := by unfold inE; rw [if_neg (by omega)]
  have a2 : inE (t.size : Int) 0 16 = 0 := by unfold inE; rw [if_neg (by omega)]
  have a3 : inE lim 1 64 = 0 := by unfold inE; rw [if_neg (by omega)]
  unfold checkT errsT scanOp
  simp [a1, a2, a3, firstN]
theorem do_scan (f t : ByteArray) (lim : Int) (S : PSt) (hf : f.size ≤ 16) (ht : t.size ≤ 16) (h1 : 1 ≤ lim) (h2 : lim ≤ 64) : doT (scanOp f t lim) S.1 S.2.1 S.2.2 = (scanA f.data.toList t.data.toList lim.toNat S.1, S) := by
  unfold doT
  rw [if_neg (by rw [check_scan f t lim hf ht h1 h2]; simp), if_neg (by simp [scanOp]), if_neg (by simp [scanOp]), if_neg (by simp [scanOp]), if_neg (by simp [scanOp]), if_pos (by simp [scanOp])]
  rfl
theorem step_scan (f t : ByteArray) (lim : Int) (S : PSt) (hf : f.size ≤ 16) (ht : t.size ≤ 16) (h1 : 1 ≤ lim) (h2 : lim ≤ 64) : stepT S (scanOp f t lim) = S := by
  unfold stepT
  rw [do_scan f t lim S hf ht h1 h2]
theorem Stands.rise {w : World} {B sb mb : Nat} {S : PSt} (h : Stands w B sb mb S) : (S.1.map (·.1)).Pairwise (· < ·) := by
  obtain ⟨ix, E, X, h1, h2, h3⟩ := h
  have := (rise_map (fun p : Value × List TVal => p.2)).2 h1.rise
  rw [h2] at this
  exact rise_keys this
theorem rowsT_len (M : Kv (List TVal)) (ks : List (List UInt8)) : (rowsT M ks).length = ks.length := by simp [rowsT]
theorem rowsT_app (M : Kv (List TVal)) (a b : List (List UInt8)) : rowsT M (a ++ b) = rowsT M a ++ rowsT M b := by simp [rowsT]
theorem field_rows (c : Int) (b : Bool) (A A' : Option Addr) (n m n' m' : Nat) (i : Int) (w : World) : (Instr.field 35 (.agg #[.int .i64 c, .bool b, .slice A n m, .slice A' n' m', .int .i64 i]) 3).run Tryz.prog w = .ok (.slice A' n' m') w := by kernel_rfl
section
variable {w w' : World} {B sb mb N m : Nat} {v : Value} {xs : List Value}
/-- the store stays where a row of rows grows -/
theorem Stands.grown {S : PSt} (h : Stands w B sb mb S) (ho : w.ownsRow N 57 2 v m xs) (hg : w.grownBy w' v.ownBlock) : Stands w' B sb mb S := by
  obtain ⟨ix, E, X, h1, h2, h3⟩ := h
  refine ⟨ix, E, X, h1.frame fun i o hi ho' _ => hg.block i (Array.getElem?_eq_some_iff.1 hi).1 fun e => ?_, h2, h3⟩
  obtain ⟨cur, hc⟩ := own_type ho e.symm
  rw [hc] at hi
  injection hi with hi
  subst hi
  rcases ho' with e | e | e | e <;> exact absurd e (by decide)
theorem vals_grown {b k : Nat} {u : Value} {l : List TVal} (h : w.ownsRow b 55 3 u k (valCells l)) (ho : w.ownsRow N 57 2 v m xs) (hg : w.grownBy w' v.ownBlock) : w'.ownsRow b 55 3 u k (valCells l) :=
  own_keep h fun g hgr => hg.block g (h.lt g hgr).2 fun e => by
    obtain ⟨cur, hc⟩ := own_type h hgr
    obtain ⟨cur', hc'⟩ := own_type ho e.symm
    rw [hc'] at hc
    injection hc with hc
    injection hc with _ hc _
    exact absurd hc (by decide)
/-- rows stay where another row of rows grows -/
theorem OwnRows.other {b : Nat} {u : Value} {rs : Kv (Value × List TVal)} (h : OwnRows w b u rs) (ho : w.ownsRow N 57 2 v m xs) (hg : w.grownBy w' v.ownBlock) (hne : ∀ g, u.ownBlock = some g → v.ownBlock ≠ some g) : OwnRows w' b u rs :=
  ⟨own_keep h.1 fun g hgr => hg.block g (h.1.lt g hgr).2 fun e => hne g hgr e.symm, fun r hr => vals_grown (h.2 r hr) ho hg⟩
theorem OwnRows.append {b : Nat} {u v' : Value} {rs rs2 : Kv (Value × List TVal)} (h : OwnRows w b v rs) (h2 : OwnRows w b u rs2) (hown : w'.ownsRow b 57 2 v' (rs.length + rs2.length) (rowCells rs ++ rowCells rs2)) (hg : w.grownBy w' v.ownBlock) : OwnRows w' b v' (rs ++ rs2) := by
  refine ⟨by rw [List.length_append, rowCells_app]; exact hown, fun r hr => ?_⟩
  rcases List.mem_append.1 hr with hr | hr
  · exact vals_grown (h.2 r hr) h.1 hg
  · exact vals_grown (h2.2 r hr) h.1 hg
theorem OwnRows.stays' {b : Nat} {u : Value} {rs : Kv (Value × List TVal)} (h : OwnRows w b u rs) (hs : Stays w w') : OwnRows w' b u rs := ⟨own_stays h.1 hs (by decide) (by decide), fun r hr => own_stays (h.2 r hr) hs (by decide) (by decide)⟩
theorem rowCells_one : ∀ (rs : Kv (Value × List TVal)), (∀ r ∈ rs, ∃ A n c, r.2.1 = .slice A n c) → ∀ u ∈ rowCells rs, u.oneCell' = true
  | [], _, u, hu => by simp [rowCells] at hu
  | r :: l, h, u, hu => by
    simp only [rowCells, List.mem_cons] at hu
    rcases hu with rfl | rfl | hu
    · rfl
    · obtain ⟨A, n, c, e⟩ := h r (by simp)
      rw [e]
      rfl
    · exact rowCells_one l (fun x hx => h x (by simp [hx])) u hu
theorem OwnRows.slices {b : Nat} {u : Value} {rs : Kv (Value × List TVal)} (h : OwnRows w b u rs) : ∀ r ∈ rs, ∃ A n c, r.2.1 = .slice A n c := fun r hr => by
  obtain ⟨A, c, e, _⟩ := own_sliceN (h.2 r hr)
  exact ⟨A, _, c, e⟩
theorem OwnRows.has {b n c : Nat} {A : Option Addr} {rs : Kv (Value × List TVal)} (h : OwnRows w b (.slice A n c) rs) : n = rs.length ∧ HasRows w w.heap.size A n rs := by
  obtain ⟨A', c', e, h3, h4, h5⟩ := own_sliceN h.1
  injection e with e1 e2 e3
  subst e1; subst e2; subst e3
  refine ⟨rfl, rfl, h5, fun r hr => ?_⟩
  obtain ⟨A', c', e, g1, g2, g3⟩ := own_sliceN (h.2 r hr)
  exact ⟨A', _, c', e, Nat.le_trans g1 g2, rfl, g3⟩
theorem rowsT_at {M : Kv (List TVal)} {P : List (List UInt8)} {rs : Kv (Value × List TVal)} (h : mapK (·.2) rs = rowsT M P) {i : Nat} {x : List UInt8 × Value × List TVal} (hx : rs[i]? = some x) : P[i]? = some x.1 := by
  have h1 := mapK_at (f := fun p : Value × List TVal => p.2) hx
  rw [h] at h1
  unfold rowsT at h1
  rw [List.getElem?_map] at h1
  cases hp : P[i]? with
  | none => rw [hp] at h1; simp at h1
  | some k =>
    rw [hp] at h1
    simp at h1
    rw [h1.1]
end
end Go.Proofs.YtajombifjofmmaaGreat

namespace Go.Proofs.YtajombifjofmmaaGreat
open Go.RowKit
open Go.Lib (strCells compareBytes)

theorem keysRec {E : Kv (Value × List TVal)} (h : Rise E) : (keysOf E).map (fun k => (k, recOf k E)) = mapK (·.2) E := by
  unfold keysOf mapK
  rw [List.map_map]
  refine List.map_congr_left fun p hp => ?_
  have h1 : getK p.1 E = some p.2 := getK_of_mem h (by simpa using hp)
  simp only [Function.comp, recOf, h1]
set_option maxRecDepth 100000 in
set_option maxHeartbeats 800000 in
theorem allRows_any {w : World} {B sb mb : Nat} {S : PSt} (h : Stands w B sb mb S) (hl : S.1.length ≤ 1000) :
    Calls Tryz.prog 16 #[.pointer (some ⟨sb, 0, none⟩)] w fun e w' => ∃ v, e = .returned v ∧ RowsIs w' w.heap.size v S.1 ∧ Below w.heap.size w w' := by
  obtain ⟨ix, E, X, h1, h2, h3⟩ := h
  have hE : E.length ≤ 1000 := by rw [← h2, mapK_len] at hl; exact hl
  have Hk := Lib.hid (keys_any h1 hE)
  have H1 := Lib.hid h1
  have H2 := Lib.hid h2
  have HE := Lib.hid hE
  clear h1 h2 hE hl
  go_enter Tryz.func16, Tryz.ntmps16
  go_wp2_with fail
  refine Hk.out.mono ?_
  rintro e w1 ⟨v, rfl, hown, hb1⟩
  obtain ⟨A, c, rfl, _, _, hh⟩ := own_slice hown
  have Hr := Lib.hid (rows_any (H1.out.below hb1) A E.length c w1.heap.size (keysOf E) hh (Nat.le_refl _) HE.out (fun k hk => by
    obtain ⟨p, hp, rfl⟩ := List.mem_map.1 hk
    have := (H1.out.good p hp).2
    unfold keyOk at this
    simp only [Bool.and_eq_true, decide_eq_true_eq] at this
    omega))
  have Hb1 := Lib.hid hb1
  clear hown hh hb1
  generalize E.length = z at *
  go_wp2_with fail
  refine Hr.out.mono ?_
  rintro e w2 ⟨v2, rfl, hR, hb2⟩
  go_wp2
  go_ret
  refine ⟨_, rfl, ?_, Hb1.out.trans (hb2.mono Hb1.out.size)⟩
  rw [keysRec H1.out.rise, H2.out] at hR
  exact hR.base Hb1.out.size
end Go.Proofs.YtajombifjofmmaaGreat

namespace Go.Proofs.YtajombifjofmmaaGreat
open Go.RowKit
open Go.Lib (strCells compareBytes)

/-- a row of indexes of the call's own, the fields too -/
def IdxIs (w : World) (base : Nat) (v : Value) (I : List (Int × List Int)) : Prop :=
  ∃ X : List Ix, w.ownsRow base 76 2 v X.length (ixCells X) ∧ (∀ x ∈ X, w.ownsRow base 3 1 x.v x.fs.length (intCells x.fs)) ∧ X.map xi = I
theorem ints_grown {w w' : World} {b N k m : Nat} {u v : Value} {zs : List Int} {xs : List Value} (h : w.ownsRow b 3 1 u k (intCells zs)) (ho : w.ownsRow N 76 2 v m xs) (hg : w.grownBy w' v.ownBlock) : w'.ownsRow b 3 1 u k (intCells zs) :=
  own_keep h fun g hgr => hg.block g (h.lt g hgr).2 fun e => by
    obtain ⟨cur, hc⟩ := own_type h hgr
    obtain ⟨cur', hc'⟩ := own_type ho e.symm
    rw [hc'] at hc
    injection hc with hc
    injection hc with _ hc _
    exact absurd hc (by decide)
theorem idx_some {fs : List Int} (h : idxErr 1 fs = 0) : 1 ≤ fs.length ∧ fs.length ≤ 1000 := by
  unfold idxErr at h
  by_cases h1 : isIdB 1 = false ∨ fs.length = 0
  · rw [if_pos h1] at h; cases h
  · rw [if_neg h1] at h
    by_cases h2 : 2 < fs.length
    · rw [if_pos h2] at h; cases h
    · have : fs.length ≠ 0 := fun e => h1 (.inr e)
      omega
set_option maxRecDepth 100000 in
set_option maxHeartbeats 3200000 in
theorem allIdx_any {w : World} {B sb mb : Nat} {S : PSt} (h : Stands w B sb mb S) :
    Calls Tryz.prog 18 #[.pointer (some ⟨sb, 0, none⟩)] w fun e w' => ∃ v, e = .returned v ∧ IdxIs w' w.heap.size v S.2.1 ∧ Below w.heap.size w w' := by
  obtain ⟨ix, E, X, h1, h2, h3⟩ := h
  have hfew := h1.few
  have H1 := Lib.hid h1
  have H3 := Lib.hid h3
  obtain ⟨Ai, ci, rfl, _, _, hhi⟩ := own_sliceN h1.irow
  have Hi := Lib.hid hhi
  obtain ⟨q0, q1, q2, -, -, -⟩ := h1.cells
  obtain ⟨n, hn⟩ : ∃ n, X.length = n := ⟨_, rfl⟩
  have HX := Lib.hid hn
  rw [hn] at q1 Hi hfew
  clear h1 h2 h3 hhi hn
  go_enter Tryz.func18, Tryz.ntmps18
  go_wp2
  clear q0 q1 q2
  go_loopw [3, 5, 11] (fun lv _ i wr => ∃ (k : Nat) (Y : List Ix), k ≤ n ∧ i = .int .i64 (k : Int) ∧ Y.length = k ∧ wr.ownsRow w.heap.size 76 2 lv k (ixCells Y) ∧ Hid (∀ x ∈ Y, wr.ownsRow w.heap.size 3 1 x.v x.fs.length (intCells x.fs)) ∧ Below w.heap.size w wr ∧ Hid (Y.map xi = (X.take k).map xi)) (fun _ _ i _ => n - (intOf i).toNat)
  case atStart => exact ⟨0, [], by omega, rfl, rfl, World.ownsRow_nil _ _ _ _, Lib.hid (by simp), Below.refl _ _, Lib.hid rfl⟩
  case round =>
    obtain ⟨k, Y, hk, rfl, hY, hown, Hf, hb, Hm⟩ := hrel
    have Hown := Lib.hid hown
    have Hb := Lib.hid hb
    have HY := Lib.hid hY
    have hsz := hb.size
    clear hown hb hY
    by_cases hlt : k < n
    · have hkl : k < X.length := by have := HX.out; omega
      obtain ⟨a, rfl, _, hall⟩ := (Hi.out.belowOf Hb.out (Nat.le_refl _)).all (by omega)
      obtain ⟨c0, c1⟩ := ixCells_at X k X[k] (List.getElem?_eq_getElem hkl)
      have d0 := hall _ _ c0
      have d1 := hall _ _ c1
      rw [addr_step a _ 1 (by omega)] at d1
      have hfl := (H1.out.below Hb.out).flds X[k] (List.getElem_mem hkl)
      have hnum := (H1.out.nums X[k] (List.getElem_mem hkl))
      have E1 : Hid (X.take (k + 1) = X.take k ++ [X[k]]) := Lib.hid (by rw [List.take_succ_eq_append_getElem hkl])
      generalize X[k] = x at d0 d1 hfl hnum E1
      obtain ⟨hs1, hs2⟩ := idx_some hnum.2.2.1
      obtain ⟨num, xv, fs⟩ := x
      dsimp only at d0 d1 hfl hs1 hs2
      obtain ⟨Af, cf, rfl, _, _, hhf⟩ := own_slice hfl
      obtain ⟨w0, hw0⟩ : ∃ w0, wr.alloc (.cells #[.int .i64 num, .slice Af fs.length cf] 76) = w0 := ⟨_, rfl⟩
      have hb0 : Below wr.heap.size wr w0 := hw0 ▸ below_alloc _ _
      have hbx : Box w0 wr.heap.size 76 #[.int .i64 num, .slice Af fs.length cf] := hw0 ▸ Box.made _ _ _
      have p0 := hbx.cell 0
      have p1 := hbx.cell 1
      have Hcl := Lib.hid (fun wx (hb : Below w0.heap.size w0 wx) => cloneInts_any Af fs.length cf wr.heap.size fs wx ⟨rfl, (hhf.belowOf hb0 (Nat.le_refl _)).belowOf hb hb0.size⟩ hs1 hs2 (Nat.le_trans hb0.size hb.size))
      have Hown0 := Lib.hid (own_belowN Hown.out hb0)
      have Hf0 := Lib.hid (fun y hy => own_below (Hf.out y hy) hb0)
      have Hb0 := Lib.hid (Hb.out.trans (hb0.mono hsz))
      have hz0 : wr.heap.size < w0.heap.size := hbx.lt
      have Hlb := Lib.hid (fun g hg => (Hown.out.lt g hg).2)
      have hk0 : (0 : Int) ≤ (k : Int) := by omega
      have hk1 : (k : Int) < (n : Int) := by omega
      clear hfl hnum hhf hkl c0 c1 hall hs1 hb0
      go_wp2
      go_region_held3 (fun wx => wx.cell? ⟨wr.heap.size, 0, none⟩ = some (.int .i64 num) ∧ wx.cell? ⟨wr.heap.size, 1, none⟩ = some (.slice Af fs.length cf))
        (first | assumption | exact ⟨p0, p1⟩ | exact ⟨keepcell (by assumption) p0, keepcell (by assumption) p1⟩ | exact ⟨keepcell (Below.then bD (below_alloc _ _)) p0, keepcell (Below.then bD (below_alloc _ _)) p1⟩ | exact ⟨keepA _ _ (keepcell (Below.then bD (below_alloc _ _)) p0), keepA _ _ (keepcell (Below.then bD (below_alloc _ _)) p1)⟩)
        (first
          | (refine step_append_hasN (by rfl) _ _ _ (by rfl) 76 idx_elem (by omega) Tryz.underlying49 (by rfl) (oD.alloc _) (by rfl) (Has.lit wR #[.int .i64 num, .slice Av fs.length cv] _) (by intro u hu; simp at hu; rcases hu with rfl | rfl <;> rfl) (by simp only [maxLen]; omega) (by omega) (by simp; have := bD.size; omega) ?_; intro lA wA oA gA zA; have keepA : ∀ (j : Nat) (u : Value), (wR.alloc (.cells #[.int .i64 num, .slice Av fs.length cv] 76)).cell? ⟨wr.heap.size, j, none⟩ = some u → wA.cell? ⟨wr.heap.size, j, none⟩ = some u := fun j u hu => World.grownBy.cell gA hu (fun e => by have h1 := Hlb.out wr.heap.size e.symm; omega))
          | (go_at_call 45; refine (Hcl.out _ (below_drew _)).mono ?_; rintro e wR ⟨vR, rfl, oR, bR⟩; obtain ⟨Av, cv, rfl, -⟩ := own_slice oR; have bD : Below w0.heap.size w0 wR := Below.then (below_drew _) bR; have oD := own_belowN Hown0.out bD))
      all_goals
        have hf' : ∀ y ∈ Y ++ [(⟨num, .slice Av fs.length cv, fs⟩ : Ix)], wA.ownsRow w.heap.size 3 1 y.v y.fs.length (intCells y.fs) := fun y hy => by
          rcases List.mem_append.1 hy with hy | hy
          · exact ints_grown ((own_below (Hf0.out y hy) bD).alloc _) (oD.alloc _) gA
          · simp only [List.mem_singleton] at hy
            subst hy
            exact ints_grown ((own_base oR Hb0.out.size).alloc _) (oD.alloc _) gA
        have Hf' := Lib.hid hf'
        have Hb' := Lib.hid (below_ownN ((Hb0.out.trans (bD.mono Hb0.out.size)).alloc (Nat.le_trans Hb0.out.size bD.size) (.cells #[.int .i64 num, .slice Av fs.length cv] 76)) (oD.alloc _) gA (by simp; have := bD.size; have := Hb0.out.size; omega))
        have HoA := Lib.hid oA
        clear hf' oD oR oA gA zA keepA bD bR
        go_wp2
        go_roundw
        case rel =>
          refine ⟨k + 1, Y ++ [⟨num, .slice Av fs.length cv, fs⟩], by omega, by go_num, by rw [List.length_append, HY.out]; rfl, ?_, Hf', Hb'.out, Lib.hid ?_⟩
          · rw [ixCells_app]
            exact HoA.out
          · rw [E1.out, List.map_append, List.map_append, Hm.out]
            rfl
        case measure => simp [intOf]; omega
    · have hkn : k = n := by omega
      have Hm' : Hid (Y.map xi = X.map xi) := Lib.hid (by rw [Hm.out, List.take_of_length_le (by have := HX.out; omega)])
      go_wp2
      go_ret
      exact ⟨_, rfl, ⟨Y, by rw [HY.out]; exact Hown.out, Hf.out, by rw [Hm'.out, H3.out]⟩, Hb.out⟩
end Go.Proofs.YtajombifjofmmaaGreat

namespace Go.Proofs.YtajombifjofmmaaGreat
open Go.RowKit
open Go.Lib (strCells compareBytes)

section
variable {α : Type}
theorem getK_put_ne {k k' : List UInt8} (a : α) (h : k' ≠ k) : ∀ (M : Kv α), getK k' (putK k a M) = getK k' M
  | [] => by simp [putK, getK, Ne.symm h]
  | y :: l => by
    unfold putK
    split
    · simp [getK, Ne.symm h]
    · split
      · rename_i e
        unfold getK
        rw [if_neg (Ne.symm h), if_neg (by rw [e]; exact Ne.symm h)]
      · unfold getK
        rw [getK_put_ne a h l]
theorem rise_ext : ∀ {M M' : Kv α}, Rise M → Rise M' → (∀ k, getK k M = getK k M') → M = M'
  | [], [], _, _, _ => rfl
  | [], q :: l', _, _, h => by
    have := h q.1
    simp [getK] at this
  | p :: l, [], _, _, h => by
    have := h p.1
    simp [getK] at this
  | p :: l, q :: l', hr, hr', h => by
    have h1 := List.pairwise_cons.1 hr
    have h2 := List.pairwise_cons.1 hr'
    have e1 : p.1 = q.1 := by
      rcases lt_tri p.1 q.1 with e | e | e
      · have := h p.1
        have hn : getK p.1 (q :: l') = none := getK_none.2 fun x hx => by
          rcases List.mem_cons.1 hx with rfl | hx
          · exact fun e' => lt_irr _ (e' ▸ e)
          · exact fun e' => lt_irr _ (e' ▸ List.lt_trans e (h2.1 x hx))
        rw [hn] at this
        simp [getK] at this
      · exact e
      · have := h q.1
        have hn : getK q.1 (p :: l) = none := getK_none.2 fun x hx => by
          rcases List.mem_cons.1 hx with rfl | hx
          · exact fun e' => lt_irr _ (e' ▸ e)
          · exact fun e' => lt_irr _ (e' ▸ List.lt_trans e (h1.1 x hx))
        rw [hn] at this
        simp [getK] at this
    have e2 : p = q := by
      have := h p.1
      unfold getK at this
      rw [if_pos rfl, if_pos e1.symm] at this
      injection this with this
      exact Prod.ext e1 this
    subst e2
    have e3 : l = l' := rise_ext h1.2 h2.2 fun k => by
      by_cases hk : p.1 = k
      · subst hk
        rw [getK_none.2 fun x hx e' => lt_irr _ (e' ▸ h1.1 x hx), getK_none.2 fun x hx e' => lt_irr _ (e' ▸ h2.1 x hx)]
      · have := h k
        unfold getK at this
        rwa [if_neg hk, if_neg hk] at this
    rw [e3]
end

/-- the store behind a put into its map -/
theorem store_put {B sb mb d : Nat} {ix v : Value} {E : Kv (Value × List TVal)} {X : List Ix} {w0 wM : World} {k : List UInt8} {l : List TVal} (hs : Store w0 B sb mb ix E X d) (hM : wM.ownsMap Tryz.prog 9 Rv mb (E.length + 1) ((dmap (·.1) E).put (.string k) (.held v))) (hp : Put0 w0 wM mb v l) (hl : GoodRec l) (hk : keyOk k = true) :
    Store wM B sb mb ix (putK k (v, l) E) X d ∧ w0.grownBy wM (some mb) := by
  obtain ⟨wb, hbb, hT, hown⟩ := hp
  have hgr := hT.grown
  have step : ∀ i, i < w0.heap.size → i ≠ mb → wM.heap[i]? = w0.heap[i]? := fun i hi hne => by
    rw [hgr.block i (Nat.lt_of_lt_of_le hi hbb.size) (fun e => by injection e with e; exact hne e), hbb.block i hi]
  have hrow : wM.ownsRow w0.heap.size 55 3 v l.length (valCells l) := turned_own hT hown
  have hap := hs.apart
  have e : (dmap (fun a : Value × List TVal => a.1) E).put (.string k) (.held v) = dmap (·.1) (putK k (v, l) E) := dmap_put (fun a : Value × List TVal => a.1) k (v, l) E hs.rise
  rw [e] at hM
  have hM4 := map_size hM
  rw [dmap_size] at hM4
  have hBw : B ≤ w0.heap.size := by have := hs.sB; have := hs.lt.1; omega
  refine ⟨{ hs with
      box := (step sb hs.lt.1 hap.1).trans hs.box
      own := hM4
      rise := hs.rise.put
      recs := fun p hp => ?_
      good := fun p hp => ?_
      irow := own_keep hs.irow fun i hi => step i (hs.irow.lt i hi).2 (hap.2 i hi).2
      flds := fun x hx => own_keep (hs.flds x hx) fun i hi => ?_ }, ⟨hgr.os.trans hbb.os, hgr.tape.trans hbb.tape, hgr.output.trans hbb.output, Nat.le_trans hbb.size hgr.size, fun i hi hne => step i hi fun e => hne (by rw [e])⟩⟩
  · rcases mem_putK hp with rfl | hp
    · exact own_baseN hrow hBw
    · refine own_keep (hs.recs p hp) fun i hi => step i ((hs.recs p hp).lt i hi).2 fun e => ?_
      obtain ⟨cur, hc⟩ := own_type (hs.recs p hp) hi
      obtain ⟨es, c, hm⟩ := map_block hs.own
      rw [e, hm] at hc
      cases hc
  · rcases mem_putK hp with rfl | hp
    · exact ⟨hl, hk⟩
    · exact hs.good p hp
  · refine step i ((hs.flds x hx).lt i hi).2 fun e => ?_
    obtain ⟨cur, hc⟩ := own_type (hs.flds x hx) hi
    obtain ⟨es, c, hm⟩ := map_block hs.own
    rw [e, hm] at hc
    cases hc
/-- a range over another map goes on -/
theorem Store.grownR {B sb mb r : Nat} {ix : Value} {E : Kv (Value × List TVal)} {X : List Ix} {d : Nat} {w w' : World} {b n cnt : Nat} {D : DataW Value} {left : Lit → Bool} (h : Store w B sb mb ix E X d) (hr : w.ranges Tryz.prog 9 Rv b r n D left cnt) (hg : w.grownBy w' (some r)) : Store w' B sb mb ix E X d :=
  h.frame fun i o hi ho _ => by
    obtain ⟨es, clock, since, seen, c0, hb, F, hs, hD, hrr, rest⟩ := hr
    refine hg.block i (Array.getElem?_eq_some_iff.1 hi).1 fun e => ?_
    injection e with e
    subst e
    rw [hrr] at hi
    injection hi with hi
    subst hi
    exact ho
theorem keys_nodup {E : Kv (Value × List TVal)} {ss : List (List UInt8)} (hp : ss.Perm (E.map (·.1))) (k : List UInt8) : (if k ∈ ss then getK k (mapK (·.2) E) else none) = getK k (mapK (·.2) E) := by
  by_cases hk : k ∈ ss
  · rw [if_pos hk]
  · rw [if_neg hk]
    symm
    refine getK_none.2 fun p hp' e => hk ?_
    obtain ⟨q, hq, rfl⟩ := List.mem_map.1 hp'
    exact hp.mem_iff.2 (List.mem_map.2 ⟨q, hq, e⟩)

/-- what Copy leaves -/
theorem copy_end {w0 w3 w4 W : World} {B cb cmb d : Nat} {v : Value} {E' : Kv (Value × List TVal)} {I : List (Int × List Int)} (h : Store w3 B cb cmb (.slice none 0 0) E' [] 0) (hb : Below w3.heap.size w3 w4) (hi : IdxIs w4 w3.heap.size v I) (hI : ∃ X : List Ix, X.map xi = I ∧ (X.Pairwise fun x y => x.num < y.num) ∧ (∀ x ∈ X, 1 ≤ x.num ∧ x.num ≤ d ∧ idxErr 1 x.fs = 0 ∧ ∀ n ∈ x.fs, InI64 n) ∧ d ≤ 6)
    (hB : Below w0.heap.size w0 w3) (hB0 : w0.heap.size ≤ B) (hW : (w4.setCell ⟨cb, 1, none⟩ v).setCell ⟨cb, 2, none⟩ (.int .i64 d) = W) : Stands W B cb cmb (mapK (·.2) E', I, d) ∧ Below w0.heap.size w0 W := by
  obtain ⟨X', g1, g2, g3⟩ := hi
  obtain ⟨X, e, p1, p2, p3⟩ := hI
  have h4 := h.below hb
  have hk : ∀ i, i ≠ cb → W.heap[i]? = w4.heap[i]? := fun i hi => by
    have h1 : ∀ j, i ≠ (⟨cb, j, none⟩ : Addr).block := fun _ => hi
    rw [← hW, Below.heap_setCell _ _ _ _ (h1 2), Below.heap_setCell _ _ _ _ (h1 1)]
  have hbox : Box W cb 61 #[.map (some cmb), v, .int .i64 d] := hW ▸ (h4.box.set_ 1 v).set_ 2 (.int .i64 d)
  have hcb : cb < w3.heap.size := h.lt.1
  have hBs : B ≤ w3.heap.size := by have := h.sB; omega
  have hxx : X'.map xi = X.map xi := by rw [g3, e]
  have hget : ∀ x ∈ X', ∃ y ∈ X, xi x = xi y := fun x hx => by
    have : xi x ∈ X.map xi := hxx ▸ List.mem_map.2 ⟨x, hx, rfl⟩
    obtain ⟨y, hy, e⟩ := List.mem_map.1 this
    exact ⟨y, hy, e.symm⟩
  refine ⟨⟨v, E', X', h4.newIx hbox (fun i _ hi _ => hk i hi) (own_baseN (own_keep g1 fun i hi => hk i fun e => by have := (g1.lt i hi).1; omega) hBs) (fun x hx => own_base (own_keep (g2 x hx) fun i hi => hk i fun e => by have := ((g2 x hx).lt i hi).1; omega) hBs) ?_ (fun x hx => ?_) p3, rfl, g3⟩, ?_⟩
  · have h1 : (X.map xi).Pairwise fun a b => a.1 < b.1 := List.pairwise_map.2 p1
    rw [← hxx] at h1
    exact (List.pairwise_map (f := xi) (R := fun a b : Int × List Int => a.1 < b.1)).1 h1
  · obtain ⟨y, hy, e⟩ := hget x hx
    have h1 := p2 y hy
    obtain ⟨n1, v1, f1⟩ := x
    obtain ⟨n2, v2, f2⟩ := y
    simp only [xi, Prod.mk.injEq] at e
    obtain ⟨rfl, rfl⟩ := e
    exact h1
  · rw [← hW]
    exact ((hB.trans (hb.mono hB.size)).setCell (by show w0.heap.size ≤ cb; have := h.sB; omega) _).setCell (by show w0.heap.size ≤ cb; have := h.sB; omega) _

set_option maxRecDepth 100000 in
set_option maxHeartbeats 3200000 in
theorem copy_any {w : World} {B sb mb : Nat} {S : PSt} (h : Stands w B sb mb S) (hl : S.1.length ≤ 1000) :
    Calls Tryz.prog 22 #[.pointer (some ⟨sb, 0, none⟩)] w fun e w' => ∃ cb cmb, e = .returned (.pointer (some ⟨cb, 0, none⟩)) ∧ Stands w' w.heap.size cb cmb S ∧ Below w.heap.size w w' := by
  have HS := Lib.hid h
  obtain ⟨ix, E, X, h1, h2, h3⟩ := h
  have hE : E.length ≤ 1000 := by rw [← h2, mapK_len] at hl; exact hl
  have H := Lib.hid h1
  have H2 := Lib.hid h2
  have H3 := Lib.hid h3
  have HE := Lib.hid hE
  have hss : Hid (∀ q ∈ E, ∃ A n c, q.2.1 = .slice A n c) := Lib.hid (fun q hq => by obtain ⟨A, c, e, _⟩ := own_sliceN (h1.recs q hq); exact ⟨A, _, c, e⟩)
  clear h1 h2 h3 hE hl
  go_enter Tryz.func22, Tryz.ntmps22
  go_wp2_with fail
  refine (new_any w w.heap.size (Nat.le_refl _)).mono ?_
  rintro e w1 ⟨rfl, hc1, hb1⟩
  have H1 := Lib.hid (H.out.below hb1)
  obtain ⟨q0, -, -, -, -, -⟩ := H1.out.cells
  obtain ⟨w2, hrun, hrg, hb2⟩ := H1.out.range
  have Hc2 := Lib.hid (hc1.below hb2)
  have Hb2 := Lib.hid (Below.then hb1 hb2)
  have hsz1 := hb1.size
  have hcsz := hc1.lt.1
  have hrg0 := Lib.hid hrg
  clear hrg hc1 hb1 hb2
  go_wp2
  go_loopw [4] (fun _ wr => ∃ (left : Lit → Bool) (cnt : Nat) (ss : List (List UInt8)) (E' : Kv (Value × List TVal)), wr.ranges Tryz.prog 9 Rv mb w1.heap.size E.length (dmap (·.1) E) left cnt ∧ Hid (Collected (dmap (fun a : Value × List TVal => a.1) E) left ss) ∧ Hid (ss.length + cnt ≤ E.length) ∧ Hid (Store wr w.heap.size (w.heap.size + 1) w.heap.size (.slice none 0 0) E' [] 0) ∧ Hid (∀ k, getK k (mapK (·.2) E') = if k ∈ ss then getK k (mapK (·.2) E) else none) ∧ Hid (E'.length ≤ ss.length) ∧ Hid (Below w.heap.size w wr) ∧ Hid (w1.heap.size + 1 ≤ wr.heap.size)) (fun _ wr => wr.rangeLeft mb w1.heap.size)
  case atStart => exact ⟨_, _, [], [], hrg0.out, Lib.hid (Collected.start _), Lib.hid (by rw [dmap_size]; simp), Hc2, Lib.hid (by simp [mapK, getK]), Lib.hid (by simp), Hb2, Lib.hid hrg0.out.lt⟩
  case round =>
    obtain ⟨left, cnt, ss, E', hrg, HC, Hcnt, Hst, Hget, Hlen, Hb, Hsz⟩ := hrel
    go_wp2_with (first
      | (at_next; refine wpList_next_store _ rfl _ rfl rfl hrg hss.out ?_ ?_)
      | go_in)
    · intro hc0 hl0
      have hperm := HC.out.perm hrg.owns strKeyed Tryz.underlying9 hl0
      rw [dmap_keys] at hperm
      have hEq : mapK (·.2) E' = S.1 := by
        rw [← H2.out]
        exact rise_ext ((rise_map _).2 Hst.out.rise) ((rise_map _).2 H.out.rise) fun k => by rw [Hget.out, keys_nodup hperm]
      have HEq := Lib.hid hEq
      have Hidx := Lib.hid (allIdx_any (HS.out.below Hb.out))
      obtain ⟨-, -, q2', -, -, -⟩ := (H.out.below Hb.out).cells
      clear hperm hEq hc0 hl0 HC hrg
      go_wp2_with fail
      refine Hidx.out.mono ?_
      rintro e w4 ⟨v, rfl, hi, hb4⟩
      have hd4 := Hst.out.below hb4
      obtain ⟨-, c1, c2, -, g1, g2⟩ := hd4.cells
      obtain ⟨-, -, p2, -, -, -⟩ := ((H.out.below Hb.out).below hb4).cells
      have hne : (⟨sb, 2, none⟩ : Addr) ≠ ⟨w.heap.size + 1, 1, none⟩ := fun e => by injection e with _ e; omega
      obtain ⟨W, hW⟩ : ∃ W, (w4.setCell ⟨w.heap.size + 1, 1, none⟩ v).setCell ⟨w.heap.size + 1, 2, none⟩ (.int .i64 S.2.2) = W := ⟨_, rfl⟩
      have hend := copy_end (d := S.2.2) Hst.out hb4 hi ⟨X, H3.out, H.out.ids, H.out.nums, H.out.most⟩ Hb.out (Nat.le_refl _) hW
      have Hend := Lib.hid hend
      have bx1 := hd4.box.set_ 1 v
      have p2' : (w4.setCell ⟨w.heap.size + 1, 1, none⟩ v).cell? ⟨sb, 2, none⟩ = some (.int .i64 S.2.2) := (World.cell?_setCell_other _ _ _ _ (by first | exact hne | exact fun e => hne e.symm)).trans p2
      have c2' := bx1.cell 2
      have g2' := bx1.frozen 2
      obtain ⟨X', g3, -⟩ := hi
      obtain ⟨Av, cv, rfl, -⟩ := own_sliceN g3
      clear hd4 bx1 hend g3 hb4
      go_wp2
      go_ret
      exact ⟨_, _, rfl, by have := Hend.out.1; rw [HEq.out] at this; exact this, Hend.out.2⟩
    · intro s A n c l w3 cnt3 hget hlk hrg3 hlt hg3 hs3 hen
      have Hmem := Lib.hid (getK_mem hget)
      have HC3 := Lib.hid (HC.out.step hlk (y := .held (.slice A n c)) (fun zd => by rw [dmap_at, hget]))
      have Hgm : Hid (getK s.data.toList (mapK (·.2) E) = some l) := Lib.hid (by rw [mapK_get, hget]; rfl)
      have Hb3 : Hid (Below w.heap.size w w3) := Lib.hid (Hb.out.grown hg3 Hb.out.size (fun k hk => by injection hk with hk; omega))
      have H3s := Lib.hid (H.out.below Hb3.out)
      have Hst3 := Lib.hid (Hst.out.grownR hrg hg3)
      have Hsz3 : Hid (w1.heap.size + 1 ≤ w3.heap.size) := Lib.hid (by rw [hs3]; exact Hsz.out)
      have Hrg3 := Lib.hid hrg3
      have Hlt : Hid (cnt3 < wr.rangeLeft mb w1.heap.size) := Lib.hid (by rw [hrg.left_eq]; exact hlt)
      have Hcnt3 : Hid ((ss ++ [s.data.toList]).length + cnt3 ≤ E.length) := Lib.hid (by have := Hcnt.out; rw [List.length_append]; simp; omega)
      have hgood := (H.out.good _ Hmem.out)
      obtain ⟨A', c', e', hn1, hn2, hvals⟩ := own_sliceN (H3s.out.recs _ Hmem.out)
      have e2' : (Value.slice A n c) = .slice A' l.length c' := e'
      injection e2' with e1 e2 e3
      subst e1
      subst e2
      subst e3
      have Hrec : Hid (∀ wx, Below w3.heap.size w3 wx → Calls Tryz.prog 46 #[.slice A l.length c] wx fun e w' => ∃ v, e = .returned v ∧ w'.ownsRow wx.heap.size 55 3 v l.length (valCells l) ∧ Below wx.heap.size wx w') := Lib.hid (fun wx hb =>
        recClone_any A l.length c w3.heap.size l wx ⟨rfl, hvals.belowOf hb (Nat.le_refl _)⟩ (by have h4 : l.length ≤ 4 := hgood.1.le; omega) hb.size (fun u hu => by have := hgood.1.size u hu; omega))
      have Hgood := Lib.hid hgood
      have hss16 : s.size ≤ 16 := by
        have hk := hgood.2
        unfold keyOk at hk
        simp only [Bool.and_eq_true, decide_eq_true_eq] at hk
        rw [Lib.size_eq]; exact hk.2
      have Hkey := Lib.hid (WideMaps.keyOf_string_mk Tryz.underlying9 (s := s) (by simp only [maxLen]; omega))
      obtain ⟨t0, -, -, -, -, -⟩ := Hst3.out.cells
      have HlE : Hid (E'.length ≤ 1000) := Lib.hid (by have := Hlen.out; have := Hcnt.out; have := HE.out; omega)
      clear e' hlk hrg hrg3 hlt hg3 hs3 hget hn1 hn2 hvals hgood HC Hcnt Hb Hst hss16
      go_wp2
      go_region_held3 (fun wx => wx.cell? ⟨w.heap.size + 1, 0, none⟩ = some (.map (some w.heap.size)))
        (first | assumption | exact t0 | exact keepcell (by assumption) (by assumption) | exact turned_cell (by assumption) (by assumption))
        (first
          | (go_at_call 46; refine (Hrec.out _ (below_drew _)).mono ?_; rintro e wR ⟨vR, rfl, oR, bR⟩; obtain ⟨Av, cv, rfl, -⟩ := own_sliceN oR; have cR : Below w3.heap.size w3 wR := Below.then (below_drew _) bR; have mR := map_keep Hst3.out.own (cR.block w.heap.size Hst3.out.lt.2); obtain ⟨wM, hrM, mM, tM⟩ := mR.store strKeyed Tryz.underlying59 (by have := HlE.out; simp only [maxLen]; omega) Hkey.out (R := Rv) (val := .slice Av l.length cv) (d := .held (.slice Av l.length cv)) (ps := []) rfl))
      all_goals
        have hp0 : Put0 w3 wM w.heap.size (.slice Av l.length cv) l := ⟨wR, cR, tM, own_baseN oR (by simp)⟩
        have hput := store_put Hst3.out mM hp0 Hgood.out.1 Hgood.out.2
        have HstM := Lib.hid hput.1
        have HgM := Lib.hid hput.2
        have HrgM := Lib.hid (Hrg3.out.kept hput.2 (by have := H.out.lt.2; intro e; injection e with e; omega) (by intro e; injection e with e; omega))
        have HbM : Hid (Below w.heap.size w wM) := Lib.hid (Hb3.out.grown hput.2 Hb3.out.size (fun k hk => by injection hk with hk; omega))
        have HszM : Hid (w1.heap.size + 1 ≤ wM.heap.size) := Lib.hid (Nat.le_trans Hsz3.out hput.2.size)
        clear hp0 hput mM tM mR cR oR bR
        go_wp2
        go_roundw
        case rel =>
          refine ⟨_, cnt3, ss ++ [s.data.toList], _, HrgM.out, HC3, Hcnt3, HstM, Lib.hid fun k => ?_, Lib.hid ?_, HbM, HszM⟩
          · rw [mapK_put]
            by_cases hk : k = s.data.toList
            · subst hk
              rw [getK_putK, if_pos (by simp), Hgm.out]
            · rw [getK_put_ne _ hk, Hget.out]
              simp only [List.mem_append, List.mem_singleton, hk, or_false]
          · have h1 := putK_len s.data.toList (Value.slice Av l.length cv, l) E'
            have := Hlen.out
            rw [List.length_append]
            simp
            omega
        case measure => rw [HrgM.out.left_eq]; exact Hlt.out
end Go.Proofs.YtajombifjofmmaaGreat

namespace Go.Proofs.YtajombifjofmmaaGreat
open Go.RowKit
open Go.Lib (strCells compareBytes)

/-- n indexes in memory -/
def HasIdx (w : World) (B : Nat) (A : Option Addr) (n : Nat) (X : List Ix) : Prop :=
  X.length = n ∧ Has w B A (n * 2) (ixCells X) ∧ ∀ x ∈ X, ∃ Af cf, x.v = .slice Af x.fs.length cf ∧ x.fs.length ≤ 1000 ∧ HasInts w B Af x.fs.length x.fs
theorem HasIdx.belowOf {w w' : World} {B C n : Nat} {A : Option Addr} {X : List Ix} (h : HasIdx w B A n X) (hb : Below C w w') (hC : B ≤ C) : HasIdx w' B A n X :=
  ⟨h.1, h.2.1.belowOf hb hC, fun x hx => by
    obtain ⟨Af, cf, e, h1, h2⟩ := h.2.2 x hx
    exact ⟨Af, cf, e, h1, h2.belowOf hb hC⟩⟩
theorem idxIs_has {w : World} {base : Nat} {v : Value} {I : List (Int × List Int)} (h : IdxIs w base v I) (hs : ∀ x ∈ I, x.2.length ≤ 1000) : ∃ A c X, v = .slice A I.length c ∧ HasIdx w w.heap.size A I.length X ∧ X.map xi = I := by
  obtain ⟨X, h1, h2, rfl⟩ := h
  obtain ⟨A, c, rfl, -, -, hh⟩ := own_sliceN h1
  refine ⟨A, c, X, by rw [List.length_map], ⟨by rw [List.length_map], by rw [List.length_map]; exact hh, fun x hx => ?_⟩, rfl⟩
  obtain ⟨Af, cf, e, -, -, hi⟩ := intcells_slice (h2 x hx)
  exact ⟨Af, cf, e, hs (xi x) (List.mem_map.2 ⟨x, hx, rfl⟩), hi⟩
set_option maxRecDepth 100000 in
set_option maxHeartbeats 1600000 in
theorem sameIdx_eq (A A' : Option Addr) (n c c' C C' : Nat) (X X' : List Ix) (w : World) (h : HasIdx w C A n X) (h' : HasIdx w C' A' n X') (e : X.map xi = X'.map xi) (hn : n ≤ 1000) :
    Calls Tryz.prog 17 #[.slice A n c, .slice A' n c'] w fun e w' => e = .returned (.bool true) ∧ ∃ m, w' = w.drewN m := by
  have H := Lib.hid h
  have H' := Lib.hid h'
  have He := Lib.hid e
  clear h h' e
  go_enter Tryz.func17, Tryz.ntmps17
  go_wp2
  go_loopw [5] (fun i wr => ∃ k : Nat, k ≤ n ∧ i = .int .i64 (k : Int) ∧ ∃ m, wr = w.drewN m) (fun i _ => n - (intOf i).toNat)
  case atStart => exact ⟨0, by omega, rfl, 0, rfl⟩
  case round =>
    obtain ⟨k, hk, rfl, md, hmd⟩ := hrel
    have Hb : Hid (Below w.heap.size w wr ∧ ∀ p, wr.cell? p = w.cell? p) := Lib.hid (by rw [hmd]; exact ⟨below_drews (Below.refl _ _) md, fun _ => rfl⟩)
    have Hd : Hid (∀ j, ∃ m, wr.drewN j = w.drewN m) := Lib.hid fun j => ⟨_, by rw [hmd]; exact World.drewN_drewN _ _ _⟩
    clear hmd
    by_cases hlt : k < n
    · obtain ⟨a, x, rfl, -, hx, c0, c1⟩ := ix_at H.out.2.1 H.out.1 hlt
      obtain ⟨b, y, rfl, -, hy, d0, d1⟩ := ix_at H'.out.2.1 H'.out.1 hlt
      obtain ⟨Af, cf, ex, hf1, hfx⟩ := H.out.2.2 x (List.mem_of_getElem? hx)
      obtain ⟨Ag, cg, ey, hg1, hgy⟩ := H'.out.2.2 y (List.mem_of_getElem? hy)
      have hxy : xi x = xi y := by
        have h1 : (X.map xi)[k]? = some (xi x) := by simp [hx]
        rw [He.out] at h1
        simp [hy] at h1
        exact h1.symm
      obtain ⟨nx, vx, fx⟩ := x
      obtain ⟨ny, vy, fy⟩ := y
      simp only [xi, Prod.mk.injEq] at hxy
      obtain ⟨rfl, rfl⟩ := hxy
      simp only at ex ey hf1 hfx hg1 hgy c0 c1 d0 d1
      subst ex
      subst ey
      obtain ⟨z, hz⟩ : ∃ z, fx.length = z := ⟨_, rfl⟩
      rw [hz] at hf1 hfx hgy c1 d1
      have p0 := (Hb.out.2 _).trans c0
      have p1 := (Hb.out.2 _).trans c1
      have r0 := (Hb.out.2 _).trans d0
      have r1 := (Hb.out.2 _).trans d1
      have Hfx := Lib.hid hfx
      have Hgy := Lib.hid hgy
      have P1 := Lib.hid c1
      have R1 := Lib.hid d1
      have k0 : (0 : Int) ≤ (k : Int) := by omega
      have k1 : (k : Int) < (n : Int) := by omega
      have n1 : (nx != nx) = false := by simp
      have n2 : ((z : Int) != (z : Int)) = false := by simp
      clear c0 c1 d0 d1 hfx hgy hx hy hg1 hz
      go_wp2
      go_quiet (fail)
      have q1 : (wr.drewN nq).cell? ⟨(a.add (k * 2)).block, (a.add (k * 2)).off + 1, none⟩ = some (.slice Af z cf) := p1
      have s1 : (wr.drewN nq).cell? ⟨(b.add (k * 2)).block, (b.add (k * 2)).off + 1, none⟩ = some (.slice Ag z cg) := r1
      have Hd2 : Hid (∀ j, ∃ m, ((wr.drewN nq).drewN j) = w.drewN m) := Lib.hid fun j => by
        obtain ⟨m, e⟩ := Hd.out (nq + j)
        exact ⟨m, by rw [← e]; exact World.drewN_drewN _ _ _⟩
      clear p0 p1 r0 r1 Hd Hb
      generalize wr.drewN nq = wd at *
      generalize wr = wa at *
      go_wp2
      go_loopw [6] (fun j wr => ∃ q : Nat, q ≤ z ∧ j = .int .i64 (q : Int) ∧ ∃ m, wr = w.drewN m) (fun j _ => z - (intOf j).toNat)
      case atStart => exact ⟨0, by omega, rfl, by obtain ⟨m, e⟩ := Hd2.out 0; exact ⟨m, e⟩⟩
      case round =>
        obtain ⟨q, hq, rfl, md, hmd⟩ := hrel
        have Hc : Hid (∀ p, wr.cell? p = w.cell? p) := Lib.hid (by rw [hmd]; exact fun _ => rfl)
        have Hdd : Hid (∀ j, ∃ m, wr.drewN j = w.drewN m) := Lib.hid fun j => ⟨_, by rw [hmd]; exact World.drewN_drewN _ _ _⟩
        clear hmd
        have u1 := (Hc.out _).trans P1.out
        have v1 := (Hc.out _).trans R1.out
        by_cases hqz : q < z
        · obtain ⟨af, x1, rfl, -, hx1, t1⟩ := Hfx.out.at_ hqz
          obtain ⟨ag, x2, rfl, -, hx2, t2⟩ := Hgy.out.at_ hqz
          rw [hx1] at hx2
          injection hx2 with hx2
          subst hx2
          have t1' := (Hc.out _).trans t1
          have t2' := (Hc.out _).trans t2
          have q0 : (0 : Int) ≤ (q : Int) := by omega
          have q1' : (q : Int) < (z : Int) := by omega
          have n3 : (x1 != x1) = false := by simp
          clear t1 t2 hx1
          go_wp2
          go_quiet (fail)
          go_wp2
          go_roundw
          case rel => exact ⟨q + 1, by omega, by go_num, Hdd.out _⟩
          case measure => simp [intOf]; omega
        · have q1' : (z : Int) ≤ (q : Int) := by omega
          go_wp2
          go_roundw
          case rel => exact ⟨k + 1, by omega, by go_num, Hdd.out 0⟩
          case measure => simp [intOf]; omega
    · have k1 : (n : Int) ≤ (k : Int) := by omega
      go_wp2
      go_ret
      exact ⟨rfl, Hd.out 0⟩
end Go.Proofs.YtajombifjofmmaaGreat

namespace Go.Proofs.YtajombifjofmmaaGreat
open Go.RowKit
open Go.Lib (strCells compareBytes)

/-- element k of a row of the call's own: its cells, and the row and the rest of the world when it is stored to -/
theorem own_put {w : World} {B n c k : Nat} {e : TypeId} {A : Option Addr} {ys : List Value} (h : w.ownsRow B e 3 (.slice A n c) n ys) (hk : k < n) (x y z : Value) : ∃ (g : Nat) (u0 u1 u2 : Value), A = some ⟨g, 0, none⟩ ∧ B ≤ g ∧
    w.cell? ⟨g, k * 3, none⟩ = some u0 ∧ w.cell? ⟨g, k * 3 + 1, none⟩ = some u1 ∧ w.cell? ⟨g, k * 3 + 2, none⟩ = some u2 ∧
    w.frozen? ⟨g, k * 3, none⟩ = false ∧ w.frozen? ⟨g, k * 3 + 1, none⟩ = false ∧ w.frozen? ⟨g, k * 3 + 2, none⟩ = false ∧
    (∃ ys', (((w.setCell ⟨g, k * 3, none⟩ x).setCell ⟨g, k * 3 + 1, none⟩ y).setCell ⟨g, k * 3 + 2, none⟩ z).ownsRow B e 3 (.slice A n c) n ys') ∧
    w.grownBy (((w.setCell ⟨g, k * 3, none⟩ x).setCell ⟨g, k * 3 + 1, none⟩ y).setCell ⟨g, k * 3 + 2, none⟩ z) (some g) := by
  obtain ⟨g, rfl, hB⟩ := own_head h (by omega)
  have hy := h.1
  have s1 := h.stored (k * 3) x
  have s2 := s1.1.stored (k * 3 + 1) y
  have s3 := s2.1.stored (k * 3 + 2) z
  refine ⟨g, ys[k * 3]'(by omega), ys[k * 3 + 1]'(by omega), ys[k * 3 + 2]'(by omega), rfl, hB, ?_, ?_, ?_, h.frozenAt _, h.frozenAt _, h.frozenAt _, ⟨_, s3.1⟩, (s1.2.trans s2.2).trans s3.2⟩
  · rw [h.cellAt _ (by omega)]
    exact List.getElem?_eq_getElem (by omega)
  · rw [h.cellAt _ (by omega)]
    exact List.getElem?_eq_getElem (by omega)
  · rw [h.cellAt _ (by omega)]
    exact List.getElem?_eq_getElem (by omega)

/-- a row of the call's own stays one, whatever cell is written -/
theorem owned_set {w : World} {B n size : Nat} {e : TypeId} {v : Value} (h : ∃ xs, w.ownsRow B e size v n xs) (g i : Nat) (u : Value) : ∃ xs, (w.setCell ⟨g, i, none⟩ u).ownsRow B e size v n xs := by
  obtain ⟨xs, hl, h⟩ := h
  rcases h with ⟨rfl, rfl⟩ | ⟨g', cap, cur, rfl, hB, hg, h1, h2, h3, h4⟩
  · exact ⟨xs, hl, .inl ⟨rfl, rfl⟩⟩
  · by_cases hgg : g' = g
    · subst hgg
      have hb : Box w g' e cur := hg
      have hb' := hb.set_ i u
      exact ⟨((cur.setIfInBounds i u).toList.take (n * size)), by rw [List.length_take]; have h5 := Nat.mul_le_mul_right size h1; simp only [Array.length_toList, Array.size_setIfInBounds, h3]; exact Nat.min_eq_left h5, .inr ⟨g', cap, _, rfl, hB, hb', h1, h2, by simpa using h3, rfl⟩⟩
    · exact ⟨xs, hl, .inr ⟨g', cap, cur, rfl, hB, (Below.heap_setCell _ _ _ _ (fun e => hgg e)).trans hg, h1, h2, h3, h4⟩⟩
theorem owned_set3 {w : World} {B n size : Nat} {e : TypeId} {v : Value} (h : ∃ xs, w.ownsRow B e size v n xs) (g i j k : Nat) (x y z : Value) : ∃ xs, (((w.setCell ⟨g, i, none⟩ x).setCell ⟨g, j, none⟩ y).setCell ⟨g, k, none⟩ z).ownsRow B e size v n xs := owned_set (owned_set (owned_set h g i x) g j y) g k z

/-- the store stands as the state says, none of its records in a block from lo to hi -/
def StandsA (w : World) (B sb mb : Nat) (S : PSt) (lo hi : Nat) : Prop := ∃ ix E X, Store w B sb mb ix E X S.2.2 ∧ mapK (·.2) E = S.1 ∧ X.map xi = S.2.1 ∧ ∀ p ∈ E, ∀ g, p.2.1.ownBlock = some g → g < lo ∨ hi ≤ g
theorem StandsA.stands {w : World} {B sb mb lo hi : Nat} {S : PSt} (h : StandsA w B sb mb S lo hi) : Stands w B sb mb S := by
  obtain ⟨ix, E, X, h1, h2, h3, _⟩ := h
  exact ⟨ix, E, X, h1, h2, h3⟩
theorem StandsA.below {w w' : World} {B sb mb lo hi : Nat} {S : PSt} (h : StandsA w B sb mb S lo hi) (hb : Below w.heap.size w w') : StandsA w' B sb mb S lo hi := by
  obtain ⟨ix, E, X, h1, h2, h3, h4⟩ := h
  exact ⟨ix, E, X, h1.below hb, h2, h3, h4⟩
/-- a row of values of such a block may turn -/
theorem StandsA.grown {w w' : World} {B sb mb lo hi n Bo : Nat} {S : PSt} {v : Value} {xs : List Value} (h : StandsA w B sb mb S lo hi) (ho : w.ownsRow Bo 55 3 v n xs) (hv : ∀ g, v.ownBlock = some g → lo ≤ g ∧ g < hi) (hg : w.grownBy w' v.ownBlock) : Stands w' B sb mb S := by
  obtain ⟨ix, E, X, h1, h2, h3, h4⟩ := h
  have hty : ∀ g, v.ownBlock = some g → ∃ cur, w.heap[g]? = some (.cells cur 55 (0, 0)) := fun g e => own_type ho e
  have hmb := map_block h1.own
  refine ⟨ix, E, X, { h1 with
      box := (hg.block sb h1.lt.1 fun e => ?_).trans h1.box
      own := map_keep h1.own (hg.block mb h1.lt.2 fun e => ?_)
      recs := fun p hp => own_keep (h1.recs p hp) fun i hi => hg.block i ((h1.recs p hp).lt i hi).2 fun e => ?_
      irow := own_keep h1.irow fun i hi => hg.block i (h1.irow.lt i hi).2 fun e => ?_
      flds := fun x hx => own_keep (h1.flds x hx) fun i hi => hg.block i ((h1.flds x hx).lt i hi).2 fun e => ?_ }, h2, h3⟩
  · obtain ⟨cur, hc⟩ := hty sb e.symm
    have hb := h1.box
    unfold Box at hb
    rw [hb] at hc
    injection hc with hc; injection hc with _ hc; exact absurd hc (by decide)
  · obtain ⟨cur, hc⟩ := hty mb e.symm
    obtain ⟨es, c, hm⟩ := hmb
    rw [hm] at hc
    cases hc
  · have a1 := hv i e.symm
    have a2 := h4 p hp i hi
    omega
  · obtain ⟨cur, hc⟩ := hty i e.symm
    obtain ⟨cur', hc'⟩ := own_type h1.irow hi
    rw [hc'] at hc
    injection hc with hc; injection hc with _ hc; exact absurd hc (by decide)
  · obtain ⟨cur, hc⟩ := hty i e.symm
    obtain ⟨cur', hc'⟩ := own_type (h1.flds x hx) hi
    rw [hc'] at hc
    injection hc with hc; injection hc with _ hc; exact absurd hc (by decide)

def putOp (key : ByteArray) (rc : List TVal) : TOp := ⟨1, key, ⟨#[]⟩, rc, [], 0, [], [], [], 0, 0, 0⟩
theorem put_apart {x1 x2 : World} {B sb mb : Nat} {S : PSt} (h : Stands x1 B sb mb S) (hb : Below x1.heap.size x1 x2) (key : ByteArray) (A : Option Addr) (n c : Nat) (rc : List TVal) (hr : IsVals x2 x2.heap.size (.slice A n c) rc) (hl : S.1.length ≤ 1000) :
    Calls Tryz.prog 10 #[.pointer (some ⟨sb, 0, none⟩), .agg #[.int .i64 1, .string key, .string ⟨#[]⟩, .slice A n c, .slice none 0 0, .int .i64 0, .slice none 0 0, .slice none 0 0, .slice none 0 0, .int .i64 0, .int .i64 0, .int .i64 0]] x2
      fun e w' => ∃ u, e = .returned u ∧ StandsA w' B sb mb (stepT S (putOp key rc)) x1.heap.size x2.heap.size ∧ Below B x2 w' ∧ Stays x2 w' := by
  obtain ⟨ix, E, X, h1, h2, h3⟩ := h
  have hE : E.length ≤ 1000 := by rw [← h2, mapK_len] at hl; exact hl
  have g1 := h1.below hb
  have ho : OpIs x2 x2.heap.size (.agg #[.int .i64 1, .string key, .string ⟨#[]⟩, .slice A n c, .slice none 0 0, .int .i64 0, .slice none 0 0, .slice none 0 0, .slice none 0 0, .int .i64 0, .int .i64 0, .int .i64 0]) (putOp key rc) := ⟨_, _, _, _, _, rfl, hr, isVals_nil _ _, isInts_nil _ _, isVals_nil _ _, isVals_nil _ _⟩
  have hin : ∀ u ∈ rc, InI64 u.n := by
    obtain ⟨_, _, _, _, _, _, _, hh⟩ := hr
    exact hh
  have key_post : ∀ {M : Kv (List TVal)} {I : List (Int × List Int)} {nn : Nat} {a : Ans}, (M, I, nn) = stepT S (putOp key rc) → ∀ e w', DoPost B sb mb ix E M I nn a x2 e w' → ∃ u, e = .returned u ∧ StandsA w' B sb mb (stepT S (putOp key rc)) x1.heap.size x2.heap.size ∧ Below B x2 w' ∧ Stays x2 w' := by
    rintro M I nn a e1 e w' ⟨v, ix', E', X', rfl, _, hs, hM, hI, hk, _, hnew⟩
    refine ⟨v, rfl, ⟨ix', E', X', by rw [← e1]; exact hs, by rw [← e1]; exact hM, by rw [← e1]; exact hI, fun p hp g hg => ?_⟩, g1.kept hk (by have := g1.lt.1; have := g1.sB; omega), hk.stays g1⟩
    rcases hnew p hp with hp | hp
    · exact .inl ((h1.recs p hp).lt g hg).2
    · exact .inr (hp.lt g hg).1
  have hS : S = (mapK (·.2) E, X.map xi, S.2.2) := by rw [h2, h3]
  by_cases hz : checkT (putOp key rc) = 0
  · have hall := firstN_all hz
    unfold errsT at hall
    dsimp only [putOp] at hall
    have a0 := keyE_ok (hall (keyE key) (by simp))
    have a1 := hall (recErr rc) (by simp)
    refine (do_k1 g1 x2.heap.size (Nat.le_refl _) key ⟨#[]⟩ rc [] [] [] 0 0 0 0 [] A none none none none n c 0 0 0 0 0 0 0 0 ho hz
      (fun w1 hb1 => put_do (g1.below hb1) key _ rc x2.heap.size (hr.belowOf hb1 (Nat.le_refl _)) hb1.size ⟨a1, hin⟩ a0.1 hE)).mono (key_post ?_)
    unfold stepT doT
    rw [if_neg (by rw [hz]; simp), if_pos (by rfl), h2, h3]
    rfl
  · refine (do_err g1 x2.heap.size (Nat.le_refl _) 1 key ⟨#[]⟩ rc [] [] [] 0 0 0 0 [] A none none none none n c 0 0 0 0 0 0 0 0 ho hz).mono (key_post ?_)
    unfold stepT doT
    rw [if_pos hz, h2, h3]

section
variable {B sb mb d : Nat} {ix : Value} {E : Kv (Value × List TVal)} {X : List Ix} {w : World}
set_option maxRecDepth 100000 in
set_option maxHeartbeats 3200000 in
theorem do_get_below (h : Store w B sb mb ix E X d) (C : Nat) (hC : C ≤ w.heap.size) (key to : ByteArray) (rc old low high : List TVal) (id lim sp nd : Int) (fs : List Int) (Ar Ao Af Al Ah : Option Addr) (nr cr no co nf cf nl cl nh ch : Nat)
    (ho : OpIs w C (.agg #[.int .i64 3, .string key, .string to, .slice Ar nr cr, .slice Ao no co, .int .i64 id, .slice Af nf cf, .slice Al nl cl, .slice Ah nh ch, .int .i64 lim, .int .i64 sp, .int .i64 nd]) ⟨3, key, to, rc, old, id, fs, low, high, lim, sp, nd⟩) (hz : checkT ⟨3, key, to, rc, old, id, fs, low, high, lim, sp, nd⟩ = 0) (hkey : key.size ≤ maxLen) :
    Calls Tryz.prog 10 #[.pointer (some ⟨sb, 0, none⟩), .agg #[.int .i64 3, .string key, .string to, .slice Ar nr cr, .slice Ao no co, .int .i64 id, .slice Af nf cf, .slice Al nl cl, .slice Ah nh ch, .int .i64 lim, .int .i64 sp, .int .i64 nd]] w fun e w' => ∃ (u : Value) (a : Ans), e = .returned u ∧ AnsIs w' w.heap.size u a ∧ Below w.heap.size w w' := by
  obtain ⟨w00, hw00⟩ : ∃ w00, w.alloc (.cells #[.int .i64 3, .string key, .string to, .slice Ar nr cr, .slice Ao no co, .int .i64 id, .slice Af nf cf, .slice Al nl cl, .slice Ah nh ch, .int .i64 lim, .int .i64 sp, .int .i64 nd] 39) = w00 := ⟨_, rfl⟩
  have hb00 : Below w.heap.size w w00 := hw00 ▸ below_alloc _ _
  have hbo0 : Box w00 w.heap.size 39 #[.int .i64 3, .string key, .string to, .slice Ar nr cr, .slice Ao no co, .int .i64 id, .slice Af nf cf, .slice Al nl cl, .slice Ah nh ch, .int .i64 lim, .int .i64 sp, .int .i64 nd] := hw00 ▸ Box.made _ _ _
  have hs00 : w00.heap.size = w.heap.size + 1 := by rw [← hw00]; simp
  obtain ⟨w0, hw0⟩ : ∃ w0, w00.alloc (.cells #[.int .i64 0, .bool false, .slice none 0 0, .slice none 0 0, .int .i64 0] 35) = w0 := ⟨_, rfl⟩
  have hb0 : Below w.heap.size w w0 := Below.then hb00 (hw0 ▸ below_alloc _ _)
  have hbx : Box w0 (w.heap.size + 1) 35 #[.int .i64 0, .bool false, .slice none 0 0, .slice none 0 0, .int .i64 0] := hw0 ▸ made_at hs00 _ _
  have hbo : Box w0 w.heap.size 39 #[.int .i64 3, .string key, .string to, .slice Ar nr cr, .slice Ao no co, .int .i64 id, .slice Af nf cf, .slice Al nl cl, .slice Ah nh ch, .int .i64 lim, .int .i64 sp, .int .i64 nd] := hw0 ▸ hbo0.alloc _
  have hsz : w0.heap.size = w.heap.size + 1 + 1 := by rw [← hw0]; simp [hs00]
  have hchk := plainCheck_any _ _ C w0 (Nat.le_trans hC hb0.size) (ho.belowOf hb0 hC)
  have e0 := hbo.cell 0; have e1 := hbo.cell 1; have e2 := hbo.cell 2; have e3 := hbo.cell 3; have e4 := hbo.cell 4; have e5 := hbo.cell 5
  have e6 := hbo.cell 6; have e7 := hbo.cell 7; have e8 := hbo.cell 8; have e9 := hbo.cell 9; have e10 := hbo.cell 10; have e11 := hbo.cell 11
  have H := Lib.hid h
  have Hbx := Lib.hid hbx
  have Hbo := Lib.hid hbo
  have Hb0 := Lib.hid hb0
  have Hsz := Lib.hid hsz
  have Hchk := Lib.hid hchk
  clear hbo hbo0 hb00 hb0 hbx hsz hchk h ho
  rw [hz] at Hchk
  go_enter Tryz.func10, Tryz.ntmps10
  go_wp2_with fail
  refine Hchk.out.mono ?_
  rintro e w1 ⟨rfl, hb1⟩
  have hbo1 := Hbo.out.below hb1 Hbo.out.lt
  have a0 := hbo1.cell 0
  have a1 := hbo1.cell 1
  have Hb1 := Lib.hid hb1
  have Hbw := Lib.hid (Below.trans Hb0.out (hb1.mono (by rw [Hsz.out]; omega)))
  have Hbx1 := Lib.hid (Hbx.out.below hb1 Hbx.out.lt)
  have Hlt1 : Hid (w.heap.size + 1 < w1.heap.size) := Lib.hid (by have := hb1.size; have := Hsz.out; omega)
  clear hbo1 hb1
  go_wp2_with fail
  refine (get_any (H.out.below Hbw.out) key hkey).mono ?_
  rintro e w5 ⟨v, rfl, hr, hb5⟩
  obtain ⟨Ax, cx, rfl, -⟩ := own_sliceN hr
  have hbx5 := Hbx1.out.below hb5 Hlt1.out
  have Hr := Lib.hid hr
  have Hb5 := Lib.hid hb5
  clear hr hb5
  unfold replyV
  generalize (getK key.data.toList E).isSome = there
  obtain ⟨r0, r1, r2, r3, r4, k0, k1, k2, k3, k4⟩ := box5 hbx5
  obtain ⟨W3, hW3⟩ : ∃ W3, ((((w5.setCell ⟨w.heap.size + 1, 0, none⟩ (.int .i64 0)).setCell ⟨w.heap.size + 1, 1, none⟩ (.bool there)).setCell ⟨w.heap.size + 1, 2, none⟩ (.slice Ax (recOf key.data.toList E).length cx)).setCell ⟨w.heap.size + 1, 3, none⟩ (.slice none 0 0)).setCell ⟨w.heap.size + 1, 4, none⟩ (.int .i64 0) = W3 := ⟨_, rfl⟩
  obtain ⟨p0, p1, p2, p3, p4, -⟩ := box5 (box5_store hbx5 hW3)
  have hrow := own_baseN (own5 Hr.out (show w.heap.size + 1 < w1.heap.size + 1 by have := Hlt1.out; omega) hW3) (show w.heap.size ≤ w1.heap.size + 1 by have := Hbw.out.size; omega)
  have hbel : Below w.heap.size w W3 := below5B (Hbw.out.trans (Hb5.out.mono Hbw.out.size)) (Nat.le_succ _) hW3
  have Hrow := Lib.hid hrow
  have Hbel := Lib.hid hbel
  clear hbx5 hrow hbel
  go_wp2
  refine bodyPost_ret (v := replyV 0 there (.slice Ax (recOf key.data.toList E).length cx) (.slice none 0 0) 0) ?_ rfl ⟨_, ⟨0, there, recOf key.data.toList E, [], 0⟩, rfl, ⟨_, _, rfl, Hrow.out, RowsIs.nil _ _⟩, Hbel.out⟩
  simp [results, Tryz.results10, go_sem, replyV, p0, p1, p2, p3, p4]
end
theorem get_below {w : World} {B sb mb : Nat} {S : PSt} (h : Stands w B sb mb S) (key : ByteArray) (hk : keyE key = 0) :
    Calls Tryz.prog 10 #[.pointer (some ⟨sb, 0, none⟩), .agg #[.int .i64 3, .string key, .string ⟨#[]⟩, .slice none 0 0, .slice none 0 0, .int .i64 0, .slice none 0 0, .slice none 0 0, .slice none 0 0, .int .i64 0, .int .i64 0, .int .i64 0]] w
      fun e w' => ∃ (u : Value) (a : Ans), e = .returned u ∧ AnsIs w' w.heap.size u a ∧ Below w.heap.size w w' := by
  obtain ⟨ix, E, X, h1, h2, h3⟩ := h
  exact do_get_below h1 w.heap.size (Nat.le_refl _) key ⟨#[]⟩ [] [] [] [] 0 0 0 0 [] none none none none none 0 0 0 0 0 0 0 0 0 0 ⟨_, _, _, _, _, rfl, isVals_nil _ _, isVals_nil _ _, isInts_nil _ _, isVals_nil _ _, isVals_nil _ _⟩ (by have := check_get key; rw [hk] at this; exact this) (by have := (keyE_ok hk).2; simp only [maxLen]; omega)
end Go.Proofs.YtajombifjofmmaaGreat

namespace Go.Proofs.YtajombifjofmmaaGreat
open Go.RowKit
open Go.Lib (strCells compareBytes)

theorem box12K {w : World} {g : Nat} {t : TypeId} {x0 x1 x2 x3 x4 x5 x6 x7 x8 x9 x10 x11 : Value} (h : Box w g t #[x0, x1, x2, x3, x4, x5, x6, x7, x8, x9, x10, x11]) : w.cell? ⟨g, 0, none⟩ = some x0 ∧ w.cell? ⟨g, 1, none⟩ = some x1 ∧ w.cell? ⟨g, 2, none⟩ = some x2 ∧ w.cell? ⟨g, 3, none⟩ = some x3 ∧ w.cell? ⟨g, 4, none⟩ = some x4 ∧ w.cell? ⟨g, 5, none⟩ = some x5 ∧ w.cell? ⟨g, 6, none⟩ = some x6 ∧ w.cell? ⟨g, 7, none⟩ = some x7 ∧ w.cell? ⟨g, 8, none⟩ = some x8 ∧ w.cell? ⟨g, 9, none⟩ = some x9 ∧ w.cell? ⟨g, 10, none⟩ = some x10 ∧ w.cell? ⟨g, 11, none⟩ = some x11 :=
  ⟨h.cell 0, h.cell 1, h.cell 2, h.cell 3, h.cell 4, h.cell 5, h.cell 6, h.cell 7, h.cell 8, h.cell 9, h.cell 10, h.cell 11⟩
theorem RowsIs.kept {w w' : World} {b : Nat} {v : Value} {L : Kv (List TVal)} (h : RowsIs w b v L) (hk : ∀ g, b ≤ g → g < w.heap.size → w'.heap[g]? = w.heap[g]?) : RowsIs w' b v L := by
  obtain ⟨rs, ⟨h1, h2⟩, e⟩ := h
  exact ⟨rs, ⟨own_keep h1 fun g hg => hk g (h1.lt g hg).1 (h1.lt g hg).2, fun r hr => own_keep (h2 r hr) fun g hg => hk g ((h2 r hr).lt g hg).1 ((h2 r hr).lt g hg).2⟩, e⟩
theorem RowsIs.below {w w' : World} {b : Nat} {v : Value} {L : Kv (List TVal)} (h : RowsIs w b v L) (hb : Below w.heap.size w w') : RowsIs w' b v L := h.kept fun g _ hg => hb.block g hg
theorem Stands.idxLen {w : World} {B sb mb : Nat} {S : PSt} (h : Stands w B sb mb S) : (∀ x ∈ S.2.1, x.2.length ≤ 1000) ∧ S.2.1.length ≤ 6 := by
  obtain ⟨ix, E, X, h1, h2, h3⟩ := h
  rw [← h3]
  refine ⟨fun x hx => ?_, by rw [List.length_map]; exact h1.few⟩
  obtain ⟨y, hy, rfl⟩ := List.mem_map.1 hx
  exact (idx_some (h1.nums y hy).2.2.1).2
theorem own_eqV {w : World} {B m m' : Nat} {v : Value} {xs xs' : List Value} (h : w.ownsRow B 55 3 v m xs) (hm : m = m') (hx : xs = xs') : w.ownsRow B 55 3 v m' xs' := by
  subst hm
  subst hx
  exact h
/-- a row of rows stays where values are written -/
theorem outer_put {w w' : World} {B n : Nat} {v : Value} {xs : List Value} (h : w.ownsRow B 57 2 v n xs) {m Bo : Nat} {u : Value} {ys : List Value} (ho : w.ownsRow Bo 55 3 u m ys) {g : Nat} (hg : u.ownBlock = some g) (hgr : w.grownBy w' (some g)) : w'.ownsRow B 57 2 v n xs :=
  own_keep h fun i hi => hgr.block i (h.lt i hi).2 fun e => by
    injection e with e
    subst e
    obtain ⟨cur, hc⟩ := own_type h hi
    obtain ⟨cur', hc'⟩ := own_type ho hg
    rw [hc'] at hc
    injection hc with hc; injection hc with _ hc; exact absurd hc (by decide)
theorem box_put {w w' : World} {gb : Nat} {cs : Array Value} (h : Box w gb 35 cs) {m Bo : Nat} {u : Value} {ys : List Value} (ho : w.ownsRow Bo 55 3 u m ys) {g : Nat} (hg : u.ownBlock = some g) (hgr : w.grownBy w' (some g)) : Box w' gb 35 cs :=
  (hgr.block gb h.lt fun e => by
    injection e with e
    subst e
    obtain ⟨cur, hc⟩ := own_type ho hg
    unfold Box at h
    rw [h] at hc
    injection hc with hc; injection hc with _ hc; exact absurd hc (by decide)).trans h

/-- element i of a row of rows: where its record lies -/
theorem row_cell {w : World} {B N c i : Nat} {A : Option Addr} {rs : Kv (Value × List TVal)} {x : List UInt8 × Value × List TVal} (h : w.ownsRow B 57 2 (.slice A N c) N (rowCells rs)) (hi : i < N) (hx : rs[i]? = some x) : ∃ a, A = some a ∧ w.cell? ⟨(a.add (i * 2)).block, (a.add (i * 2)).off + 1, none⟩ = some x.2.1 := by
  obtain ⟨a, e, -, hc⟩ := (Has.of_ownN h).all (by omega)
  refine ⟨a, e, ?_⟩
  rw [← addr_step a _ 1 (by omega)]
  exact hc _ _ (rowCells_at rs i x hx).2
set_option maxRecDepth 100000 in
set_option maxHeartbeats 12800000 in
theorem plainKeeps_walk (v : Value) (l : List TOp) (vm : Value) (om : TOp) (Ar : Option Addr) (nr cr : Nat) (rc : List TVal) (w : World) (ho : IsOps w w.heap.size v l) (hsh : ∀ o ∈ l, OpShort o) (hm : OpIs w w.heap.size vm om) (hms : OpShort om) (hr : IsVals w w.heap.size (.slice Ar nr cr) rc) (hrs : ∀ u ∈ rc, u.s.size ≤ maxLen) :
    Calls Tryz.prog 4 #[v, vm, .slice Ar nr cr] w fun e w' => e = .returned (.bool true) ∧ Below w.heap.size w w' := by
  have Hlm := Lib.hid (fun wx (hb : Below w.heap.size w wx) => lightOp_any vm om _ wx hb.size (hm.belowOf hb (Nat.le_refl _)) hms)
  have Hmore := Lib.hid (fun wx (hb : Below w.heap.size w wx) => hm.belowOf hb (Nat.le_refl _))
  have Hsh := Lib.hid hsh
  have Ho := Lib.hid ho
  have Hr := Lib.hid hr
  have U1 := Lib.hid (isVals_slice hr)
  have Hin : Hid (∀ u ∈ rc, InI64 u.n) := Lib.hid (by obtain ⟨_, _, _, _, _, _, _, hh⟩ := hr; exact hh)
  have Hlr := Lib.hid (fun wx (hb : Below w.heap.size w wx) => light_any Ar nr cr w.heap.size 300 rc wx (U1.out.2.2.belowOf hb (Nat.le_refl _)) (Nat.le_trans U1.out.1 U1.out.2.1) (by omega) hrs)
  obtain ⟨A, n, c, rfl, -, -, hops⟩ := ho
  have Hops := Lib.hid hops
  obtain ⟨rv, ov, fv, lv, hv, rfl, h1, h2, h3, h4, h5⟩ := hm
  obtain ⟨A1, n1, c1, rfl, -⟩ := h1
  obtain ⟨A2, n2, c2, rfl, -⟩ := h2
  obtain ⟨A3, n3, c3, rfl, -⟩ := h3
  obtain ⟨A4, n4, c4, rfl, -⟩ := h4
  obtain ⟨A5, n5, c5, rfl, -⟩ := h5
  unfold opCells at *
  obtain ⟨w0, hw0⟩ : ∃ w0, w.alloc (.cells #[.int .i64 om.k, .string om.key, .string om.to, .slice A1 n1 c1, .slice A2 n2 c2, .int .i64 om.id, .slice A3 n3 c3, .slice A4 n4 c4, .slice A5 n5 c5, .int .i64 om.lim, .int .i64 om.sp, .int .i64 om.nd] 39) = w0 := ⟨_, rfl⟩
  have H0 : Hid (Below w.heap.size w w0) := Lib.hid (hw0 ▸ below_alloc _ _)
  have Hbx : Hid (∀ wx, Below w0.heap.size w0 wx → Box wx w.heap.size 39 #[.int .i64 om.k, .string om.key, .string om.to, .slice A1 n1 c1, .slice A2 n2 c2, .int .i64 om.id, .slice A3 n3 c3, .slice A4 n4 c4, .slice A5 n5 c5, .int .i64 om.lim, .int .i64 om.sp, .int .i64 om.nd]) := Lib.hid (fun wx hb => by
    have hm0 : Box w0 w.heap.size 39 _ := hw0 ▸ Box.made w _ _
    exact hm0.below hb hm0.lt)
  have Hw0 : Hid (∀ wx, Below w0.heap.size w0 wx → Below w.heap.size w wx) := Lib.hid fun wx hb => H0.out.trans (hb.mono H0.out.size)
  have Hz0 : Hid (w.heap.size ≤ w0.heap.size) := Lib.hid H0.out.size
  clear hsh hops hr hrs hms
  go_enter Tryz.func4, Tryz.ntmps4
  go_wp2_with fail
  refine (awake_any _).mono ?_
  rintro e w1 ⟨rfl, hb1⟩
  have Hb1 := Lib.hid hb1
  clear hb1
  go_wp2_with fail
  refine (allLight_any _ l w.heap.size 60 w1 (Hw0.out _ Hb1.out).size (Ho.out.belowOf (Hw0.out _ Hb1.out) (Nat.le_refl _)) Hsh.out (by omega)).mono ?_
  rintro e w2 ⟨b, rfl, hb2, hlen⟩
  have Hb2 := Lib.hid (Below.then Hb1.out hb2)
  clear hb2
  cases b with
  | false => go_wp2; go_ret; exact ⟨rfl, Hw0.out _ Hb2.out⟩
  | true =>
    have Hl60 := Lib.hid (hlen rfl)
    clear hlen
    obtain ⟨q0, q1, q2, q3, q4, q5, q6, q7, q8, q9, q10, q11⟩ := box12K (Hbx.out w2 Hb2.out)
    go_wp2_with fail
    refine (Hlm.out _ (Hw0.out _ Hb2.out)).mono ?_
    rintro e w3 ⟨b, rfl, hb3⟩
    have Hb3 := Lib.hid (Below.then Hb2.out hb3)
    clear hb3 q0 q1 q2 q3 q4 q5 q6 q7 q8 q9 q10 q11
    cases b with
    | false => go_wp2; go_ret; exact ⟨rfl, Hw0.out _ Hb3.out⟩
    | true =>
      go_wp2_with fail
      refine (Hlr.out w3 (Hw0.out _ Hb3.out)).mono ?_
      rintro e w4 ⟨b, rfl, hlr, rfl⟩
      cases b with
      | false => go_wp2; go_ret; exact ⟨rfl, Hw0.out _ Hb3.out⟩
      | true =>
        have Hr300 := Lib.hid hlr
        clear hlr
        go_wp2_with fail
        refine (new_any w3 w0.heap.size Hb3.out.size).mono ?_
        rintro e w4 ⟨rfl, hst, hb4⟩
        have Hb4 := Lib.hid (Below.then Hb3.out hb4)
        have Hst : Hid (Stands w4 w0.heap.size (w3.heap.size + 1) w3.heap.size (runT [])) := Lib.hid ⟨_, _, _, hst, rfl, rfl⟩
        have Hsb : Hid (w.heap.size ≤ w3.heap.size + 1) := Lib.hid (by have := Hb3.out.size; have := Hz0.out; omega)
        generalize w3.heap.size + 1 = sb at *
        generalize w3.heap.size = mb at Hst
        clear hst hb4
        have Hn : Hid (l.length = n) := Lib.hid Hops.out.1
        go_wp2
        go_loopw [8] (fun i wr => ∃ k : Nat, k ≤ n ∧ i = .int .i64 (k : Int) ∧ Hid (Stands wr w0.heap.size sb mb (runT (l.take k))) ∧ Hid ((runT (l.take k)).1.length ≤ k) ∧ Below w0.heap.size w0 wr) (fun i _ => n - (intOf i).toNat)
        case atStart => exact ⟨0, by omega, rfl, Hst, Lib.hid (by simp [runT]), Hb4.out⟩
        case round =>
          obtain ⟨k, hk, rfl, Hst, Hk, hb⟩ := hrel
          have Hb := Lib.hid hb
          clear hb
          have hk60 : n ≤ 60 := by have := Hl60.out; have := Hn.out; omega
          by_cases hlt : k < n
          · obtain ⟨a, o, rv, ov, fv, lv, hv, rfl, hab, hol, hop, d0, d1, d2, d3, d4, d5, d6, d7, d8, d9, d10, d11⟩ := ops_at (Hops.out.belowOf (Hw0.out _ Hb.out) (Nat.le_refl _)) hlt
            have Hcall := Lib.hid (step_any Hst.out _ o w.heap.size Hsb.out hop (by have := Hk.out; omega))
            have Hrun : Hid (stepT (runT (l.take k)) o = runT (l.take (k + 1))) := Lib.hid (by
              obtain ⟨hkl, e⟩ := List.getElem?_eq_some_iff.1 hol
              rw [List.take_succ_eq_append_getElem hkl, runT_snoc, e])
            have Hk2 : Hid ((runT (l.take (k + 1))).1.length ≤ k + 1) := Lib.hid (by
              rw [← Hrun.out]
              have := stepT_len (runT (l.take k)) o
              have := Hk.out
              omega)
            rw [Hrun.out] at Hcall
            unfold opCells at Hcall
            have hk0 : (0 : Int) ≤ (k : Int) := by omega
            have hk1 : (k : Int) < (n : Int) := by omega
            clear hop hol
            go_wp2_with fail
            refine Hcall.out.mono ?_
            rintro e w5 ⟨u, rfl, -, hs5, hb5⟩
            have Hs5 := Lib.hid hs5
            have Hb5 := Lib.hid (Hb.out.trans hb5)
            clear hs5 hb5
            go_wp2
            go_roundw
            case rel => exact ⟨k + 1, by omega, by go_num, Hs5, Hk2, Hb5.out⟩
            case measure => simp [intOf]; omega
          · have hkn : k = n := by omega
            subst hkn
            rw [List.take_of_length_le (by have := Hn.out; omega)] at Hst Hk
            --TAIL
            have hn60 : k ≤ 60 := by have := Hl60.out; have := Hn.out; omega
            obtain ⟨S, hS⟩ : ∃ S, runT l = S := ⟨_, rfl⟩
            rw [hS] at Hst Hk
            clear hS hlt hk
            generalize wr = x1 at *
            have hrl : nr ≤ 301 := by
              have h1 := Hr300.out trivial
              have h2 := U1.out.2.2.1
              omega
            have Hra := Lib.hid ((U1.out.2.2.belowOf (Hw0.out _ Hb.out) (Nat.le_refl _)).2)
            have Hkey : Hid (keyE ⟨#[111, 119, 110]⟩ = 0) := Lib.hid (by decide)
            go_wp2_with (at_builtin; refine wpList_append_hasN rfl (.tmp 46) (.tmp 47) _ rfl 55 val_elem (by omega) Tryz.underlying32 rfl (World.ownsRow_nil x1 x1.heap.size 55 3) rfl Hra.out (valCells_one _) (by simp only [maxLen]; omega) (by omega) (Nat.le_refl _) ?_; intro v9 x2 hown9 hg9 hz9; have Hb12 : Hid (Below x1.heap.size x1 x2) := Lib.hid (below_ownN (Below.refl _ _) (World.ownsRow_nil x1 x1.heap.size 55 3) hg9 (Nat.le_refl _)); have hown9' := own_eqV hown9 (Nat.zero_add _) (List.nil_append _); obtain ⟨A9, c9, rfl, hc9, hm9, -⟩ := own_sliceN hown9'; have Hown9 := Lib.hid hown9'; have Hc9 := Lib.hid (And.intro hc9 hm9); clear hown9 hg9 hz9 hown9' hc9 hm9)
            refine (put_apart Hst.out Hb12.out ⟨#[111, 119, 110]⟩ A9 nr c9 rc ⟨A9, nr, c9, rfl, Hc9.out.1, Hc9.out.2, own_vals Hown9.out, Hin.out⟩ (by have := Hk.out; omega)).mono ?_
            rintro e x3 ⟨u3, rfl, hA3, hb3, hq3⟩
            have hSl := stepT_len S (putOp ⟨#[111, 119, 110]⟩ rc)
            obtain ⟨S', hS'⟩ : ∃ S', stepT S (putOp ⟨#[111, 119, 110]⟩ rc) = S' := ⟨_, rfl⟩
            rw [hS'] at hA3 hSl
            obtain ⟨N, hN⟩ : ∃ N, S'.1.length = N := ⟨_, rfl⟩
            rw [hN] at hSl
            have hN61 : N ≤ 61 := by have := Hk.out; omega
            have HN := Lib.hid hN
            have HA3 := Lib.hid hA3
            have HB3 : Hid (Below w0.heap.size w0 x3) := Lib.hid (Hb.out.trans ((Hb12.out.mono Hb.out.size).trans hb3))
            have Hown3 := Lib.hid (own_stays Hown9.out hq3 (by decide) (by decide))
            have Hz23 := Lib.hid hb3.size
            clear hS' hSl hN hA3 hb3 hq3
            go_wp2_with fail
            refine (allRows_any HA3.out.stands (by have := HN.out; omega)).mono ?_
            rintro e x4 ⟨vw, rfl, hR4, hb4⟩
            obtain ⟨Aw, cw, rfl⟩ := hR4.slice
            rw [HN.out] at hR4 ⊢
            have HR4 := Lib.hid hR4
            have HA4 := Lib.hid (HA3.out.below hb4)
            have HB4 : Hid (Below w0.heap.size w0 x4) := Lib.hid (HB3.out.trans (hb4.mono HB3.out.size))
            have Hown4 := Lib.hid (own_belowN Hown3.out hb4)
            clear hR4 hb4
            go_wp2
            go_loopw [11] (fun i wq => ∃ (q : Nat) (ys : List Value), q ≤ nr ∧ i = .int .i64 (q : Int) ∧ wq.ownsRow x1.heap.size 55 3 (.slice A9 nr c9) nr ys ∧ x4.grownBy wq (Value.slice A9 nr c9).ownBlock) (fun i _ => nr - (intOf i).toNat)
            case atStart => exact ⟨0, _, by omega, rfl, Hown4.out, World.grownBy.refl _ _⟩
            case round =>
              obtain ⟨q, ys, hq, rfl, hown, hgr⟩ := hrel
              by_cases hqn : q < nr
              · obtain ⟨g, u0, u1, u2, hA, hBg, s0, s1, s2, f0, f1, f2, ⟨ys', hown'⟩, hgr'⟩ := own_put hown hqn (.int .i64 9) (.int .i64 0) (.string ⟨#[]⟩)
                subst hA
                have Hown' := Lib.hid hown'
                have Hgr' : Hid (x4.grownBy _ (some g)) := Lib.hid (hgr.trans hgr')
                have q0 : (0 : Int) ≤ (q : Int) := by omega
                have q1 : (q : Int) < (nr : Int) := by omega
                clear hown hgr hown' hgr'
                go_wp2
                go_roundw
                case rel => exact ⟨q + 1, ys', by omega, by go_num, Hown'.out, Hgr'.out⟩
                case measure => simp [intOf]; omega
              · have q1 : (nr : Int) ≤ (q : Int) := by omega
                have Hst5 : Hid (Stands wr w0.heap.size sb mb S') := Lib.hid (HA4.out.grown Hown4.out (fun g e => ⟨(Hown9.out.lt g e).1, (Hown9.out.lt g e).2⟩) hgr)
                have HR5 : Hid (RowsIs wr x3.heap.size (.slice Aw N cw) S'.1) := Lib.hid (HR4.out.kept fun g hB hlt => hgr.block g hlt fun e => by
                  have h1 := (Hown9.out.lt g e.symm).2
                  have h2 := Hz23.out
                  omega)
                have HB5 : Hid (Below w0.heap.size w0 wr) := Lib.hid (HB4.out.grown hgr HB4.out.size fun g e => by
                  have h1 := (Hown9.out.lt g e).1
                  have h2 := Hb.out.size
                  omega)
                clear hown hgr
                generalize wr = y4 at *
                go_wp2_with fail
                refine (allRows_any Hst5.out (by have := HN.out; omega)).mono ?_
                rintro e x5 ⟨vp, rfl, ⟨rsp, ⟨ho5, hr5⟩, e5⟩, hb5⟩
                have hlen : rsp.length = N := by rw [← HN.out, ← e5, mapK_len]
                rw [hlen] at ho5
                obtain ⟨Ap, cp, rfl, -⟩ := own_sliceN ho5
                have Ho5 := Lib.hid ho5
                have Hr5 : Hid (∀ r ∈ rsp, ∃ xs, x5.ownsRow y4.heap.size 55 3 r.2.1 r.2.2.length xs) := Lib.hid fun r hr => ⟨_, hr5 r hr⟩
                have Hb5 := Lib.hid hb5
                have Hlen := Lib.hid hlen
                clear ho5 hr5 e5 hb5 hlen
                go_wp2
                go_loopw [13, 14] (fun i _ wq => ∃ i' : Nat, i' ≤ N ∧ i = .int .i64 (i' : Int) ∧ wq.ownsRow y4.heap.size 57 2 (.slice Ap N cp) N (rowCells rsp) ∧ (∀ r ∈ rsp, ∃ xs, wq.ownsRow y4.heap.size 55 3 r.2.1 r.2.2.length xs) ∧ Below y4.heap.size y4 wq) (fun i _ _ => N - (intOf i).toNat)
                case atStart => exact ⟨0, by omega, rfl, Ho5.out, Hr5.out, Hb5.out⟩
                case round =>
                  obtain ⟨i', hi, rfl, hoi, hri, hbi⟩ := hrel
                  have Hoi := Lib.hid hoi
                  have Hri := Lib.hid hri
                  have Hbi := Lib.hid hbi
                  clear hoi hri hbi
                  by_cases hiN : i' < N
                  · obtain ⟨r, hget⟩ : ∃ r, rsp[i']? = some r := ⟨_, List.getElem?_eq_getElem (by have := Hlen.out; omega)⟩
                    have hmem := List.mem_of_getElem? hget
                    obtain ⟨xs0, hx0⟩ := Hri.out r hmem
                    obtain ⟨Ai, ci, hre, hci, hcm, -⟩ := own_sliceN hx0
                    obtain ⟨zi, hzi⟩ : ∃ z, r.2.2.length = z := ⟨_, rfl⟩
                    rw [hzi] at hre
                    have Hcell : Hid (∀ wx : World, wx.ownsRow y4.heap.size 57 2 (.slice Ap N cp) N (rowCells rsp) → ∃ a, Ap = some a ∧ wx.cell? ⟨(a.add (i' * 2)).block, (a.add (i' * 2)).off + 1, none⟩ = some (.slice Ai zi ci)) := Lib.hid fun wx hx => by
                      obtain ⟨a, e, c⟩ := row_cell hx hiN hget
                      exact ⟨a, e, by rw [c, hre]⟩
                    obtain ⟨a, rfl, hca⟩ := Hcell.out _ Hoi.out
                    have Hzi := Lib.hid hzi
                    have Hmem := Lib.hid hmem
                    have Hre := Lib.hid hre
                    have hzb : zi ≤ 9223372036854775807 := by
                      simp only [maxLen] at hcm
                      omega
                    have i0 : (0 : Int) ≤ (i' : Int) := by omega
                    have i1 : (i' : Int) < (N : Int) := by omega
                    clear hget hmem hx0 hre hci hcm hzi hca
                    generalize wr = ya at *
                    go_wp2
                    go_loopw [14] (fun j wq => ∃ j' : Nat, j' ≤ zi ∧ j = .int .i64 (j' : Int) ∧ wq.ownsRow y4.heap.size 57 2 (.slice (some a) N cp) N (rowCells rsp) ∧ (∀ r ∈ rsp, ∃ xs, wq.ownsRow y4.heap.size 55 3 r.2.1 r.2.2.length xs) ∧ Below y4.heap.size y4 wq) (fun j _ => zi - (intOf j).toNat)
                    case atStart => exact ⟨0, by omega, rfl, Hoi.out, Hri.out, Hbi.out⟩
                    case round =>
                      obtain ⟨j', hj, rfl, hoj, hrj, hbj⟩ := hrel
                      obtain ⟨a', ha', hcj⟩ := Hcell.out _ hoj
                      injection ha' with ha'
                      subst ha'
                      by_cases hjz : j' < zi
                      · obtain ⟨xs1, hx1⟩ := hrj r Hmem.out
                        rw [Hre.out, Hzi.out] at hx1
                        obtain ⟨g, u0, u1, u2, hA, hBg, s0, s1, s2, f0, f1, f2, -, hgr'⟩ := own_put hx1 hjz (.int .i64 9) (.int .i64 0) (.string ⟨#[]⟩)
                        subst hA
                        have Houter := Lib.hid (outer_put hoj hx1 rfl hgr')
                        have Hrows := Lib.hid (fun r hr => owned_set3 (hrj r hr) g (j' * 3) (j' * 3 + 1) (j' * 3 + 2) (.int .i64 9) (.int .i64 0) (.string ⟨#[]⟩))
                        have Hbel := Lib.hid (hbj.grown hgr' hbj.size fun k hk => by injection hk with hk; omega)
                        have j0 : (0 : Int) ≤ (j' : Int) := by omega
                        have j1 : (j' : Int) < (zi : Int) := by omega
                        clear hoj hrj hbj hx1 hgr'
                        go_wp2
                        go_roundw
                        case rel => exact ⟨j' + 1, by omega, by go_num, Houter.out, Hrows.out, Hbel.out⟩
                        case measure => simp [intOf]; omega
                      · have j1 : (zi : Int) ≤ (j' : Int) := by omega
                        have Hoj := Lib.hid hoj
                        have Hrj := Lib.hid hrj
                        have Hbj := Lib.hid hbj
                        clear hoj hrj hbj
                        go_wp2
                        go_roundw
                        case rel => exact ⟨i' + 1, by omega, by go_num, Hoj.out, Hrj.out, Hbj.out⟩
                        case measure => simp [intOf]; omega
                  · have i1 : (N : Int) ≤ (i' : Int) := by omega
                    have Hst6 := Lib.hid (Hst5.out.below Hbi.out)
                    have HR6 := Lib.hid (HR5.out.below Hbi.out)
                    have HB6 : Hid (Below w0.heap.size w0 wr) := Lib.hid (HB5.out.trans (Hbi.out.mono HB5.out.size))
                    clear Hoi Hri Hbi Ho5 Hr5 Hb5
                    generalize wr = z5 at *
                    go_wp2_with fail
                    refine (get_below Hst6.out ⟨#[111, 119, 110]⟩ Hkey.out).mono ?_
                    rintro e x6 ⟨u6, a6, rfl, ha6, hb6⟩
                    obtain ⟨B1, d1, E1, f1, rfl, hd1, hd2, ho6, -⟩ := ha6.parts
                    obtain ⟨m6, hm6⟩ : ∃ m, a6.rc.length = m := ⟨_, rfl⟩
                    rw [hm6] at hd1 ho6 ⊢
                    have hm6b : m6 ≤ 9223372036854775807 := by
                      simp only [maxLen] at hd2
                      omega
                    obtain ⟨y6, hy6⟩ : ∃ y, x6.alloc (.cells #[.int .i64 a6.code, .bool a6.there, .slice B1 m6 d1, .slice E1 a6.rows.length f1, .int .i64 a6.num] 35) = y := ⟨_, rfl⟩
                    have hxy6 : Below x6.heap.size x6 y6 := hy6 ▸ below_alloc _ _
                    have hbx6 : Box y6 x6.heap.size 35 #[.int .i64 a6.code, .bool a6.there, .slice B1 m6 d1, .slice E1 a6.rows.length f1, .int .i64 a6.num] := hy6 ▸ Box.made _ _ _
                    have Hbx6 := Lib.hid hbx6
                    have Hown6 := Lib.hid (own_belowN ho6 hxy6)
                    have Hb6 : Hid (Below z5.heap.size z5 y6) := Lib.hid (hb6.trans (hxy6.mono hb6.size))
                    clear ha6 hb6 ho6 hd1 hd2 hxy6 hbx6 hm6
                    go_wp2
                    go_loopw [16] (fun j wq => ∃ (j' : Nat) (ys : List Value), j' ≤ m6 ∧ j = .int .i64 (j' : Int) ∧ Box wq x6.heap.size 35 #[.int .i64 a6.code, .bool a6.there, .slice B1 m6 d1, .slice E1 a6.rows.length f1, .int .i64 a6.num] ∧ wq.ownsRow z5.heap.size 55 3 (.slice B1 m6 d1) m6 ys ∧ Below z5.heap.size z5 wq) (fun j _ => m6 - (intOf j).toNat)
                    case atStart => exact ⟨0, _, by omega, rfl, Hbx6.out, Hown6.out, Hb6.out⟩
                    case round =>
                      obtain ⟨j', ys, hj, rfl, hbj, hoj, hej⟩ := hrel
                      have c2 := hbj.cell 2
                      by_cases hjm : j' < m6
                      · obtain ⟨g, u0, u1, u2, hA, hBg, s0, s1, s2, f0, f1', f2, ⟨ys', hown'⟩, hgr'⟩ := own_put hoj hjm (.int .i64 9) (.int .i64 0) (.string ⟨#[]⟩)
                        subst hA
                        have Hbj := Lib.hid (box_put hbj hoj rfl hgr')
                        have Hoj := Lib.hid hown'
                        have Hej := Lib.hid (hej.grown hgr' hej.size fun k hk => by injection hk with hk; omega)
                        have j0 : (0 : Int) ≤ (j' : Int) := by omega
                        have j1 : (j' : Int) < (m6 : Int) := by omega
                        clear hbj hoj hej hown' hgr'
                        go_wp2
                        go_roundw
                        case rel => exact ⟨j' + 1, ys', by omega, by go_num, Hbj.out, Hoj.out, Hej.out⟩
                        case measure => simp [intOf]; omega
                      · have j1 : (m6 : Int) ≤ (j' : Int) := by omega
                        have Hst7 := Lib.hid (Hst6.out.below hej)
                        have HR7 := Lib.hid (HR6.out.below hej)
                        have HB7 : Hid (Below w0.heap.size w0 wr) := Lib.hid (HB6.out.trans (hej.mono HB6.out.size))
                        clear hbj hoj hej
                        generalize wr = z6 at *
                        go_wp2_with fail
                        refine (copy_any Hst7.out (by have := HN.out; omega)).mono ?_
                        rintro e x7 ⟨cb, cmb, rfl, hc7, hb7⟩
                        have Hc7 := Lib.hid hc7
                        have Hb7 := Lib.hid hb7
                        have Hcb : Hid (w.heap.size ≤ cb) := Lib.hid (by
                          obtain ⟨_, _, _, hcs, _⟩ := hc7
                          have h1 := hcs.sB
                          have h2 := HB7.out.size
                          have h3 := Hz0.out
                          omega)
                        clear hc7 hb7 c2
                        go_wp2_with fail
                        refine (allRows_any Hc7.out (by have := HN.out; omega)).mono ?_
                        rintro e x8 ⟨v8, rfl, hR8, hb8⟩
                        have Hb8 : Hid (Below z6.heap.size z6 x8) := Lib.hid (Hb7.out.trans (hb8.mono Hb7.out.size))
                        have Hc8 := Lib.hid (Hc7.out.below hb8)
                        obtain ⟨A8, c8, rs8, rfl, -, -, hh8, e8⟩ := ownRows_has hR8
                        obtain ⟨A10, c10, rs10, ew, -, -, hh10, e10⟩ := ownRows_has (HR7.out.below Hb8.out)
                        rw [HN.out] at hh8 hh10 ew ⊢
                        injection ew with ew1 ew2 ew3
                        subst ew1
                        subst ew3
                        have hsame := sameRows_any A8 Aw N N c8 cw _ _ rs8 rs10 x8 hh8 hh10 (Nat.le_refl _) (Nat.le_refl _) (by omega)
                        rw [decide_eq_true (by rw [e8, e10])] at hsame
                        have Hsame := Lib.hid hsame
                        clear hR8 hb8 hh8 hh10 e8 e10 hsame
                        go_wp2_with fail
                        refine Hsame.out.mono ?_
                        rintro e x9 ⟨rfl, hb9⟩
                        have Hb9 : Hid (Below z6.heap.size z6 x9) := Lib.hid (Hb8.out.trans (hb9.mono Hb8.out.size))
                        have Hc9' := Lib.hid (Hc8.out.below hb9)
                        clear hb9
                        go_wp2_with fail
                        refine (allIdx_any Hc9'.out).mono ?_
                        rintro e x10 ⟨v10, rfl, hi10, hb10⟩
                        have Hb10 : Hid (Below z6.heap.size z6 x10) := Lib.hid (Hb9.out.trans (hb10.mono Hb9.out.size))
                        have Hc10 := Lib.hid (Hc9'.out.below hb10)
                        have hil := Hst7.out.idxLen
                        obtain ⟨A11, c11, X11, rfl, hx11, e11⟩ := idxIs_has hi10 hil.1
                        have Hx11 := Lib.hid hx11
                        have He11 := Lib.hid e11
                        have Hil := Lib.hid hil
                        clear hi10 hb10 hx11 e11 hil
                        go_wp2_with fail
                        refine (allIdx_any (Hst7.out.below Hb10.out)).mono ?_
                        rintro e x11 ⟨v11, rfl, hi11, hb11⟩
                        have Hb11 : Hid (Below z6.heap.size z6 x11) := Lib.hid (Hb10.out.trans (hb11.mono Hb10.out.size))
                        have Hc11 := Lib.hid (Hc10.out.below hb11)
                        obtain ⟨A12, c12, X12, rfl, hx12, e12⟩ := idxIs_has hi11 Hil.out.1
                        have hsi := sameIdx_eq A11 A12 _ c11 c12 _ _ X11 X12 x11 (Hx11.out.belowOf hb11 (Nat.le_refl _)) hx12 (by rw [He11.out, e12]) (by have := Hil.out.2; omega)
                        have Hsi := Lib.hid hsi
                        clear hi11 hb11 hx12 e12 hsi
                        go_wp2_with fail
                        refine Hsi.out.mono ?_
                        rintro e x12 ⟨rfl, md, h12⟩
                        have Hb12' : Hid (Below z6.heap.size z6 x12) := Lib.hid (by rw [h12]; exact Hb11.out.trans ((below_drews (Below.refl _ _) md).mono Hb11.out.size))
                        have Hc12 : Hid (Stands x12 z6.heap.size cb cmb S') := Lib.hid (by rw [h12]; exact Hc11.out.below (below_drews (Below.refl _ _) md))
                        have HB12 : Hid (Below w0.heap.size w0 x12) := Lib.hid (HB7.out.trans (Hb12'.out.mono HB7.out.size))
                        clear h12
                        obtain ⟨q0, q1, q2, q3, q4, q5, q6, q7, q8, q9, q10, q11⟩ := box12K (Hbx.out x12 HB12.out)
                        have Hdo := Lib.hid (step_any Hc12.out _ om w.heap.size Hcb.out (Hmore.out x12 (Hw0.out _ HB12.out)) (by have := HN.out; omega))
                        go_wp2_with fail
                        refine Hdo.out.mono ?_
                        rintro e x13 ⟨u13, rfl, -, -, hb13⟩
                        have Hb13 : Hid (Below z6.heap.size z6 x13) := Lib.hid (Hb12'.out.trans hb13)
                        clear hb13 q0 q1 q2 q3 q4 q5 q6 q7 q8 q9 q10 q11
                        go_wp2_with fail
                        refine (allRows_any (Hst7.out.below Hb13.out) (by have := HN.out; omega)).mono ?_
                        rintro e x14 ⟨v14, rfl, hR14, hb14⟩
                        have Hb14 : Hid (Below z6.heap.size z6 x14) := Lib.hid (Hb13.out.trans (hb14.mono Hb13.out.size))
                        obtain ⟨A14, c14, rs14, rfl, -, -, hh14, e14⟩ := ownRows_has hR14
                        obtain ⟨A15, c15, rs15, ew, -, -, hh15, e15⟩ := ownRows_has (HR7.out.below Hb14.out)
                        rw [HN.out] at hh14 hh15 ew ⊢
                        injection ew with ew1 ew2 ew3
                        subst ew1
                        subst ew3
                        have hsame := sameRows_any A14 Aw N N c14 cw _ _ rs14 rs15 x14 hh14 hh15 (Nat.le_refl _) (Nat.le_refl _) (by omega)
                        rw [decide_eq_true (by rw [e14, e15])] at hsame
                        have Hsame2 := Lib.hid hsame
                        clear hR14 hb14 hh14 hh15 e14 e15 hsame
                        go_wp2_with fail
                        refine Hsame2.out.mono ?_
                        rintro e x15 ⟨rfl, hb15⟩
                        go_wp2
                        go_ret
                        exact ⟨rfl, Hw0.out _ (HB7.out.trans ((Hb14.out.trans (hb15.mono Hb14.out.size)).mono HB7.out.size))⟩

namespace lawPlainKeeps
open Go.ChangeShapes Go.WideShapes Go.ChangeAt

theorem own : ownKnob Tryz.prog.godebug = none := by kernel_rfl
theorem kids : Kids Tryz.prog (· < Tryz.prog.types.size) := kids_rows (by kernel_rfl) (by kernel_rfl)
theorem full : ∀ t e, t < Tryz.prog.types.size → Tryz.prog.underlying t = some (.slice e) → 0 < Tryz.prog.cellsOf e := slices_full_of Tryz.prog (by kernel_rfl)

set_option maxRecDepth 100000 in
theorem lifted (os : Os) (started : os.Started) (H : Type) (enc : TypeId × Value → H) :
    ReturnsInHanded {} Tryz.checked os 4 .any (Rows.plainKeepsSpec.pre6 enc Tryz.prog Tryz.f4 Rows.plainKeepsRow.domain false) (Rows.plainKeepsSpec.post enc Tryz.prog Tryz.f4 false true false false) := by
  refine returnsInHanded_of_change (C := Tryz.checked) own started (by kernel_rfl) Tryz.func4
    (ChangeSpec.witness6 (enc := enc) (C := Tryz.checked) false ⟨#[], #[.slice none 0 0, .agg #[.int .i64 0, .string ⟨#[]⟩, .string ⟨#[]⟩, .slice none 0 0, .slice none 0 0, .int .i64 0, .slice none 0 0, .slice none 0 0, .slice none 0 0, .int .i64 0, .int .i64 0, .int .i64 0], .slice none 0 0], []⟩ 8 (by kernel_rfl) (by kernel_rfl) (by kernel_rfl) (by kernel_rfl)) ?_
  intro W base args ds gs before hval0 hW _ _
  have hval : ∀ (j : Nat) t v, Tryz.f4.params[j]? = some t → args[j]? = some v → Value.okWide Tryz.prog W .any base t v := hval0
  have hW' := hW
  obtain ⟨p, q, hA0, hV, rfl, _, _⟩ := hW
  obtain ⟨rfl, rfl⟩ := trodVars_none hV
  have hA : DataW.TrodAll enc Tryz.prog W 0 (fun _ => true) true Tryz.f4.params.toList args.toList ds p := hA0
  rw [Tryz.params4] at hA hval
  obtain ⟨v0, vs0, d0, ds0, p0, q0, hargs, rfl, rfl, h0, r0⟩ := trodAll_cons hA
  obtain ⟨v1, vs1, d1, ds1, p1, q1, rfl, rfl, rfl, h1, r1⟩ := trodAll_cons r0
  obtain ⟨v2, vs2, d2, ds2, p2, q2, rfl, rfl, rfl, h2, r2⟩ := trodAll_cons r1
  obtain ⟨rfl, rfl, rfl⟩ := trodAll_nil r2
  obtain rfl : args = #[v0, v1, v2] := by cases args; simp_all
  have hlt := hW'.lt
  obtain ⟨L0, ho0, hsh0, hlen0⟩ := open_ops (hval 0 22 v0 rfl rfl) h0 (fun x hx => hlt x (by simp [hx]))
  obtain ⟨o1, ho1, hsh1⟩ := open_op (hval 1 39 v1 rfl rfl) h1 (fun x hx => hlt x (by simp [hx]))
  obtain ⟨A2, n2, c2, l2, rfl, hb2, hw2⟩ := open_isvals Tryz.underlying32 Tryz.underlying55 (by kernel_rfl) ⟨rfl, rfl, rfl⟩ ⟨by kernel_rfl, by kernel_rfl, by kernel_rfl⟩ ⟨by kernel_rfl, by kernel_rfl, by kernel_rfl⟩ (hval 2 32 v2 rfl rfl) h2 (fun x hx => hlt x (by simp [hx]))
  refine (plainKeeps_walk v0 L0 v1 o1 A2 n2 c2 l2 W ho0 hsh0 ho1 hsh1 hb2 hw2).mono fun e W' ⟨he, hbel⟩ => ?_
  subst he
  exact ⟨_, rfl, law_post kids full (of_decide_eq_true (by kernel_rfl)) Tryz.underlying4 rfl rfl rfl hW' hbel⟩

theorem proved : Rows.PlainKeepsSaid :=
  OpenClaim.holds_of_wide 4 Tryz.f4 rfl rfl rfl rfl rfl rfl rfl ⟨rfl, rfl, rfl, rfl, rfl⟩ rfl rfl rfl rfl rfl (by kernel_rfl) Tryz.func4 (by kernel_rfl)
    (of_decide_eq_true (by kernel_rfl)) (by unfold Func.isWrapper; first | (rw [if_pos (by decide +kernel)]; kernel_rfl) | (rw [if_neg (by decide +kernel)]; exact ⟨rfl, rfl⟩))
    (fun os started H enc _ => lifted os started H enc)
end lawPlainKeeps

end Go.Proofs.YtajombifjofmmaaGreat
