/- The law PlainPages: for every input it returns true and leaves what it was given. No condition. -/
import Derived.Test.YtheojndkojagdaaGreatMPlnB
import Derived.Test.YtheojndkojagdaaGreatRow
namespace Go.Proofs.YtheojndkojagdaaGreat
open Go.RowKit
open Go.Lib (strCells compareBytes)

theorem lt_zero : ∀ (l k : List UInt8), ¬ (k < l ++ [0]) ↔ l < k
  | [], [] => by simp
  | [], x :: r => by
    simp [List.cons_lt_cons_iff]
  | a :: l, [] => by simp
  | a :: l, x :: r => by
    have ih := lt_zero l r
    simp only [List.cons_append, List.cons_lt_cons_iff]
    constructor
    · intro h
      rcases Nat.lt_trichotomy a.toNat x.toNat with h1 | h1 | h1
      · exact .inl h1
      · have e : a = x := UInt8.toNat_inj.1 h1
        refine .inr ⟨e, ih.1 fun h2 => h (.inr ⟨e.symm, h2⟩)⟩
      · exact absurd (.inl h1) h
    · rintro (h | ⟨rfl, h⟩) h2
      · rcases h2 with h2 | ⟨rfl, _⟩
        · exact absurd (UInt8.lt_trans h h2) (UInt8.lt_irrefl _)
        · exact UInt8.lt_irrefl _ h
      · rcases h2 with h2 | ⟨_, h2⟩
        · exact UInt8.lt_irrefl _ h2
        · exact ih.2 h h2
theorem drop_after {W : List (List UInt8)} (hW : W.Pairwise fun a b => a < b) {j : Nat} {x : List UInt8} (hx : W[j]? = some x) : W.filter (fun k => decide (x < k)) = W.drop (j + 1) := by
  obtain ⟨hj, rfl⟩ := List.getElem?_eq_some_iff.1 hx
  have e : W = W.take (j + 1) ++ W.drop (j + 1) := (List.take_append_drop _ _).symm
  have h1 : (W.take (j + 1)).filter (fun k => decide (W[j] < k)) = [] := by
    rw [List.filter_eq_nil_iff]
    intro k hk
    obtain ⟨i, hi, rfl⟩ := List.getElem_of_mem hk
    rw [List.length_take] at hi
    rw [List.getElem_take]
    have hij : i ≤ j := by omega
    rcases Nat.lt_or_ge i j with h | h
    · have := List.pairwise_iff_getElem.1 hW i j (by omega) hj h
      simp
      exact fun h2 => absurd (List.lt_trans this h2) (List.lt_irrefl _)
    · have : i = j := by omega
      subst this
      simp [List.lt_irrefl]
  have h2 : (W.drop (j + 1)).filter (fun k => decide (W[j] < k)) = W.drop (j + 1) := by
    rw [List.filter_eq_self]
    intro k hk
    obtain ⟨i, hi, rfl⟩ := List.getElem_of_mem hk
    rw [List.length_drop] at hi
    rw [List.getElem_drop]
    have := List.pairwise_iff_getElem.1 hW j (j + 1 + i) hj (by omega) (by omega)
    simpa using this
  generalize W[j] = y at h1 h2 ⊢
  conv => lhs; rw [e]
  rw [List.filter_append, h1, h2, List.nil_append]
/-- behind a key that lies in the scan: what is left of it -/
theorem inK_next {f t x k : List UInt8} (hx : inK f t x = true) : inK (x ++ [0]) t k = (inK f t k && decide (x < k)) := by
  have h1 : decide (k < x ++ [0]) = !decide (x < k) := by
    have := lt_zero x k
    by_cases h : x < k
    · simp [h, this.2 h]
    · have h2 : k < x ++ [0] := Classical.byContradiction fun h2 => h (this.1 h2)
      simp [h, h2]
  unfold inK outK at *
  rw [h1]
  by_cases h : x < k
  · have hf : ¬ k < f := fun h2 => by
      have h3 : ¬ x < f := by
        intro h3
        simp [h3] at hx
      exact h3 (List.lt_trans h h2)
    simp [h, hf]
  · simp [h]
theorem page_next {K : List (List UInt8)} (hK : K.Pairwise fun a b => a < b) {f t x : List UInt8} {j s : Nat} (hx : (K.filter (inK f t))[j + s]? = some x) :
    K.filter (inK (x ++ [0]) t) = (K.filter (inK f t)).drop (j + (s + 1)) := by
  have hm := List.mem_of_getElem? hx
  have hin : inK f t x = true := (List.mem_filter.1 hm).2
  have h1 : K.filter (inK (x ++ [0]) t) = (K.filter (inK f t)).filter (fun k => decide (x < k)) := by
    rw [List.filter_filter]
    congr 1
    funext k
    rw [inK_next hin, Bool.and_comm]
  rw [h1, drop_after (hK.filter _) hx, Nat.add_assoc]
theorem take_pages {α : Type} (W : List α) (a s : Nat) : W.take a ++ (W.drop a).take s = W.take (a + s) := by rw [List.take_add]

def scanOp (f t : ByteArray) (lim : Int) : TOp := ⟨5, f, t, [], [], 0, [], [], [], lim, 0, 0⟩
theorem check_scan (f t : ByteArray) (lim : Int) (hf : f.size ≤ 16) (ht : t.size ≤ 16) (h1 : 1 ≤ lim) (h2 : lim ≤ 64) : checkT (scanOp f t lim) = 0 := by
  have a1 : inE (f.size : Int) 0 16 = 0 := by unfold inE; rw [if_neg (by omega)]
  have a2 : inE (t.size : Int) 0 16 = 0 := by unfold inE; rw [if_neg (by omega)]
  have a3 : inE lim 1 64 = 0 := by unfold inE; rw [if_neg (by omega)]
  unfold checkT errsT scanOp
  simp [a1, a2, a3, firstN]
theorem do_scan (f t : ByteArray) (lim : Int) (S : PSt) (hf : f.size ≤ 16) (ht : t.size ≤ 16) (h1 : 1 ≤ lim) (h2 : lim ≤ 64) : doT (scanOp f t lim) S.1 S.2.1 S.2.2 = (scanA f.data.toList t.data.toList lim.toNat S.1, S) := by
  unfold doT
  rw [if_neg (by rw [check_scan f t lim hf ht h1 h2]; simp), if_neg (by simp [scanOp]), if_neg (by simp [scanOp]), if_neg (by simp [scanOp]), if_neg (by simp [scanOp]), if_pos (by simp [scanOp])]
  rfl
theorem step_scan (f t : ByteArray) (lim : Int) (S : PSt) (hf : f.size ≤ 16) (ht : t.size ≤ 16) (h1 : 1 ≤ lim) (h2 : lim ≤ 64) : stepT S (scanOp f t lim) = S := by
  unfold stepT
  rw [do_scan f t lim S hf ht h1 h2]
theorem Stands.rise {w : World} {B sb mb : Nat} {S : PSt} (h : Stands w B sb mb S) : (S.1.map (·.1)).Pairwise (· < ·) := by
  obtain ⟨ix, E, X, h1, h2, h3⟩ := h
  have := (rise_map (fun p : Value × List TVal => p.2)).2 h1.rise
  rw [h2] at this
  exact rise_keys this
theorem rowsT_len (M : Kv (List TVal)) (ks : List (List UInt8)) : (rowsT M ks).length = ks.length := by simp [rowsT]
theorem rowsT_app (M : Kv (List TVal)) (a b : List (List UInt8)) : rowsT M (a ++ b) = rowsT M a ++ rowsT M b := by simp [rowsT]
theorem field_rows (c : Int) (b : Bool) (A A' : Option Addr) (n m n' m' : Nat) (i : Int) (w : World) : (Instr.field 35 (.agg #[.int .i64 c, .bool b, .slice A n m, .slice A' n' m', .int .i64 i]) 3).run Tryz.prog w = .ok (.slice A' n' m') w := by kernel_rfl
section
variable {w w' : World} {B sb mb N m : Nat} {v : Value} {xs : List Value}
/-- the store stays where a row of rows grows -/
theorem Stands.grown {S : PSt} (h : Stands w B sb mb S) (ho : w.ownsRow N 58 2 v m xs) (hg : w.grownBy w' v.ownBlock) : Stands w' B sb mb S := by
  obtain ⟨ix, E, X, h1, h2, h3⟩ := h
  refine ⟨ix, E, X, h1.frame fun i o hi ho' _ => hg.block i (Array.getElem?_eq_some_iff.1 hi).1 fun e => ?_, h2, h3⟩
  obtain ⟨cur, hc⟩ := own_type ho e.symm
  rw [hc] at hi
  injection hi with hi
  subst hi
  rcases ho' with e | e | e | e <;> exact absurd e (by decide)
theorem vals_grown {b k : Nat} {u : Value} {l : List TVal} (h : w.ownsRow b 67 3 u k (valCells l)) (ho : w.ownsRow N 58 2 v m xs) (hg : w.grownBy w' v.ownBlock) : w'.ownsRow b 67 3 u k (valCells l) :=
  own_keep h fun g hgr => hg.block g (h.lt g hgr).2 fun e => by
    obtain ⟨cur, hc⟩ := own_type h hgr
    obtain ⟨cur', hc'⟩ := own_type ho e.symm
    rw [hc'] at hc
    injection hc with hc
    injection hc with _ hc _
    exact absurd hc (by decide)
/-- rows stay where another row of rows grows -/
theorem OwnRows.other {b : Nat} {u : Value} {rs : Kv (Value × List TVal)} (h : OwnRows w b u rs) (ho : w.ownsRow N 58 2 v m xs) (hg : w.grownBy w' v.ownBlock) (hne : ∀ g, u.ownBlock = some g → v.ownBlock ≠ some g) : OwnRows w' b u rs :=
  ⟨own_keep h.1 fun g hgr => hg.block g (h.1.lt g hgr).2 fun e => hne g hgr e.symm, fun r hr => vals_grown (h.2 r hr) ho hg⟩
theorem OwnRows.append {b : Nat} {u v' : Value} {rs rs2 : Kv (Value × List TVal)} (h : OwnRows w b v rs) (h2 : OwnRows w b u rs2) (hown : w'.ownsRow b 58 2 v' (rs.length + rs2.length) (rowCells rs ++ rowCells rs2)) (hg : w.grownBy w' v.ownBlock) : OwnRows w' b v' (rs ++ rs2) := by
  refine ⟨by rw [List.length_append, rowCells_app]; exact hown, fun r hr => ?_⟩
  rcases List.mem_append.1 hr with hr | hr
  · exact vals_grown (h.2 r hr) h.1 hg
  · exact vals_grown (h2.2 r hr) h.1 hg
theorem OwnRows.stays' {b : Nat} {u : Value} {rs : Kv (Value × List TVal)} (h : OwnRows w b u rs) (hs : Stays w w') : OwnRows w' b u rs := ⟨own_stays h.1 hs (by decide) (by decide), fun r hr => own_stays (h.2 r hr) hs (by decide) (by decide)⟩
theorem rowCells_one : ∀ (rs : Kv (Value × List TVal)), (∀ r ∈ rs, ∃ A n c, r.2.1 = .slice A n c) → ∀ u ∈ rowCells rs, u.oneCell' = true
  | [], _, u, hu => by simp [rowCells] at hu
  | r :: l, h, u, hu => by
    simp only [rowCells, List.mem_cons] at hu
    rcases hu with rfl | rfl | hu
    · rfl
    · obtain ⟨A, n, c, e⟩ := h r (by simp)
      rw [e]
      rfl
    · exact rowCells_one l (fun x hx => h x (by simp [hx])) u hu
theorem OwnRows.slices {b : Nat} {u : Value} {rs : Kv (Value × List TVal)} (h : OwnRows w b u rs) : ∀ r ∈ rs, ∃ A n c, r.2.1 = .slice A n c := fun r hr => by
  obtain ⟨A, c, e, _⟩ := own_sliceN (h.2 r hr)
  exact ⟨A, _, c, e⟩
theorem OwnRows.has {b n c : Nat} {A : Option Addr} {rs : Kv (Value × List TVal)} (h : OwnRows w b (.slice A n c) rs) : n = rs.length ∧ HasRows w w.heap.size A n rs := by
  obtain ⟨A', c', e, h3, h4, h5⟩ := own_sliceN h.1
  injection e with e1 e2 e3
  subst e1; subst e2; subst e3
  refine ⟨rfl, rfl, h5, fun r hr => ?_⟩
  obtain ⟨A', c', e, g1, g2, g3⟩ := own_sliceN (h.2 r hr)
  exact ⟨A', _, c', e, Nat.le_trans g1 g2, rfl, g3⟩
theorem rowsT_at {M : Kv (List TVal)} {P : List (List UInt8)} {rs : Kv (Value × List TVal)} (h : mapK (·.2) rs = rowsT M P) {i : Nat} {x : List UInt8 × Value × List TVal} (hx : rs[i]? = some x) : P[i]? = some x.1 := by
  have h1 := mapK_at (f := fun p : Value × List TVal => p.2) hx
  rw [h] at h1
  unfold rowsT at h1
  rw [List.getElem?_map] at h1
  cases hp : P[i]? with
  | none => rw [hp] at h1; simp at h1
  | some k =>
    rw [hp] at h1
    simp at h1
    rw [h1.1]
end
end Go.Proofs.YtheojndkojagdaaGreat

namespace Go.Proofs.YtheojndkojagdaaGreat
open Go.RowKit
open Go.Lib (strCells compareBytes)

set_option maxRecDepth 100000 in
set_option maxHeartbeats 12800000 in
theorem plainPages_walk (v : Value) (l : List TOp) (f t : ByteArray) (size : Int) (w : World) (ho : IsOps w w.heap.size v l) (hsh : ∀ o ∈ l, OpShort o) (hf : f.size ≤ maxLen) (ht : t.size ≤ maxLen) (hsz : InI64 size) :
    Calls Tryz.prog 5 #[v, .string f, .string t, .int .i64 size] w fun e w' => e = .returned (.bool true) ∧ Below w.heap.size w w' := by
  have Ho := Lib.hid ho
  have Hsh := Lib.hid hsh
  unfold maxLen at hf ht
  unfold InI64 at hsz
  obtain ⟨A, n, c, rfl, -, -, hops⟩ := ho
  have Hops := Lib.hid hops
  have Hlen := Lib.hid hops.1
  clear hsh hops
  go_enter Tryz.func5, Tryz.ntmps5
  go_wp2_with fail
  refine (awake_any _).mono ?_
  rintro e w1 ⟨rfl, hb1⟩
  have Hb1 := Lib.hid hb1
  go_wp2_with fail
  refine (allLight_any _ l w.heap.size 60 w1 hb1.size (Ho.out.belowOf hb1 (Nat.le_refl _)) Hsh.out (by omega)).mono ?_
  rintro e w2 ⟨b, rfl, hb2, hlen⟩
  have Hb3 := Lib.hid (Below.then hb1 hb2)
  cases b with
  | false => go_wp2; go_ret; exact ⟨rfl, Hb3.out⟩
  | true =>
    have Hl60 := Lib.hid (hlen rfl)
    clear hlen hb1 hb2
    by_cases hf15 : 15 < f.size
    · go_wp2
      go_ret
      exact ⟨rfl, Hb3.out⟩
    by_cases ht15 : 15 < t.size
    · go_wp2
      go_ret
      exact ⟨rfl, Hb3.out⟩
    by_cases hs1 : size < 1
    · go_wp2
      go_ret
      exact ⟨rfl, Hb3.out⟩
    by_cases hs64 : 64 < size
    · go_wp2
      go_ret
      exact ⟨rfl, Hb3.out⟩
    obtain ⟨q, rfl⟩ : ∃ q : Nat, size = (q : Int) + 1 := ⟨(size - 1).toNat, by omega⟩
    go_wp2_with fail
    refine (new_any w2 w.heap.size Hb3.out.size).mono ?_
    rintro e w4 ⟨rfl, hst, hb4⟩
    have Hb4 := Lib.hid (Below.then Hb3.out hb4)
    have Hst : Hid (Stands w4 w.heap.size (w2.heap.size + 1) w2.heap.size (runT [])) := Lib.hid ⟨_, _, _, hst, rfl, rfl⟩
    have Hsb : Hid (w.heap.size ≤ w2.heap.size + 1) := Lib.hid (Nat.le_succ_of_le Hb3.out.size)
    generalize w2.heap.size + 1 = sb at *
    generalize w2.heap.size = mb at Hst
    clear hst hb4
    have Hn : Hid (l.length = n) := Hlen
    go_wp2
    go_loopw [10] (fun i wr => ∃ k : Nat, k ≤ n ∧ i = .int .i64 (k : Int) ∧ Hid (Stands wr w.heap.size sb mb (runT (l.take k))) ∧ Hid ((runT (l.take k)).1.length ≤ k) ∧ Below w.heap.size w wr) (fun i _ => n - (intOf i).toNat)
    case atStart => exact ⟨0, by omega, rfl, Hst, Lib.hid (by simp [runT]), Hb4.out⟩
    case round =>
      obtain ⟨k, hk, rfl, Hst, Hk, hb⟩ := hrel
      have Hb := Lib.hid hb
      clear hb
      have hk60 : n ≤ 60 := by have := Hl60.out; have := Hn.out; omega
      by_cases hlt : k < n
      · obtain ⟨a, o, rv, ov, fv, lv, hv, rfl, hab, hol, hop, d0, d1, d2, d3, d4, d5, d6, d7, d8, d9, d10, d11⟩ := ops_at (Hops.out.belowOf Hb.out (Nat.le_refl _)) hlt
        have Hcall := Lib.hid (step_any Hst.out _ o w.heap.size Hsb.out hop (by have := Hk.out; omega))
        have Hrun : Hid (stepT (runT (l.take k)) o = runT (l.take (k + 1))) := Lib.hid (by
          obtain ⟨hkl, e⟩ := List.getElem?_eq_some_iff.1 hol
          rw [List.take_succ_eq_append_getElem hkl, runT_snoc, e])
        have Hk2 : Hid ((runT (l.take (k + 1))).1.length ≤ k + 1) := Lib.hid (by
          rw [← Hrun.out]
          have := stepT_len (runT (l.take k)) o
          have := Hk.out
          omega)
        rw [Hrun.out] at Hcall
        unfold opCells at Hcall
        have hk0 : (0 : Int) ≤ (k : Int) := by omega
        have hk1 : (k : Int) < (n : Int) := by omega
        clear hop hol
        go_wp2_with fail
        refine Hcall.out.mono ?_
        rintro e w5 ⟨u, rfl, -, hs5, hb5⟩
        have Hs5 := Lib.hid hs5
        have Hb5 := Lib.hid (Hb.out.trans hb5)
        clear hs5 hb5
        go_wp2
        go_roundw
        case rel => exact ⟨k + 1, by omega, by go_num, Hs5, Hk2, Hb5.out⟩
        case measure => simp [intOf]; omega
      · have hkn : k = n := by omega
        subst hkn
        rw [List.take_of_length_le (by have := Hn.out; omega)] at Hst Hk
        --TAIL
        have hn60 : k ≤ 60 := by have := Hl60.out; have := Hn.out; omega
        obtain ⟨S, hS⟩ : ∃ S, runT l = S := ⟨_, rfl⟩
        rw [hS] at Hst Hk
        clear hS hlt hk
        obtain ⟨K, hK⟩ : ∃ K, S.1.map (·.1) = K := ⟨_, rfl⟩
        obtain ⟨W, hW⟩ : ∃ W, K.filter (inK f.data.toList t.data.toList) = W := ⟨_, rfl⟩
        have HK : Hid (K.Pairwise fun a b => a < b) := Lib.hid (hK ▸ Hst.out.rise)
        have hKl : K.length ≤ 60 := by rw [← hK, List.length_map]; have := Hk.out; omega
        have hWl : W.length ≤ 60 := by rw [← hW]; exact Nat.le_trans (List.length_filter_le _ _) hKl
        have HWe := Lib.hid hW
        have Hdo1 := Lib.hid (do_scan f t 64 S (by omega) (by omega) (by omega) (by omega))
        have Hst1 := Lib.hid (step_scan f t 64 S (by omega) (by omega) (by omega) (by omega))
        unfold scanA at Hdo1
        rw [hK, hW, show (64 : Int).toNat = 64 from rfl, List.take_of_length_le (by omega : W.length ≤ 64)] at Hdo1
        have HKe := Lib.hid hK
        clear hK hW hKl
        go_wp2_with fail
        refine (step_stays Hst.out _ (scanOp f t 64) w.heap.size Hsb.out ⟨_, _, _, _, _, rfl, isVals_nil _ _, isVals_nil _ _, isInts_nil _ _, isVals_nil _ _, isVals_nil _ _⟩ (by have := Hk.out; omega)).mono ?_
        rintro e x1 ⟨u, rfl, ha, hs, hb, hq⟩
        rw [Hdo1.out] at ha
        rw [Hst1.out] at hs
        obtain ⟨B1, d1, E1, f1, rfl, -, -, -, hR⟩ := ha.parts
        dsimp only at hR
        have HR1 := Lib.hid hR
        have Hs1 := Lib.hid hs
        have Hb1 := Lib.hid (Hb.out.trans hb)
        clear ha hs hb hq hR Hdo1 Hst1
        have hfd := field_rows
        obtain ⟨rsw, how, hew⟩ := HR1.out
        have Hwant := Lib.hid how
        have Hew := Lib.hid hew
        have hwl : rsw.length = (rowsT S.1 W).length := by rw [← hew, mapK_len]
        rw [← hwl] at Hwant ⊢
        have Hwl := Lib.hid hwl
        have Hlt1 : Hid (∀ g, (Value.slice E1 rsw.length f1).ownBlock = some g → g < x1.heap.size) := Lib.hid fun g hg => (Hwant.out.1.lt g hg).2
        have Hx1 := Lib.hid Hb1.out.size
        clear how hew hwl
        go_wp2_with fail
        clear hfd
        generalize wr = wa at *
        go_loopw [8, 12, 13, 14, 15, 16] (fun _ gv av tv _ _ wq => ∃ (r : Nat) (at' : ByteArray) (rs : Kv (Value × List TVal)), tv = .int .i64 (r : Int) ∧ av = .string at' ∧ r * (q + 1) ≤ W.length ∧ at'.size ≤ 16 ∧ Hid (K.filter (inK at'.data.toList t.data.toList) = W.drop (r * (q + 1))) ∧
          Hid (mapK (·.2) rs = rowsT S.1 (W.take (r * (q + 1)))) ∧ OwnRows wq x1.heap.size gv rs ∧ Stands wq w.heap.size sb mb S ∧ OwnRows wq wa.heap.size (.slice E1 rsw.length f1) rsw ∧ Below w.heap.size w wq ∧ x1.heap.size ≤ wq.heap.size) (fun _ _ _ tv _ _ _ => 70 - (intOf tv).toNat)
        case atStart => exact ⟨0, f, [], rfl, rfl, by omega, by omega, Lib.hid (by rw [HWe.out]; simp), Lib.hid (by simp [rowsT, mapK]), OwnRows.nil _ _, Hs1.out, Hwant.out, Hb1.out, Nat.le_refl _⟩
        case round =>
          obtain ⟨r, at', rs, rfl, rfl, hr, ha16, Hat, Hrs, hgot, hst2, hwant, hbq, hzq⟩ := hrel
          have Hgot := Lib.hid hgot
          have Hst2 := Lib.hid hst2
          have Hwn := Lib.hid hwant
          have Hbq := Lib.hid hbq
          have Hzq := Lib.hid hzq
          have hr60 : r ≤ 60 := by
            have : r * 1 ≤ r * (q + 1) := Nat.mul_le_mul_left r (by omega)
            omega
          obtain ⟨o, ho⟩ : ∃ o, r * (q + 1) = o := ⟨_, rfl⟩
          have Ho' := Lib.hid ho
          rw [ho] at hr Hat Hrs
          have Hdo := Lib.hid (do_scan at' t ((q : Int) + 1) S ha16 (by omega) (by omega) (by omega))
          have Hstep := Lib.hid (step_scan at' t ((q : Int) + 1) S ha16 (by omega) (by omega) (by omega))
          unfold scanA at Hdo
          rw [HKe.out, Hat.out, show ((q : Int) + 1).toNat = q + 1 from by omega] at Hdo
          have hrsl : rs.length = o := by
            have h1 := congrArg List.length Hrs.out
            rw [mapK_len, rowsT_len, List.length_take] at h1
            omega
          have Hrsl := Lib.hid hrsl
          clear hrsl
          obtain ⟨P, hP⟩ : ∃ P, (W.drop o).take (q + 1) = P := ⟨_, rfl⟩
          have HP := Lib.hid hP
          obtain ⟨p, hp⟩ : ∃ p, P.length = p := ⟨_, rfl⟩
          have Hpl : Hid (p = min (q + 1) (W.length - o)) := Lib.hid (by rw [← hp, ← hP, List.length_take, List.length_drop])
          have hp60 : p ≤ 60 := by have := Hpl.out; omega
          have Hp := Lib.hid hp
          rw [hP] at Hdo
          clear hgot hst2 hwant hbq hzq ho hP hp
          have hfd := field_rows
          go_wp2_with fail
          refine (step_stays Hst2.out _ (scanOp at' t ((q : Int) + 1)) w.heap.size Hsb.out ⟨_, _, _, _, _, rfl, isVals_nil _ _, isVals_nil _ _, isInts_nil _ _, isVals_nil _ _, isVals_nil _ _⟩ (by have := Hk.out; omega)).mono ?_
          rintro e x2 ⟨u, rfl, ha, hs, hb, hq⟩
          rw [Hdo.out] at ha
          rw [Hstep.out] at hs
          obtain ⟨B2, d2, E2, f2, rfl, -, -, -, rs2, hR, heR⟩ := ha.parts
          dsimp only at hR heR
          have hpl : (rowsT S.1 P).length = p := by rw [rowsT_len, Hp.out]
          have hr2l : rs2.length = p := by rw [← hpl, ← heR, mapK_len]
          rw [hpl] at hR ⊢
          have HR2 := Lib.hid hR
          have HeR := Lib.hid heR
          have Hs2 := Lib.hid hs
          have Hb2 := Lib.hid (Hbq.out.trans hb)
          have Hz2 := Lib.hid hb.size
          have Hgot2 := Lib.hid (Hgot.out.stays' hq)
          have Hwn2 := Lib.hid (Hwn.out.stays' hq)
          have Hpg := Lib.hid (own_sliceN HR2.out.1)
          clear ha hs hb hq hR heR Hdo Hstep hpl
          have hpage : Has x2 x2.heap.size E2 (p * 2) (rowCells rs2) := by
            obtain ⟨A9, c9, e9, _, _, h9⟩ := Hpg.out
            injection e9 with e1 _ _
            subst e1
            rwa [hr2l] at h9
          have Hpage := Lib.hid hpage
          have Hr2l := Lib.hid hr2l
          clear hr2l
          have Hone2 := Lib.hid (rowCells_one rs2 HR2.out.slices)
          clear hpage Hpg
          have Hx12 : Hid (x1.heap.size ≤ x2.heap.size) := Lib.hid (Nat.le_trans Hzq.out Hz2.out)
          have Ht3 : Hid (mapK (fun y : Value × List TVal => y.2) (rs ++ rs2) = rowsT S.1 (W.take (o + (q + 1)))) := Lib.hid (by
            have h1 := Hrs.out
            have h2 := HeR.out
            rw [← take_pages, rowsT_app, HP.out, ← h1, ← h2]
            simp [mapK])
          by_cases hfull : p < q + 1
          · have hfi : (p : Int) < (q : Int) + 1 := by omega
            have Hend : Hid (W.take (o + (q + 1)) = W) := Lib.hid (List.take_of_length_le (by have := Hpl.out; omega))
            go_wp2_with (at_builtin; refine wpList_append_hasN rfl (.tmp 71) (.tmp 72) _ rfl 58 row_elem (by omega) Tryz.underlying33 rfl Hgot2.out.1 rfl Hpage.out Hone2.out (by have := Hrsl.out; simp only [maxLen]; omega) (by have := Hrsl.out; omega) Hx12.out ?_; intro v3 x3 hown3 hg3 hz3; have Hg3 : Hid (x2.grownBy x3 _) := Lib.hid hg3; have Hown3 := Lib.hid (Hgot2.out.append (HR2.out.base Hzq.out) (by rw [Hr2l.out]; exact hown3) hg3); have Hwn3 := Lib.hid (Hwn2.out.other Hgot2.out.1 hg3 fun g hg e => by have h1 := Hlt1.out g hg; have h2 := (Hgot2.out.1.lt g e).1; omega); have Hs3 := Lib.hid (Hs2.out.grown Hgot2.out.1 hg3); have Hb3 : Hid (Below w.heap.size w x3) := Lib.hid (below_ownN Hb2.out (own_baseN Hgot2.out.1 Hx1.out) hg3 Hb2.out.size); have Hz3 : Hid (x1.heap.size ≤ x3.heap.size) := Lib.hid (Nat.le_trans Hx12.out hg3.size); obtain ⟨A3, c3, rfl, _, _, _⟩ := own_sliceN Hown3.out.1; clear hown3 hg3 hz3)
            obtain ⟨e3, h3⟩ := Hown3.out.has
            obtain ⟨e4, h4⟩ := Hwn3.out.has
            have HSR := Lib.hid (sameRows_any _ _ _ _ c3 f1 _ _ (rs ++ rs2) rsw x3 h3 h4 (Nat.le_refl _) (Nat.le_refl _) (by rw [List.length_append, Hrsl.out, Hr2l.out]; omega))
            rw [decide_eq_true (show mapK (fun y : Value × List TVal => y.2) (rs ++ rs2) = mapK (fun y : Value × List TVal => y.2) rsw by rw [Ht3.out, Hend.out, ← Hew.out])] at HSR
            rw [List.length_append] at HSR
            clear e3 h3 e4 h4
            refine HSR.out.mono ?_
            rintro e z1 ⟨rfl, hz1⟩
            go_wp2
            go_ret
            exact ⟨rfl, Hb3.out.trans (hz1.mono Hb3.out.size)⟩
          · obtain rfl : p = q + 1 := by have := Hpl.out; omega
            obtain ⟨ge, rfl, _⟩ := own_head (show x2.ownsRow wr.heap.size 58 2 (.slice E2 (q + 1) f2) (q + 1) (rowCells rs2) by have := HR2.out.1; rw [Hr2l.out] at this; exact this) (by omega)
            obtain ⟨rr, hrr⟩ : ∃ rr, rs2[q]? = some rr := ⟨_, List.getElem?_eq_getElem (by have := Hr2l.out; omega)⟩
            obtain ⟨s, hs⟩ : ∃ s : ByteArray, s = ⟨rr.1.toArray⟩ := ⟨_, rfl⟩
            have Hsl : Hid (s.data.toList = rr.1) := Lib.hid (by rw [hs])
            have Hck : Hid ((rowCells rs2)[q * 2]? = some (.string s)) := Lib.hid (by rw [hs]; exact (rowCells_at rs2 q rr hrr).1)
            have Hwx : Hid (W[o + q]? = some s.data.toList) := Lib.hid (by
              have h1 := rowsT_at HeR.out hrr
              rw [← HP.out, List.getElem?_take, if_pos (by omega), List.getElem?_drop] at h1
              rw [Hsl.out]
              exact h1)
            have hq0 : (0 : Int) ≤ (q : Int) := by omega
            have hq1 : (q : Int) < (q : Int) + 1 := by omega
            have hlen : o + (q + 1) ≤ W.length := by
              have := (List.getElem?_eq_some_iff.1 Hwx.out).1
              omega
            clear hs hrr
            by_cases h16 : 16 ≤ s.size
            · go_wp2_with (at_builtin; refine wpList_append_hasN rfl (.tmp 71) (.tmp 72) _ rfl 58 row_elem (by omega) Tryz.underlying33 rfl Hgot2.out.1 rfl Hpage.out Hone2.out (by have := Hrsl.out; simp only [maxLen]; omega) (by have := Hrsl.out; omega) Hx12.out ?_; intro v3 x3 hown3 hg3 hz3; have Hg3 : Hid (x2.grownBy x3 _) := Lib.hid hg3; have Hown3 := Lib.hid (Hgot2.out.append (HR2.out.base Hzq.out) (by rw [Hr2l.out]; exact hown3) hg3); have Hwn3 := Lib.hid (Hwn2.out.other Hgot2.out.1 hg3 fun g hg e => by have h1 := Hlt1.out g hg; have h2 := (Hgot2.out.1.lt g e).1; omega); have Hs3 := Lib.hid (Hs2.out.grown Hgot2.out.1 hg3); have Hb3 : Hid (Below w.heap.size w x3) := Lib.hid (below_ownN Hb2.out (own_baseN Hgot2.out.1 Hx1.out) hg3 Hb2.out.size); have Hz3 : Hid (x1.heap.size ≤ x3.heap.size) := Lib.hid (Nat.le_trans Hx12.out hg3.size); obtain ⟨A3, c3, rfl, _, _, _⟩ := own_sliceN Hown3.out.1; have HP3 := Lib.hid (HR2.out.other Hgot2.out.1 hg3 fun g hg e => by have h1 := (HR2.out.1.lt g hg).1; have h2 := (Hgot.out.1.lt g e).2; omega); have qr : x3.ownsRow wr.heap.size 58 2 (.slice (some ⟨ge, 0, none⟩) (q + 1) f2) (q + 1) (rowCells rs2) := (by have := HP3.out.1; rw [Hr2l.out] at this; exact this); have qk : x3.cell? ⟨ge, q * 2, none⟩ = some (.string s) := (by rw [qr.cellAt (q * 2) (by omega)]; exact Hck.out); clear qr; clear hown3 hg3 hz3)
              go_ret
              exact ⟨rfl, Hb3.out⟩
            · have hsum : ¬ 9223372036854775807 < s.size + 1 := by omega
              go_wp2_with (at_builtin; refine wpList_append_hasN rfl (.tmp 71) (.tmp 72) _ rfl 58 row_elem (by omega) Tryz.underlying33 rfl Hgot2.out.1 rfl Hpage.out Hone2.out (by have := Hrsl.out; simp only [maxLen]; omega) (by have := Hrsl.out; omega) Hx12.out ?_; intro v3 x3 hown3 hg3 hz3; have Hg3 : Hid (x2.grownBy x3 _) := Lib.hid hg3; have Hown3 := Lib.hid (Hgot2.out.append (HR2.out.base Hzq.out) (by rw [Hr2l.out]; exact hown3) hg3); have Hwn3 := Lib.hid (Hwn2.out.other Hgot2.out.1 hg3 fun g hg e => by have h1 := Hlt1.out g hg; have h2 := (Hgot2.out.1.lt g e).1; omega); have Hs3 := Lib.hid (Hs2.out.grown Hgot2.out.1 hg3); have Hb3 : Hid (Below w.heap.size w x3) := Lib.hid (below_ownN Hb2.out (own_baseN Hgot2.out.1 Hx1.out) hg3 Hb2.out.size); have Hz3 : Hid (x1.heap.size ≤ x3.heap.size) := Lib.hid (Nat.le_trans Hx12.out hg3.size); obtain ⟨A3, c3, rfl, _, _, _⟩ := own_sliceN Hown3.out.1; have HP3 := Lib.hid (HR2.out.other Hgot2.out.1 hg3 fun g hg e => by have h1 := (HR2.out.1.lt g hg).1; have h2 := (Hgot.out.1.lt g e).2; omega); have qr : x3.ownsRow wr.heap.size 58 2 (.slice (some ⟨ge, 0, none⟩) (q + 1) f2) (q + 1) (rowCells rs2) := (by have := HP3.out.1; rw [Hr2l.out] at this; exact this); have qk : x3.cell? ⟨ge, q * 2, none⟩ = some (.string s) := (by rw [qr.cellAt (q * 2) (by omega)]; exact Hck.out); clear qr; clear hown3 hg3 hz3)
              go_roundw
              case rel =>
                have hmul : (r + 1) * (q + 1) = o + (q + 1) := by rw [Nat.succ_mul, Ho'.out]
                refine ⟨r + 1, s ++ ⟨#[0]⟩, rs ++ rs2, by go_num, rfl, by rw [hmul]; exact hlen, ?_, Lib.hid ?_, Lib.hid ?_, ?_, Hs3.out, Hwn3.out, Hb3.out, Hz3.out⟩
                · rw [ByteArray.size_append]
                  have : (⟨#[0]⟩ : ByteArray).size = 1 := rfl
                  omega
                · rw [hmul, ← HWe.out, show (s ++ ⟨#[0]⟩ : ByteArray).data.toList = s.data.toList ++ [0] by simp [ByteArray.data_append]]
                  exact page_next HK.out (by rw [HWe.out]; exact Hwx.out)
                · rw [hmul]
                  exact Ht3.out
                · have := Hown3.out
                  rw [List.length_append] at this
                  exact this
              case measure => simp [intOf]; omega

namespace lawPlainPages
open Go.ChangeShapes Go.WideShapes Go.ChangeAt

theorem own : ownKnob Tryz.prog.godebug = none := by kernel_rfl
theorem kids : Kids Tryz.prog (· < Tryz.prog.types.size) := kids_rows (by kernel_rfl) (by kernel_rfl)
theorem full : ∀ t e, t < Tryz.prog.types.size → Tryz.prog.underlying t = some (.slice e) → 0 < Tryz.prog.cellsOf e := slices_full_of Tryz.prog (by kernel_rfl)

set_option maxRecDepth 100000 in
theorem lifted (os : Os) (started : os.Started) (H : Type) (enc : TypeId × Value → H) :
    ReturnsInHanded {} Tryz.checked os 5 .any (Rows.plainPagesSpec.pre6 enc Tryz.prog Tryz.f5 Rows.plainPagesRow.domain false) (Rows.plainPagesSpec.post enc Tryz.prog Tryz.f5 false true false false) := by
  refine returnsInHanded_of_change (C := Tryz.checked) own started (by kernel_rfl) Tryz.func5
    (ChangeSpec.witness6 (enc := enc) (C := Tryz.checked) false ⟨#[], #[.slice none 0 0, .string ⟨#[]⟩, .string ⟨#[]⟩, .int .i64 0], []⟩ 8 (by kernel_rfl) (by kernel_rfl) (by kernel_rfl) (by kernel_rfl)) ?_
  intro W base args ds gs before hval0 hW _ _
  have hval : ∀ (j : Nat) t v, Tryz.f5.params[j]? = some t → args[j]? = some v → Value.okWide Tryz.prog W .any base t v := hval0
  have hW' := hW
  obtain ⟨p, q, hA0, hV, rfl, _, _⟩ := hW
  obtain ⟨rfl, rfl⟩ := trodVars_none hV
  have hA : DataW.TrodAll enc Tryz.prog W 0 (fun _ => true) true Tryz.f5.params.toList args.toList ds p := hA0
  rw [Tryz.params5] at hA hval
  obtain ⟨v0, vs0, d0, ds0, p0, q0, hargs, rfl, rfl, h0, r0⟩ := trodAll_cons hA
  obtain ⟨v1, vs1, d1, ds1, p1, q1, rfl, rfl, rfl, h1, r1⟩ := trodAll_cons r0
  obtain ⟨v2, vs2, d2, ds2, p2, q2, rfl, rfl, rfl, h2, r2⟩ := trodAll_cons r1
  obtain ⟨v3, vs3, d3, ds3, p3, q3, rfl, rfl, rfl, h3, r3⟩ := trodAll_cons r2
  obtain ⟨rfl, rfl, rfl⟩ := trodAll_nil r3
  obtain rfl : args = #[v0, v1, v2, v3] := by cases args; simp_all
  have hlt := hW'.lt
  obtain ⟨L0, ho0, hsh0, hlen0⟩ := open_ops (hval 0 22 v0 rfl rfl) h0 (fun x hx => hlt x (by simp [hx]))
  obtain ⟨s1, rfl, _, _, ws1⟩ := Go.ChangeMaps.open_string Tryz.underlying9 (hval 1 9 v1 rfl rfl) h1
  obtain ⟨s2, rfl, _, _, ws2⟩ := Go.ChangeMaps.open_string Tryz.underlying9 (hval 2 9 v2 rfl rfl) h2
  obtain ⟨k3, rfl, _, _, wf3⟩ := open_int Tryz.underlying3 (hval 3 3 v3 rfl rfl) h3
  have bd3 := bounds_i64 wf3
  refine (plainPages_walk v0 L0 s1 s2 k3 W ho0 hsh0 ws1 ws2 (by have := bd3; unfold InI64; omega)).mono fun e W' ⟨he, hbel⟩ => ?_
  subst he
  exact ⟨_, rfl, law_post kids full (of_decide_eq_true (by kernel_rfl)) Tryz.underlying4 rfl rfl rfl hW' hbel⟩

theorem proved : Rows.PlainPagesSaid :=
  OpenClaim.holds_of_wide 5 Tryz.f5 rfl rfl rfl rfl rfl rfl rfl ⟨rfl, rfl, rfl, rfl, rfl⟩ rfl rfl rfl rfl rfl (by kernel_rfl) Tryz.func5 (by kernel_rfl)
    (of_decide_eq_true (by kernel_rfl)) (by unfold Func.isWrapper; first | (rw [if_pos (by decide +kernel)]; kernel_rfl) | (rw [if_neg (by decide +kernel)]; exact ⟨rfl, rfl⟩))
    (fun os started H enc _ => lifted os started H enc)
end lawPlainPages

end Go.Proofs.YtheojndkojagdaaGreat
