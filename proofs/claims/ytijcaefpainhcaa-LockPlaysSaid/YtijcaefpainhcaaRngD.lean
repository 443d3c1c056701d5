/- slices.Clone, IndexFunc and DeleteFunc of ranges, the latter of those that are empty. Condition: the row is in memory. -/
import Derived.Test.YtijcaefpainhcaaRngC
import Derived.Laws.IdiomCopy
import Derived.Laws.CopyRow
namespace Go.Proofs.Ytijcaefpainhcaa
open Go.RowKit
open Go.Lib (strCells compareBytes)

theorem setCells_ownR {B g n c size : Nat} {e : TypeId} : ∀ (cs : List Value) (o : Nat) (w : World) (xs : List Value), w.ownsRow B e size (.slice (some ⟨g, 0, none⟩) n c) n xs → o + cs.length ≤ n * size →
    (w.setCells g o cs).ownsRow B e size (.slice (some ⟨g, 0, none⟩) n c) n (xs.take o ++ (cs ++ xs.drop (o + cs.length))) ∧ w.grownBy (w.setCells g o cs) (some g)
  | [], o, w, xs, h, _ => by
    refine ⟨?_, World.grownBy.refl _ _⟩
    simpa [World.setCells] using h
  | v :: r, o, w, xs, h, hl => by
    rw [List.length_cons] at hl
    have hxl : xs.length = n * size := h.1
    obtain ⟨h1, h2⟩ := h.stored o v
    obtain ⟨h3, h4⟩ := setCells_ownR r (o + 1) _ _ h1 (by omega)
    refine ⟨?_, grownR_trans h2 h4⟩
    have e1 : (xs.set o v).take (o + 1) = xs.take o ++ [v] := by
      rw [List.take_succ_eq_append_getElem (by simp; omega)]
      simp [List.take_set_of_le]
    have e2 : (xs.set o v).drop (o + 1 + r.length) = xs.drop (o + (v :: r).length) := by
      rw [List.drop_set_of_lt (by omega), List.length_cons, show o + 1 + r.length = o + (r.length + 1) from by omega]
    rw [e1, e2, List.append_assoc] at h3
    exact h3
/-- .. and shorter -/
theorem own_shorterR {w : World} {B n n' c size : Nat} {e : TypeId} {A : Option Addr} {xs : List Value} (h : w.ownsRow B e size (.slice A n c) n xs) (hn : n' ≤ n) : w.ownsRow B e size (.slice A n' c) n' (xs.take (n' * size)) := by
  have hle : n' * size ≤ n * size := Nat.mul_le_mul_right size hn
  refine ⟨by rw [List.length_take, h.1]; omega, ?_⟩
  rcases h.2 with ⟨hv, h0⟩ | ⟨g', cap, cur, hv, hB, hg, h1, h2, h3, h4⟩
  · injection hv with e1 _ e3
    subst e1
    subst e3
    have : n' = 0 := by omega
    subst this
    exact .inl ⟨rfl, rfl⟩
  · injection hv with e1 _ e3
    subst e1
    subst e3
    exact .inr ⟨g', c, cur, rfl, hB, hg, by omega, h2, h3, by rw [← h4, List.take_take, Nat.min_eq_left hle]⟩
theorem own_emptyR (w : World) (B : Nat) (hB : B ≤ w.heap.size) : (w.alloc (.cells #[] 23)).ownsRow B 23 2 (.slice (some ⟨w.heap.size, 0, none⟩) 0 0) 0 [] :=
  ⟨rfl, .inr ⟨w.heap.size, 0, #[], rfl, hB, heap_alloc_new w _, Nat.le_refl _, by simp [maxLen], rfl, rfl⟩⟩
set_option maxRecDepth 100000 in
/-- slices.Clone: a row of the call's own that holds what the row holds -/
theorem cloneR_any (A : Option Addr) (n c C : Nat) (l : List Rg) (w : World) (h : HasRgs w C A n l) (hn : n ≤ 1000000) (hC : C ≤ w.heap.size) :
    Calls Try.prog 49 #[.slice A n c] w (GivesR w.heap.size l w) := by
  have H := Lib.hid h
  have hl := h.1
  cases A with
  | none =>
    have hl0 : l = [] := by
      obtain ⟨h1, h2⟩ := h
      rcases Nat.eq_zero_or_pos n with h0 | h0
      · exact List.eq_nil_of_length_eq_zero (by omega)
      · obtain ⟨a, e, -⟩ := h2.all (by omega); cases e
    subst hl0
    have q := Lib.run_eql_slice_nil (P := Try.prog) w 26 23 none n c 0 0 Try.underlying26
    clear h hl
    go_enter Try.func49, Try.ntmps49
    go_wp2
    go_ret
    exact ⟨_, rfl, OwnRgs.nil _ _, Below.refl _ _⟩
  | some a =>
    have q := Lib.run_eql_slice_nil (P := Try.prog) w 26 23 (some a) n c 0 0 Try.underlying26
    have Hl := Lib.hid hl
    clear h hl
    go_enter Try.func49, Try.ntmps49
    go_wp2_with (at_builtin; refine wpList_append_hasN rfl (.tmp 5) (.tmp 6) _ rfl 23 rg_elem (by omega) Try.underlying26 rfl (own_emptyR w w.heap.size (Nat.le_refl _)) rfl (H.out.2.alloc hC _) (rgCells_one _) (by simp only [maxLen]; omega) (by omega) (by simp) ?_; intro v1 w1 hown1 hg1 hz1; have Hb1 : Hid (Below w.heap.size w w1) := Lib.hid (below_ownN (below_box _) (own_emptyR w w.heap.size (Nat.le_refl _)) hg1 (by simp)); clear hg1 hz1)
    go_ret
    exact ⟨_, rfl, by unfold OwnRgs; rw [Hl.out]; simpa using hown1, Hb1.out⟩
def vo (r : Rg) : Bool := decide (emptyR r)
/-- the place of the first range that is empty; -1, if none is -/
def VoidAt (l : List Rg) (w : World) (e : Ending) (w' : World) : Prop :=
  Below w.heap.size w w' ∧ ((e = .returned (.int .i64 (-1)) ∧ ∀ c ∈ l, vo c = false) ∨ ∃ (i : Nat) (c : Rg), e = .returned (.int .i64 (i : Int)) ∧ l[i]? = some c ∧ vo c = true ∧ ∀ c ∈ l.take i, vo c = false)
set_option maxRecDepth 100000 in
set_option maxHeartbeats 1600000 in
theorem indexVoid_any (A : Option Addr) (n c C : Nat) (l : List Rg) (w : World) (h : HasRgs w C A n l) (hC : C ≤ w.heap.size) (hn : n ≤ 1000000) :
    Calls Try.prog 70 #[.slice A n c, .func (.func 14) #[] #[]] w (VoidAt l w) := by
  have H := Lib.hid h
  have Hl := Lib.hid h.1
  have Hc := Lib.hid empty_any
  unfold ragg at Hc
  clear h
  go_enter Try.func70, Try.ntmps70
  go_wp2
  go_loopw [5, 8] (fun _ iv wr => ∃ k : Nat, k ≤ n ∧ iv = .int .i64 (k : Int) ∧ Hid (∀ c ∈ l.take k, vo c = false) ∧ Below w.heap.size w wr) (fun _ iv _ => n - (intOf iv).toNat)
  case atStart => exact ⟨0, by omega, rfl, Lib.hid (by simp), Below.refl _ _⟩
  case round =>
    obtain ⟨k, hk, rfl, Hp, hb⟩ := hrel
    have Hb := Lib.hid hb
    have hsz := hb.size
    clear hb
    by_cases hlt : k < n
    · obtain ⟨a, y, rfl, hab, hy, c0, c1⟩ := (H.out.belowOf Hb.out hC).at_ hlt
      have Hy := Lib.hid hy
      have hk0 : (0 : Int) ≤ (k : Int) := by omega
      have hk1 : (k : Int) < (n : Int) := by omega
      obtain ⟨yk, yv⟩ := y
      have Hc1 := Lib.hid (fun wx => Hc.out ⟨yk, yv⟩ wx)
      simp only at c0 c1 Hc1
      obtain ⟨yg, hyg⟩ : ∃ yg, decide (emptyR ⟨yk, yv⟩) = yg := ⟨_, rfl⟩
      rw [hyg] at Hc1
      have Hyg : Hid (vo ⟨yk, yv⟩ = yg) := Lib.hid hyg
      clear hy hyg
      cases yg with
      | false =>
        have Hp1 : Hid (∀ c ∈ l.take (k + 1), vo c = false) := Lib.hid (by
          rw [List.take_add_one, Hy.out]
          intro x hx
          rcases List.mem_append.1 hx with hx | hx
          · exact Hp.out x hx
          · simp at hx; subst hx; exact Hyg.out)
        go_wp2_with fail
        refine (Hc1.out _).mono ?_
        rintro e w2 ⟨rfl, hb2⟩
        have Hb2 := Lib.hid (Hb.out.trans (hb2.mono hsz))
        clear hb2
        go_wp2
        go_roundw
        case rel => exact ⟨k + 1, by omega, by go_num, Hp1, Hb2.out⟩
        case measure => simp [intOf]; omega
      | true =>
        go_wp2_with fail
        refine (Hc1.out _).mono ?_
        rintro e w2 ⟨rfl, hb2⟩
        have Hb2 := Lib.hid (Hb.out.trans (hb2.mono hsz))
        clear hb2
        go_wp2
        go_ret
        exact ⟨Hb2.out, .inr ⟨k, _, rfl, Hy.out, Hyg.out, Hp.out⟩⟩
    · have E : Hid (∀ c ∈ l, vo c = false) := Lib.hid (by have h1 := Hp.out; rwa [List.take_of_length_le (by have := Hl.out; omega)] at h1)
      obtain rfl : k = n := by omega
      go_wp2
      go_ret
      exact ⟨Hb.out, .inl ⟨rfl, E.out⟩⟩
theorem zero_rgs (m : Nat) : ∀ u ∈ (Builtin.zeroCells (Value.agg #[.string ⟨#[]⟩, .string ⟨#[]⟩]).cells m).toList, u.oneCell' = true := by
  intro u hu
  unfold Builtin.zeroCells at hu
  rw [Array.toList_map] at hu
  obtain ⟨i, -, rfl⟩ := List.mem_map.1 hu
  have h3 : (Value.agg #[.string ⟨#[]⟩, .string ⟨#[]⟩]).cells = #[.string ⟨#[]⟩, .string ⟨#[]⟩] := rfl
  rw [h3]
  have hs : (#[Value.string ⟨#[]⟩, .string ⟨#[]⟩]).size = 2 := rfl
  rw [hs]
  have : i % 2 = 0 ∨ i % 2 = 1 := by omega
  rcases this with e | e <;> rw [e] <;> rfl
theorem clear_rgs (w : World) (ty : TypeId) (b o m c : Nat) (hm : 0 < m) (hc : ∀ j, j < m * 2 → (w.cell? ⟨b, o + j, none⟩).isSome = true) (hf : ∀ j, j < m * 2 → w.frozen? ⟨b, o + j, none⟩ = false) :
    (Builtin.clear_ #[26] ty #[.slice (some ⟨b, o, none⟩) m c]).run Try.prog w = .ok (.tuple #[]) (w.setCells b o (Builtin.zeroCells (Value.agg #[.string ⟨#[]⟩, .string ⟨#[]⟩]).cells m).toList) := by
  have hl : (Builtin.zeroCells (Value.agg #[.string ⟨#[]⟩, .string ⟨#[]⟩]).cells m).toList.length = m * 2 := by rw [Array.length_toList, size_zeroCells]; rfl
  have hst := run_storeCells_cells (P := Try.prog) b o (Builtin.zeroCells (Value.agg #[.string ⟨#[]⟩, .string ⟨#[]⟩]).cells m).toList 0 w (by rw [hl]; simpa using hc) (by rw [hl]; simpa using hf) (zero_rgs m)
  simp only [Nat.add_zero] at hst
  have hv : ∀ w, (zeroValue 23).run Try.prog w = .ok (.agg #[.string ⟨#[]⟩, .string ⟨#[]⟩]) w := fun w => by kernel_rfl
  obtain ⟨q, rfl⟩ : ∃ q, m = q + 1 := ⟨m - 1, by omega⟩
  simp [Builtin.clear_, run_underlying Try.underlying26, hv, hst]

theorem fulls_take {l : List Rg} {k : Nat} {c : Rg} (h : l[k]? = some c) : fulls (l.take (k + 1)) = fulls (l.take k) ++ (if vo c then [] else [c]) := by
  rw [List.take_add_one, h]
  unfold fulls vo
  rw [List.filter_append]
  by_cases hg : emptyR c <;> simp [hg]
theorem fulls_none {l : List Rg} (h : ∀ c ∈ l, vo c = false) : fulls l = l := by
  unfold fulls
  rw [List.filter_eq_self]
  intro c hc
  have := h c hc
  unfold vo at this
  rw [this]
  rfl
theorem fulls_len (l : List Rg) : (fulls l).length ≤ l.length := List.length_filter_le _ _
theorem put2_take {xs : List Value} {i n : Nat} (hx : xs.length = n * 2) (hi : i < n) (a b : Value) : (xs.take (i * 2) ++ ([a, b] ++ xs.drop (i * 2 + 2))).take ((i + 1) * 2) = xs.take (i * 2) ++ [a, b] := by
  rw [← List.append_assoc, List.take_left' (by rw [List.length_append, List.length_take]; simp; omega)]
theorem put2_drop {xs : List Value} {i j n : Nat} (hx : xs.length = n * 2) (hi : i < n) (hij : i < j) (a b : Value) : (xs.take (i * 2) ++ ([a, b] ++ xs.drop (i * 2 + 2))).drop (j * 2) = xs.drop (j * 2) := by
  rw [← List.append_assoc, List.drop_append, List.drop_of_length_le (by rw [List.length_append, List.length_take]; simp; omega), List.nil_append, List.drop_drop]
  congr 1
  rw [List.length_append, List.length_take]
  simp
  omega
theorem dropR_next {xs : List Value} {L : List Rg} {j : Nat} {c : Rg} (h : xs.drop (j * 2) = rgCells (L.drop j)) (hc : L[j]? = some c) : xs.drop ((j + 1) * 2) = rgCells (L.drop (j + 1)) ∧ xs[j * 2]? = some (.string c.lo) ∧ xs[j * 2 + 1]? = some (.string c.hi) := by
  have e : L.drop j = c :: L.drop (j + 1) := drop_mem hc
  rw [e] at h
  have key : ∀ t, xs[j * 2 + t]? = (rgCells (c :: L.drop (j + 1)))[t]? := fun t => by rw [← h, List.getElem?_drop]
  refine ⟨?_, key 0, key 1⟩
  have h2 : (xs.drop (j * 2)).drop 2 = (rgCells (c :: L.drop (j + 1))).drop 2 := by rw [h]
  rw [List.drop_drop] at h2
  rw [show (j + 1) * 2 = j * 2 + 2 by omega, h2]
  rfl
/-- the row, shorter, in its block: what is gone is taken out -/
def DelPostR (B : Nat) (v : Value) (L : List Rg) (w : World) (e : Ending) (w' : World) : Prop := ∃ v', e = .returned v' ∧ OwnRgs w' B v' L ∧ w.grownBy w' v.ownBlock ∧ v'.ownBlock = v.ownBlock
set_option maxRecDepth 100000 in
set_option maxHeartbeats 6400000 in
theorem deleteVoid_any (v : Value) (B N : Nat) (L : List Rg) (w : World) (h : OwnRgs w B v L) (hN : L.length = N) (hn : N ≤ 1000000) :
    Calls Try.prog 48 #[v, .func (.func 14) #[] #[]] w (DelPostR B v (fulls L) w) := by
  obtain ⟨A, c, rfl, hc, hm, hx⟩ := h.slice
  have Hi := Lib.hid (indexVoid_any A L.length c _ L w hx (Nat.le_refl _) (by omega))
  have H := Lib.hid h
  have HN := Lib.hid hN
  have Hcall := Lib.hid empty_any
  unfold ragg at Hcall
  rw [hN] at H Hi hc ⊢
  unfold maxLen at hm
  clear h hx hN
  go_enter Try.func48, Try.ntmps48
  go_wp2_with fail
  refine Hi.out.mono ?_
  rintro e w1 ⟨hb1, ⟨rfl, hall⟩ | ⟨i0, c0, rfl, hc0, hg0, hbefore⟩⟩
  · have HE : Hid (DelPostR B (.slice A N c) (fulls L) w (.returned (.slice A N c)) w1) := Lib.hid ⟨_, rfl, by rw [fulls_none hall]; exact H.out.below hb1, ⟨hb1.os, hb1.tape, hb1.output, hb1.size, fun i hi _ => hb1.block i hi⟩, rfl⟩
    clear hb1 hall
    go_wp2
    go_ret
    exact HE.out
  · have hi0 := (List.getElem?_eq_some_iff.1 hc0).1
    have hiN : i0 < N := by have := HN.out; omega
    have Ho1 : Hid (OwnRgs w1 B (.slice A N c) L) := Lib.hid (H.out.below hb1)
    obtain ⟨g, rfl, hBg⟩ := own_head (m := N) (size := 2) (e := 23) (by have h1 := Ho1.out; unfold OwnRgs at h1; rw [HN.out] at h1; exact h1) (by omega)
    have Hst : Hid (fulls (L.take (i0 + 1)) = L.take i0 ∧ (L.take i0).length = i0) := Lib.hid ⟨by rw [fulls_take hc0, hg0, fulls_none hbefore]; simp, by rw [List.length_take]; omega⟩
    have Hxs : Hid (w1.ownsRow B 23 2 (.slice (some ⟨g, 0, none⟩) N c) N (rgCells L)) := Lib.hid (by have h1 := Ho1.out; unfold OwnRgs at h1; rwa [HN.out] at h1)
    have HG1 : Hid (w.grownBy w1 (some g)) := Lib.hid ⟨hb1.os, hb1.tape, hb1.output, hb1.size, fun i hi _ => hb1.block i hi⟩
    have hne : ((i0 : Int) == -1) = false := by simp
    have hne2 : ¬ ((i0 : Int) = -1) := by omega
    clear hb1 hc0 hg0 hbefore Ho1
    go_wp2
    go_loopw [5, 6, 7] (fun iv jv _ wr => ∃ (i j : Nat) (xs : List Value), iv = .int .i64 (i : Int) ∧ jv = .int .i64 (j : Int) ∧ i < j ∧ j ≤ N ∧ wr.ownsRow B 23 2 (.slice (some ⟨g, 0, none⟩) N c) N xs ∧ Hid (xs.take (i * 2) = rgCells (fulls (L.take j)) ∧ (fulls (L.take j)).length = i ∧ xs.drop (j * 2) = rgCells (L.drop j)) ∧ w.grownBy wr (some g)) (fun _ jv _ _ => N - (intOf jv).toNat)
    case atStart => exact ⟨i0, i0 + 1, rgCells L, rfl, by go_num, by omega, by omega, Hxs.out, Lib.hid ⟨by rw [Hst.out.1, rgCells_take], by rw [Hst.out.1]; exact Hst.out.2, rgCells_drop _ _⟩, HG1.out⟩
    case round =>
      obtain ⟨i, j, xs, rfl, rfl, hij, hjN, hown, Hp, hG⟩ := hrel
      have Hown := Lib.hid hown
      have HG := Lib.hid hG
      have hgw := (hown.lt g rfl).2
      have hxl : xs.length = N * 2 := hown.1
      clear hown hG Hxs HG1
      by_cases hlt : j < N
      · obtain ⟨y, hy⟩ : ∃ y, L[j]? = some y := ⟨_, List.getElem?_eq_getElem (by have := HN.out; omega)⟩
        obtain ⟨hd, x0, x1⟩ := dropR_next Hp.out.2.2 hy
        have Hd := Lib.hid hd
        have Hlt := Lib.hid (fulls_take hy)
        have p0 := (Hown.out.cellAt (j * 2) (by omega)).trans x0
        have p1 := (Hown.out.cellAt (j * 2 + 1) (by omega)).trans x1
        obtain ⟨yk, yv⟩ := y
        simp only at p0 p1 Hlt
        have hj0 : (0 : Int) ≤ (j : Int) := by omega
        have hj1 : (j : Int) < (N : Int) := by omega
        have hi0' : (0 : Int) ≤ (i : Int) := by omega
        have hi1' : (i : Int) < (N : Int) := by omega
        have Hc1 := Lib.hid (fun wx => Hcall.out ⟨yk, yv⟩ wx)
        simp only at Hc1
        obtain ⟨yg, hyg⟩ : ∃ yg, decide (emptyR ⟨yk, yv⟩) = yg := ⟨_, rfl⟩
        rw [hyg] at Hc1
        have Hyg : Hid (vo ⟨yk, yv⟩ = yg) := Lib.hid hyg
        rw [Hyg.out] at Hlt
        clear hy hd x0 x1 hyg
        cases yg with
        | true =>
          rw [if_pos rfl, List.append_nil] at Hlt
          go_wp2_with fail
          refine (Hc1.out _).mono ?_
          rintro e w2 ⟨rfl, hb2⟩
          have hb3 : Below wr.heap.size wr w2 := (below_box _).trans (hb2.mono (by simp))
          have Ho2 := Lib.hid (own_belowN Hown.out hb3)
          have HG2 : Hid (w.grownBy w2 (some g)) := Lib.hid (grownR_trans HG.out ⟨hb3.os, hb3.tape, hb3.output, hb3.size, fun q hq _ => hb3.block q hq⟩)
          clear hb2 hb3
          go_wp2
          go_roundw
          case rel => exact ⟨i, j + 1, xs, rfl, by go_num, by omega, by omega, Ho2.out, Lib.hid ⟨by rw [Hlt.out]; exact Hp.out.1, by rw [Hlt.out]; exact Hp.out.2.1, Hd.out⟩, HG2.out⟩
          case measure => simp [intOf]; omega
        | false =>
          rw [if_neg (by simp)] at Hlt
          go_wp2_with fail
          refine (Hc1.out _).mono ?_
          rintro e w2 ⟨rfl, hb2⟩
          have hb3 : Below wr.heap.size wr w2 := (below_box _).trans (hb2.mono (by simp))
          have Ho2 := Lib.hid (own_belowN Hown.out hb3)
          have HG2 : Hid (w.grownBy w2 (some g)) := Lib.hid (grownR_trans HG.out ⟨hb3.os, hb3.tape, hb3.output, hb3.size, fun q hq _ => hb3.block q hq⟩)
          have hbx := (Box.made wr 23 #[.string yk, .string yv]).below hb2 (by simp)
          have b0 := hbx.cell 0
          have b1 := hbx.cell 1
          have s1 := Ho2.out.stored (i * 2) (.string yk)
          obtain ⟨u0, e0⟩ : ∃ u, w2.cell? ⟨g, i * 2, none⟩ = some u := ⟨_, (Ho2.out.cellAt (i * 2) (by omega)).trans (List.getElem?_eq_getElem (by omega))⟩
          obtain ⟨u1, e1⟩ : ∃ u, (w2.setCell ⟨g, i * 2, none⟩ (.string yk)).cell? ⟨g, i * 2 + 1, none⟩ = some u := ⟨_, (s1.1.cellAt (i * 2 + 1) (by omega)).trans (List.getElem?_eq_getElem (by rw [List.length_set]; omega))⟩
          have f0 := Ho2.out.frozenAt (i * 2)
          have f1 := s1.1.frozenAt (i * 2 + 1)
          have hst := setCells_ownR [.string yk, .string yv] (i * 2) w2 xs Ho2.out (by simp; omega)
          have Hst3 : Hid (((w2.setCell ⟨g, i * 2, none⟩ (.string yk)).setCell ⟨g, i * 2 + 1, none⟩ (.string yv)).ownsRow B 23 2 (.slice (some ⟨g, 0, none⟩) N c) N (xs.take (i * 2) ++ ([.string yk, .string yv] ++ xs.drop (i * 2 + 2)))) := Lib.hid hst.1
          have HG3 : Hid (w.grownBy ((w2.setCell ⟨g, i * 2, none⟩ (.string yk)).setCell ⟨g, i * 2 + 1, none⟩ (.string yv)) (some g)) := Lib.hid (grownR_trans HG2.out hst.2)
          have Hx := Lib.hid hxl
          have hgr : ¬ (wr.heap.size = g) := by omega
          clear hb2 hb3 hbx s1 hst Ho2 hxl
          go_wp2
          go_roundw
          case rel => exact ⟨i + 1, j + 1, _, by go_num, by go_num, by omega, by omega, Hst3.out, Lib.hid ⟨by rw [put2_take Hx.out (by omega), Hlt.out, rgCells_app, Hp.out.1]; rfl, by rw [Hlt.out, List.length_append, Hp.out.2.1]; rfl, by rw [put2_drop Hx.out (by omega) (by omega)]; exact Hd.out⟩, HG3.out⟩
          case measure => simp [intOf]; omega
      · obtain rfl : j = N := by omega
        have HL : Hid (fulls (L.take j) = fulls L) := Lib.hid (by rw [List.take_of_length_le (by have := HN.out; omega)])
        have hcl : ∀ ty, (Builtin.clear_ #[26] ty #[.slice (some ⟨g, i * 2, none⟩) (j - i) (c - i)]).run Try.prog wr = .ok (.tuple #[]) (wr.setCells g (i * 2) (Builtin.zeroCells (Value.agg #[.string ⟨#[]⟩, .string ⟨#[]⟩]).cells (j - i)).toList) := fun ty =>
          clear_rgs wr ty g (i * 2) (j - i) (c - i) (by omega) (fun k hk => by rw [Hown.out.cellAt (i * 2 + k) (by omega), List.getElem?_eq_getElem (by omega)]; rfl) (fun k hk => Hown.out.frozenAt (i * 2 + k))
        have hzl : (Builtin.zeroCells (Value.agg #[.string ⟨#[]⟩, .string ⟨#[]⟩]).cells (j - i)).toList.length = (j - i) * 2 := by rw [Array.length_toList, size_zeroCells]; rfl
        obtain ⟨zs, hzs⟩ : ∃ zs, (Builtin.zeroCells (Value.agg #[.string ⟨#[]⟩, .string ⟨#[]⟩]).cells (j - i)).toList = zs := ⟨_, rfl⟩
        simp only [hzs] at hcl hzl
        obtain ⟨hw1, hw2⟩ := setCells_ownR zs (i * 2) wr xs Hown.out (by omega)
        have hsh := own_shorterR hw1 (n' := i) (by omega)
        rw [List.take_left' (by rw [List.length_take]; omega)] at hsh
        have HE : Hid (DelPostR B (.slice (some ⟨g, 0, none⟩) j c) (fulls L) w (.returned (.slice (some ⟨g, 0, none⟩) i c)) (wr.setCells g (i * 2) zs)) := Lib.hid ⟨_, rfl, by
          unfold OwnRgs
          rw [← HL.out, Hp.out.2.1, ← Hp.out.1]
          exact hsh, grownR_trans HG.out hw2, rfl⟩
        have hic : ¬ (c = i) := by omega
        have hij2 : i ≤ j := by omega
        clear hzl hzs hw1 hw2 hsh hxl
        go_wp2_with (simp only [hcl])
        go_ret
        exact HE.out
end Go.Proofs.Ytijcaefpainhcaa
