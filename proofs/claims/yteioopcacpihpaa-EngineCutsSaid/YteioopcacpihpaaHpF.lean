/- pushRest lays a rest into the heap, if anything of it is left. Condition: the heap is in memory. -/
import Derived.Test.YteioopcacpihpaaHpE
import Derived.Test.YteioopcacpihpaaSpecMerge
import Derived.StillTailTactics
namespace Go.Proofs.Yteioopcacpihpaa
open Go.RowKit
open Go.Lib (strCells compareBytes)

set_option maxRecDepth 100000 in
set_option maxHeartbeats 1600000 in
theorem pushRest_any {w : World} {C hb : Nat} {v : Value} {L : List Rst} (h : HpSt w C hb v L) (A : Option Addr) (n c : Nat) (cs : List Chg) (r : Nat) (hx : HasChs w C A n cs) (hnc : n ≤ c) (hcm : c ≤ maxLen) (hL : L.length ≤ 99000) (hh : IsHeap ltR (gl L) L.length) :
    Calls Try.prog 77 #[.pointer (some ⟨hb, 0, none⟩), .slice A n c, .int .i64 (r : Int)] w fun e w' => e = .returned (.tuple #[]) ∧ PutPost C hb (if cs = [] then L else L ++ [⟨.slice A n c, cs, r⟩]) w w' := by
  have hl := hx.1
  by_cases hn : n = 0
  · have hcs : cs = [] := List.eq_nil_of_length_eq_zero (by omega)
    rw [if_pos hcs]
    have HE : Hid (PutPost C hb L w w) := Lib.hid ⟨v, L, h, HKeep.refl _ _, List.Perm.refl _, hh⟩
    clear h hx hh hl hcs
    subst hn
    go_enter Try.func77, Try.ntmps77
    go_wp2
    go_end0
    exact ⟨rfl, HE.out⟩
  · have hcs : ¬ cs = [] := fun e => hn (by rw [← hl, e]; rfl)
    rw [if_neg hcs]
    have Hp := Lib.hid (hpush_any h ⟨.slice A n c, cs, r⟩ ⟨A, n, c, rfl, hnc, hcm, hx, hcs⟩ hL hh)
    have hpos : 0 < n := by omega
    clear h hx hh hl hcs hn
    go_enter Try.func77, Try.ntmps77
    go_wp2_with fail
    refine Hp.out.mono ?_
    rintro e w2 ⟨rfl, h2⟩
    have H2 := Lib.hid h2
    clear h2
    go_wp2
    go_end0
    exact ⟨rfl, H2.out⟩

theorem HeapOf.add {L : List Rst} {R : Nat → List Chg} {k : Nat} (h : HeapOf L R k) (v : Value) {l : List Chg} (hl : R k = l) : HeapOf (if l = [] then L else L ++ [⟨v, l, k⟩]) R (k + 1) := by
  subst hl
  have hold : ∀ x ∈ L, x.r < k + 1 ∧ x.cs = R x.r ∧ x.cs ≠ [] := fun x hx => by
    obtain ⟨h1, h2, h3⟩ := h.mem x hx
    exact ⟨by omega, h2, h3⟩
  by_cases e : R k = []
  · rw [if_pos e]
    refine ⟨hold, fun r hr hR => ?_, h.nod⟩
    by_cases e2 : r = k
    · subst e2; exact absurd e hR
    · exact h.all r (by omega) hR
  · rw [if_neg e]
    refine ⟨fun x hx => ?_, fun r hr hR => ?_, ?_⟩
    · rcases List.mem_append.1 hx with hx | hx
      · exact hold x hx
      · simp at hx
        subst hx
        exact ⟨by dsimp only; omega, rfl, e⟩
    · by_cases e2 : r = k
      · exact ⟨⟨v, R k, k⟩, by simp, e2.symm⟩
      · obtain ⟨x, hx, e3⟩ := h.all r (by omega) hR
        exact ⟨x, List.mem_append_left _ hx, e3⟩
    · rw [List.map_append, List.nodup_append]
      refine ⟨h.nod, by simp, fun a ha b hb => ?_⟩
      simp at hb
      subst hb
      obtain ⟨y, hy, rfl⟩ := List.mem_map.1 ha
      have := (h.mem y hy).1
      omega
/-- how many changes some lists have -/
def sumL (L : List (List Chg)) : Nat := (L.map List.length).sum
theorem sumL_take {L : List (List Chg)} {k : Nat} {l : List Chg} (h : L[k]? = some l) : sumL (L.take (k + 1)) = sumL (L.take k) + l.length := by
  rw [List.take_add_one, h]
  simp [sumL]
theorem sumL_le {L : List (List Chg)} {b : Nat} (h : ∀ l ∈ L, l.length ≤ b) : sumL L ≤ b * L.length := by
  induction L with
  | nil => simp [sumL]
  | cons l L ih =>
    have h1 := ih fun x hx => h x (List.mem_cons_of_mem _ hx)
    have h2 := h l (by simp)
    simp only [sumL, List.map_cons, List.sum_cons, List.length_cons, Nat.mul_add] at h1 ⊢
    omega
def cellLen : Option Value → Nat
  | some (.slice _ n _) => n
  | _ => 0
/-- how many changes the heap's rests have, as the memory tells it -/
def heapLeft (w : World) (hb : Nat) : Nat := match w.cell? ⟨hb, 0, none⟩ with
  | some (.slice (some a) n _) => ((List.range n).map fun i => cellLen (w.cell? (a.add (i * 2)))).sum
  | _ => 0
theorem HpSt.left {w : World} {C hb : Nat} {v : Value} {L : List Rst} (h : HpSt w C hb v L) : heapLeft w hb = left L := by
  obtain ⟨A, c, rfl, -, -, hr⟩ := h.slice
  unfold heapLeft
  rw [h.cell]
  by_cases h0 : L.length = 0
  · have e : L = [] := List.eq_nil_of_length_eq_zero h0
    subst e
    cases A <;> simp [Go.Proofs.Yteioopcacpihpaa.left]
  · obtain ⟨a, rfl, -, -, -⟩ := rst_at hr (i := 0) (by omega)
    show ((List.range L.length).map fun i => cellLen (w.cell? (a.add (i * 2)))).sum = (L.map (·.cs.length)).sum
    congr 1
    refine List.ext_getElem (by simp) fun i h1 h2 => ?_
    have hi : i < L.length := by simpa using h2
    obtain ⟨a', e, -, c0, -⟩ := rst_at hr hi
    injection e with e
    subst e
    obtain ⟨A1, n1, c1, ev, -, -, hx, -⟩ := h.has _ (gl_mem hi)
    have hg : gl L i = L[i] := by simp [gl, hi]
    rw [hg] at c0 ev hx
    simp only [List.getElem_map, List.getElem_range, c0, ev, cellLen]
    exact hx.1.symm
theorem OwnChs.heap {w w' : World} {B C : Nat} {v : Value} {l : List Chg} (h : OwnChs w B v l) (k : HKeep C w w') : OwnChs w' B v l := by
  refine ⟨h.1, ?_⟩
  rcases h.2 with hn | ⟨g, cap, cur, hv, hB, hg, rest⟩
  · exact .inl hn
  · exact .inr ⟨g, cap, cur, hv, hB, (k.other g _ _ _ hg (by decide) (by decide)).trans hg, rest⟩
/-- the heap stays where a row of changes grows -/
theorem HpSt.other {w w' : World} {C hb B m : Nat} {v u : Value} {L : List Rst} {xs : List Value} (h : HpSt w C hb v L) (ho : w.ownsRow B 38 3 u m xs) (hB : C ≤ B) (hg : w.grownBy w' u.ownBlock) : HpSt w' C hb v L := by
  have hne : ∀ i cs t m', w.heap[i]? = some (Obj.cells cs t m') → t ≠ 38 → w'.heap[i]? = w.heap[i]? := fun i cs t m' e h1 => hg.block i (Array.getElem?_eq_some_iff.1 e).1 fun e' => by
    obtain ⟨cur, hc⟩ := own_typeR ho e'.symm
    rw [e] at hc
    injection hc with hc
    injection hc with _ hc _
    exact h1 hc
  have hbel : Below C w w' := (Below.refl C w).grown hg h.size fun k e => Nat.le_trans hB (ho.lt k e).1
  refine ⟨h.hC, (hne hb _ _ _ h.box (by decide)).trans h.box, ⟨h.own.1, ?_⟩, fun x hx => ?_⟩
  · rcases h.own.2 with hn | ⟨g, cap, cur, hv, hB', hh, rest⟩
    · exact .inl hn
    · exact .inr ⟨g, cap, cur, hv, hB', (hne g _ _ _ hh (by decide)).trans hh, rest⟩
  · obtain ⟨A, n, c, e, h1, h2, h3, h4⟩ := h.has x hx
    exact ⟨A, n, c, e, h1, h2, h3.belowOf hbel (Nat.le_refl _), h4⟩
theorem HpSt.made (w : World) {C : Nat} (hC : C ≤ w.heap.size) : HpSt ((w.alloc (.cells #[] 116)).alloc (.cells #[.slice (some ⟨w.heap.size, 0, none⟩) 0 0] 113)) C (w.heap.size + 1) (.slice (some ⟨w.heap.size, 0, none⟩) 0 0) [] := by
  refine ⟨by omega, ?_, ?_, by simp⟩
  · have := Box.made (w.alloc (.cells #[] 116)) 113 #[.slice (some ⟨w.heap.size, 0, none⟩) 0 0]
    rwa [World.size_alloc] at this
  · refine ⟨rfl, .inr ⟨w.heap.size, 0, #[], rfl, hC, ?_, Nat.le_refl _, by simp [maxLen], rfl, rfl⟩⟩
    exact (Box.made w 116 #[]).alloc _
/-- what is left behind the first change -/
theorem HasChs.tail {w : World} {B m cx : Nat} {a : Addr} {c : Chg} {cs : List Chg} (h : HasChs w B (some a) m (c :: cs)) (hm : m ≤ cx) : HasChs w B (if cx = 1 then some a else some ⟨a.block, a.off + 3, none⟩) (m - 1) cs := by
  have hl := h.1
  simp at hl
  by_cases e : cx = 1
  · have : cs = [] := List.eq_nil_of_length_eq_zero (by omega)
    subst this
    rw [show m - 1 = 0 by simp at hl; omega]
    exact HasChs.nil _ _ _
  · rw [if_neg e]
    have := h.part (k := 1) (by omega)
    simpa [Addr.add] using this

set_option maxRecDepth 100000 in
set_option maxHeartbeats 6400000 in
theorem merged_any (A : Option Addr) (n c C : Nat) (rs : Crs) (w : World) (h : HasCrs w C A n rs) (hC : C ≤ w.heap.size) (hn : n ≤ 99000) (T : Nat) (hT : T ≤ 1000000) (hr : ∀ r ∈ crLists rs, Run r) (ht : sumL (crLists rs) ≤ T) (hs : ∀ r ∈ crLists rs, ∀ x ∈ r, x.k.size ≤ 140737488355328 ∧ x.v.size ≤ 140737488355328) :
    Calls Try.prog 52 #[.slice A n c] w (GivesC w.heap.size (mergeL (crLists rs)) w) := by
  have H := Lib.hid h
  have HC := Lib.hid hC
  have Hr := Lib.hid hr
  have Hs := Lib.hid hs
  have Hl : Hid ((crLists rs).length = n) := Lib.hid (by rw [crLists_len]; exact h.len)
  have Hmade := Lib.hid (HpSt.made w (Nat.le_refl w.heap.size))
  have Hb0 : Hid (Below w.heap.size w ((w.alloc (.cells #[] 116)).alloc (.cells #[.slice (some ⟨w.heap.size, 0, none⟩) 0 0] 113))) := Lib.hid ((below_box _).alloc (by simp) _)
  have Ht := Lib.hid ht
  clear h hC hr hs ht
  go_enter Try.func52, Try.ntmps52
  go_wp2
  go_loopw [4, 5, 13] (fun _ _ i wr => ∃ (k : Nat) (v : Value) (L : List Rst), k ≤ n ∧ i = .int .i64 (k : Int) ∧ HpSt wr w.heap.size (w.heap.size + 1) v L ∧ Hid (L.length ≤ k ∧ IsHeap ltR (gl L) L.length ∧ HeapOf L (fun r => (crLists rs)[r]?.getD []) k ∧ left L ≤ sumL ((crLists rs).take k)) ∧ Below w.heap.size w wr) (fun _ _ i _ => n - (intOf i).toNat)
  case atStart => exact ⟨0, _, [], by omega, rfl, Hmade.out, Lib.hid ⟨by simp, fun i h0 hi => by simp at hi, ⟨by simp, fun r hr => by omega, by simp⟩, by simp [left]⟩, Hb0.out⟩
  case round =>
    obtain ⟨k, v, L, hk, rfl, h, HL, hb⟩ := hrel
    have Hh := Lib.hid h
    have Hb := Lib.hid hb
    clear h hb
    by_cases hlt : k < n
    · obtain ⟨a, A1, m1, c1, l, rfl, hab, hg, h1, h2, h3, d0, -⟩ := (H.out.belowOf Hb.out HC.out).at_ hlt
      have Hg := Lib.hid hg
      have Hpush := Lib.hid (pushRest_any Hh.out A1 m1 c1 l k (h3.more HC.out) h1 h2 (by have := HL.out.1; omega) HL.out.2.1)
      clear hg h3 h2 h1
      go_wp2_with fail
      refine Hpush.out.mono ?_
      rintro e w2 ⟨rfl, v2, L2, h2, k2, p2, i2⟩
      have H2 := Lib.hid h2
      have HL2 : Hid (L2.length ≤ k + 1 ∧ IsHeap ltR (gl L2) L2.length ∧ HeapOf L2 (fun r => (crLists rs)[r]?.getD []) (k + 1) ∧ left L2 ≤ sumL ((crLists rs).take (k + 1))) := Lib.hid ⟨by
        rw [p2.length_eq]
        have := HL.out.1
        split
        · omega
        · simp; omega, i2, (HL.out.2.2.1.add (.slice A1 m1 c1) (l := l) (by simp [Hg.out])).perm p2, by
        rw [left_perm p2]
        have h1 := HL.out.2.2.2
        have h3 := sumL_take Hg.out
        split
        · omega
        · simp only [left, List.map_append, List.sum_append, List.map_cons, List.map_nil, List.sum_cons, List.sum_nil] at h1 ⊢; omega⟩
      have Hb2 := Lib.hid (Hb.out.trans k2.below)
      clear h2 k2 p2 i2
      go_wp2
      go_roundw
      case rel => exact ⟨k + 1, v2, L2, by omega, by go_num, H2.out, HL2, Hb2.out⟩
      case measure => simp [intOf]; omega
    · obtain rfl : k = n := by omega
      have HM := Lib.hid (Merging.start Hr.out)
      obtain ⟨R, hR⟩ : ∃ R : Nat → List Chg, (fun r => (crLists rs)[r]?.getD []) = R := ⟨_, rfl⟩
      have HSm : Hid (∀ r, ∀ d ∈ R r, d.k.size ≤ 140737488355328 ∧ d.v.size ≤ 140737488355328) := Lib.hid (by
        rw [← hR]
        intro r d hd
        cases e : (crLists rs)[r]? with
        | none => simp [e] at hd
        | some l => simp [e] at hd; exact Hs.out l (List.mem_of_getElem? e) d hd)
      rw [hR] at HM HL
      have hta := fun v w => run_assert_struct (s := 20) Try.underlying116 v w
      clear hR hlt
      generalize wr = wa at *
      go_wp2
      go_loopw [6, 7, 8] (fun o _ _ wr => ∃ (v : Value) (L : List Rst) (R : Nat → List Chg) (M : List Chg), HpSt wr w.heap.size (w.heap.size + 1) v L ∧ OwnChs wr w.heap.size o M ∧ Hid (L.length ≤ k ∧ IsHeap ltR (gl L) L.length ∧ HeapOf L R (crLists rs).length ∧ Merging (crLists rs) M R ∧ (∀ r, ∀ d ∈ R r, d.k.size ≤ 140737488355328 ∧ d.v.size ≤ 140737488355328) ∧ M.length + left L ≤ T) ∧ Below w.heap.size w wr) (fun _ _ _ wr => heapLeft wr (w.heap.size + 1))
      case atStart => exact ⟨v, L, R, [], Hh.out, OwnChs.nil _ _, Lib.hid ⟨HL.out.1, HL.out.2.1, by rw [Hl.out]; exact HL.out.2.2.1, HM.out, HSm.out, by have h1 := HL.out.2.2.2; have h2 := Ht.out; rw [List.take_of_length_le (by have := Hl.out; omega)] at h1; simp; omega⟩, Hb.out⟩
      case round =>
        clear HM HL HSm
        obtain ⟨v, L, R, M, h, ho, HL, hb⟩ := hrel
        have Hh := Lib.hid h
        have Hb := Lib.hid hb
        have Ho := Lib.hid ho
        have Hleft := Lib.hid h.left
        obtain ⟨Av, cv, rfl, -, -, -⟩ := h.slice
        have hc0 := h.cell
        clear h hb ho
        by_cases h0 : L.length = 0
        · have e : L = [] := List.eq_nil_of_length_eq_zero h0
          subst e
          have E := Lib.hid (HL.out.2.2.2.1.stop Hr.out HL.out.2.2.1)
          simp only [List.length_nil] at hc0
          go_wp2_with fail
          refine (len_any _ _ _ _).mono ?_
          rintro e w2 ⟨rfl, rfl⟩
          go_wp2
          go_ret
          exact ⟨_, rfl, by rw [← E.out]; exact Ho.out, Hb.out⟩
        · have Hpop := Lib.hid (hpop_any Hh.out (by omega) (by have := HL.out.1; omega) HL.out.2.1)
          have hpos : 0 < L.length := by omega
          clear h0
          go_wp2_with fail
          refine (len_any _ _ _ _).mono ?_
          rintro e w2 ⟨rfl, rfl⟩
          go_wp2_with fail
          refine Hpop.out.mono ?_
          rintro e w2 ⟨x, L', rfl, hp, hmin, v2, L2, h2, k2, p2, i2⟩
          have hxL : x ∈ L := hp.mem_iff.2 (by simp)
          obtain ⟨Ax, mx, cx, hxv, hx1, hx2, hx3, hx4⟩ := Hh.out.has x hxL
          obtain ⟨y, cs, hcs⟩ : ∃ y cs, x.cs = y :: cs := by
            cases e : x.cs with
            | nil => exact absurd e hx4
            | cons y cs => exact ⟨y, cs, rfl⟩
          rw [hcs] at hx3
          have hmx : 0 < mx := by have := hx3.1; simp at this; omega
          obtain ⟨ax, y', rfl, hxb, hy', -, -, -⟩ := hx3.at_ hmx
          simp at hy'
          subst hy'
          rw [hxv]
          have hsz2 : w.heap.size ≤ w2.heap.size := h2.size
          have Hx2 := Lib.hid ((hx3.belowOf k2.below (Nat.le_refl _)).tail hx1)
          have Hy2 := Lib.hid (hx3.belowOf k2.below (Nat.le_refl _))
          obtain ⟨ax', y', e', -, hy', c0, c1, c2⟩ := Hy2.out.at_ hmx
          injection e' with e'
          subst e'
          simp at hy'
          subst hy'
          have ea : ax.add (0 * 3) = ax := by simp [Addr.add]
          rw [ea] at c0 c1 c2
          have d0 : (w2.alloc (Obj.cells #[.slice (some ax) mx cx, .int .i64 (x.r : Int)] 116)).cell? ax = some (.string y.k) := ((below_box _).cell (by omega)).trans c0
          have d1 : (w2.alloc (Obj.cells #[.slice (some ax) mx cx, .int .i64 (x.r : Int)] 116)).cell? ⟨ax.block, ax.off + 1, none⟩ = some (.string y.v) := ((below_box _).cell (p := ⟨ax.block, ax.off + 1, none⟩) (by show ax.block < _; omega)).trans c1
          have d2 : (w2.alloc (Obj.cells #[.slice (some ax) mx cx, .int .i64 (x.r : Int)] 116)).cell? ⟨ax.block, ax.off + 2, none⟩ = some (.bool y.g) := ((below_box _).cell (p := ⟨ax.block, ax.off + 2, none⟩) (by show ax.block < _; omega)).trans c2
          have hyk : y.k.size ≤ 140737488355328 ∧ y.v.size ≤ 140737488355328 := by
            have h1 := HL.out.2.2.2.2.1 x.r y (by rw [← (HL.out.2.2.1.mem x hxL).2.1, hcs]; simp)
            omega
          have Hw4 : Hid (Below w2.heap.size w2 ((w2.alloc (Obj.cells #[.slice (some ax) mx cx, .int .i64 (x.r : Int)] 116)).alloc (Obj.cells #[.string y.k, .string y.v, .bool y.g] 38))) := Lib.hid ((below_box _).alloc (by simp) _)
          have Ho2 := Lib.hid ((Ho.out.heap k2).below Hw4.out)
          have H4 := Lib.hid (h2.below Hw4.out)
          have Hb4 := Lib.hid ((Hb.out.trans k2.below).trans (Hw4.out.mono hsz2))
          have Hx4 := Lib.hid (Hx2.out.belowOf (Hw4.out.mono hsz2) (Nat.le_refl _))
          have Hbx : Hid (Box ((w2.alloc (Obj.cells #[.slice (some ax) mx cx, .int .i64 (x.r : Int)] 116)).alloc (Obj.cells #[.string y.k, .string y.v, .bool y.g] 38)) w2.heap.size 116 #[.slice (some ax) mx cx, .int .i64 (x.r : Int)]) := Lib.hid ((Box.made _ _ _).alloc _)
          have Hby : Hid (Box ((w2.alloc (Obj.cells #[.slice (some ax) mx cx, .int .i64 (x.r : Int)] 116)).alloc (Obj.cells #[.string y.k, .string y.v, .bool y.g] 38)) (w2.heap.size + 1) 38 #[.string y.k, .string y.v, .bool y.g]) := Lib.hid (by have := Box.made (w2.alloc (Obj.cells #[.slice (some ax) mx cx, .int .i64 (x.r : Int)] 116)) 38 #[.string y.k, .string y.v, .bool y.g]; rwa [World.size_alloc] at this)
          have Hleft2 : Hid (left L = cs.length + 1 + left L2) := Lib.hid (by rw [left_perm hp, left_perm p2]; simp only [left, List.map_cons, List.sum_cons, hcs, List.length_cons])
          have HL2 : Hid (L2.length + 1 ≤ k ∧ IsHeap ltR (gl L2) L2.length) := Lib.hid ⟨by have h1 := hp.length_eq; have h3 := HL.out.1; rw [List.length_cons] at h1; rw [p2.length_eq]; omega, i2⟩
          have Hho : Hid (∀ v', HeapOf (if cs = [] then L2 else L2 ++ [⟨v', cs, x.r⟩]) (restR R x.r cs) (crLists rs).length) := Lib.hid fun v' => (HL.out.2.2.1.next hp v').perm (by split; exact p2; exact p2.append_right _)
          have Hskip := Lib.hid (fun (b : Chg) (hb : M.getLast? = some b) (hk : b.kb = y.kb) => HL.out.2.2.2.1.skip HL.out.2.2.1 hp hmin hcs hb hk)
          have Htake := Lib.hid (fun (hb : ∀ b, M.getLast? = some b → b.kb ≠ y.kb) => HL.out.2.2.2.1.take HL.out.2.2.1 hp hmin hcs hb)
          have Hmx := Lib.hid (And.intro hx1 hx2)
          have Hsmall := Lib.hid HL.out.2.2.2.2.1
          have Hlen6 : Hid (M.length + left L ≤ T) := Lib.hid HL.out.2.2.2.2.2
          have Hsub := Lib.hid (fun r d => (HL.out.2.2.2.1.rests (c := y) (cs := cs) ((HL.out.2.2.1.mem x hxL).2.1.symm.trans hcs) (HL.out.2.2.1.mem x hxL).1).2 r d)
          obtain ⟨Ao, co, ho, -, -, hvo⟩ := Ho2.out.slice
          subst ho
          obtain ⟨N, hN⟩ : ∃ N, M.length = N := ⟨_, rfl⟩
          rw [hN] at Ho2 hvo ⊢
          have HN := Lib.hid hN
          have hmc : mx ≤ cx := hx1
          clear hN
          clear h2 k2 p2 i2 hxL hx1 hx2 hx3 hx4 hcs hp hmin hxb HL hxv
          have Hsm : Hid (∀ r, ∀ d ∈ restR R x.r cs r, d.k.size ≤ 140737488355328 ∧ d.v.size ≤ 140737488355328) := Lib.hid fun r d hd => Hsmall.out r d (Hsub.out r d hd)
          by_cases hM : N = 0
          · subst hM
            have Hnk : Hid (∀ b, M.getLast? = some b → b.kb ≠ y.kb) := Lib.hid (by rw [List.eq_nil_of_length_eq_zero HN.out]; simp)
            have Hc5 := Lib.hid (fun wx => cloneC_any y wx hyk.1 hyk.2)
            have hb0 := Hby.out.cell 0
            have hb1 := Hby.out.cell 1
            have hb2 := Hby.out.cell 2
            go_wp2
            go_quiet (fail)
            go_wp2_with fail
            refine (Hc5.out _).mono ?_
            rintro e w5 ⟨rfl, hb5⟩
            unfold cagg
            have Hb5 : Hid (Below ((w2.alloc (Obj.cells #[.slice (some ax) mx cx, .int .i64 (x.r : Int)] 116)).alloc (Obj.cells #[.string y.k, .string y.v, .bool y.g] 38)).heap.size ((w2.alloc (Obj.cells #[.slice (some ax) mx cx, .int .i64 (x.r : Int)] 116)).alloc (Obj.cells #[.string y.k, .string y.v, .bool y.g] 38)) w5) := Lib.hid ((below_dr (Below.refl _ _) _).trans hb5)
            clear hb5
            have hsz5 : w.heap.size ≤ w5.heap.size := Nat.le_trans Hb4.out.size Hb5.out.size
            have Ho5 := Lib.hid (Ho2.out.below Hb5.out)
            have hsz5b : w.heap.size ≤ (w5.alloc (Obj.cells #[.string y.k, .string y.v, .bool y.g] 38)).heap.size := by simp only [World.size_alloc]; omega
            go_wp2_with (at_builtin; refine wpList_append_hasN rfl (.tmp 51) (.tmp 54) _ rfl 38 chg_elem (by omega) Try.underlying22 rfl (own_belowN Ho5.out (below_box _)) rfl (chg_lit _ ⟨y.k, y.v, y.g⟩) (chgCells_one _) (by have := Hlen6.out; simp only [maxLen]; omega) (by have := Hlen6.out; omega) hsz5b ?_; intro v6 w6 hown6 hg6 _)
            have H5a := (H4.out.below Hb5.out).below (below_box (Obj.cells #[.string y.k, .string y.v, .bool y.g] 38))
            have Ho5a : OwnChs (w5.alloc (Obj.cells #[.string y.k, .string y.v, .bool y.g] 38)) _ _ M := Ho5.out.below (below_box _)
            have H6 := Lib.hid (H5a.other Ho5a (Nat.le_refl _) hg6)
            have hbel6 : Below w.heap.size (w5.alloc (Obj.cells #[.string y.k, .string y.v, .bool y.g] 38)) w6 := (Below.refl _ _).grown hg6 hsz5b fun g e => (Ho5a.lt g e).1
            have Hb6 := Lib.hid ((Hb4.out.trans ((Hb5.out.mono Hb4.out.size).trans ((below_box (Obj.cells #[.string y.k, .string y.v, .bool y.g] 38)).mono hsz5))).trans hbel6)
            have Hx6 := Lib.hid (Hx4.out.belowOf ((Hb5.out.mono Hb4.out.size).trans (((below_box (Obj.cells #[.string y.k, .string y.v, .bool y.g] 38)).mono hsz5).trans hbel6)) (Nat.le_refl _))
            have Hbx6 : Hid (Box w6 w2.heap.size 116 #[.slice (some ax) mx cx, .int .i64 (x.r : Int)]) := Lib.hid (((Hbx.out.below Hb5.out Hbx.out.lt).alloc _).grown hg6 fun e => by
              obtain ⟨cur, hc⟩ := own_typeR Ho5a e.symm
              have hbx := (Hbx.out.below Hb5.out Hbx.out.lt).alloc (Obj.cells #[.string y.k, .string y.v, .bool y.g] 38)
              unfold Box at hbx
              rw [hbx] at hc
              injection hc with hc
              injection hc with _ hc _
              exact absurd hc (by decide))
            have Ho6 : Hid (OwnChs w6 w.heap.size v6 (M ++ [y])) := Lib.hid (by unfold OwnChs; rw [List.length_append, chgCells_app]; exact hown6)
            clear hown6 hg6 H5a Ho5a hbel6 d0 d1 d2 hb0 hb1 hb2

            have HTz := H6.out.below (Below.refl _ _).drew
            have HxTz := Hx6.out.below (Below.refl _ _).drew
            have HbTz := Hb6.out.drew
            have HoTz := Ho6.out.below (Below.refl _ _).drew
            have hm0 := Hbx6.out.cell 0
            have hm1 := Hbx6.out.cell 1
            have hn0 : (w6).drew.cell? ⟨w2.heap.size, 0, none⟩ = some (.slice (some ax) mx cx) := Hbx6.out.cell 0
            have hn1 : (w6).drew.cell? ⟨w2.heap.size, 1, none⟩ = some (.int .i64 (x.r : Int)) := Hbx6.out.cell 1
            obtain ⟨A1, hA1⟩ : ∃ A1, (if cx = 1 then some ax else some (⟨ax.block, ax.off + 3, none⟩ : Addr)) = A1 := ⟨_, rfl⟩
            rw [hA1] at HxTz
            have hone : (1 : Int) ≤ (mx : Int) := by omega
            go_wp2
            go_still_tail 6, (by kernel_rfl)
            change wpList _ _ _ _ _ (w6).drew
            generalize (w6).drew = wz at *
            have HZ := Lib.hid HTz
            have HxZ := Lib.hid HxTz
            have HbZ := Lib.hid HbTz
            have HoZ := Lib.hid HoTz
            have Hpr := Lib.hid (pushRest_any HZ.out _ (mx - 1) (cx - 1) cs x.r HxZ.out (by have := Hmx.out.1; omega) (by have := Hmx.out.2; omega) (by have := HL2.out.1; omega) HL2.out.2)
            clear HTz HxTz HbTz HoTz
            go_wp2_with fail
            refine Hpr.out.mono ?_
            rintro e w7 ⟨rfl, v7, L7, h7, k7, p7, i7⟩
            have Hl7 : Hid (left L7 + 1 = left L) := Lib.hid (by
              rw [Hleft2.out, left_perm p7]
              split
              · rename_i e; rw [e]; simp; omega
              · simp only [left, List.map_append, List.sum_append, List.map_cons, List.map_nil, List.sum_cons, List.sum_nil]; omega)
            have HR : Hid (L7.length ≤ k ∧ IsHeap ltR (gl L7) L7.length ∧ HeapOf L7 (restR R x.r cs) (crLists rs).length ∧ Merging (crLists rs) (M ++ [y]) (restR R x.r cs) ∧ (∀ r, ∀ d ∈ restR R x.r cs r, d.k.size ≤ 140737488355328 ∧ d.v.size ≤ 140737488355328) ∧ (M ++ [y]).length + left L7 ≤ T) := Lib.hid (by
              refine ⟨?_, i7, (Hho.out _).perm p7, Htake.out Hnk.out, Hsm.out, ?_⟩
              · rw [p7.length_eq]
                have := HL2.out.1
                split
                · omega
                · simp; omega
              · have h1 := Hlen6.out
                have h2 := Hl7.out
                rw [List.length_append, List.length_singleton]; omega)
            have H7 := Lib.hid h7
            have Ho7 := Lib.hid (HoZ.out.heap k7)
            have Hb7 := Lib.hid (HbZ.out.trans k7.below)
            have Hm7 : Hid (heapLeft w7 (w.heap.size + 1) < heapLeft wr (w.heap.size + 1)) := Lib.hid (by rw [h7.left, Hleft.out]; have := Hl7.out; omega)
            clear h7 k7 p7 i7 hn0 hn1 hm0 hm1
            go_wp2
            go_roundw
            case rel => exact ⟨v7, L7, restR R x.r cs, M ++ [y], H7.out, Ho7.out, HR, Hb7.out⟩
            case measure => exact Hm7.out
          · obtain ⟨p, rfl⟩ : ∃ p, N = p + 1 := ⟨N - 1, by omega⟩
            have hpb : p ≤ T := by have h1 := Hlen6.out; have h2 := HN.out; omega
            obtain ⟨ao, b, e1, hob, hbm, g0, -, -⟩ := hvo.at_ (i := p) (by omega)
            subst e1
            have Hlast : Hid (M.getLast? = some b) := Lib.hid (by rw [List.getLast?_eq_getElem?, HN.out]; exact hbm)
            have hMz : ((p : Int) + 1 == 0) = false := by simp; omega
            have hwp : IntKind.i64.wrap (p : Int) = (p : Int) := IntWalk.i64_in _ (by omega)
            have hp0 : (0 : Int) ≤ (p : Int) := by omega
            have hp2 : (p : Int) < (p : Int) + 1 := by omega
            obtain ⟨bk, bv, bg⟩ := b
            simp only at g0
            clear hbm hob hM hvo
            by_cases hkey : bk.data.toList = y.k.data.toList
            · have Hkey : Hid ((⟨bk, bv, bg⟩ : Chg).kb = y.kb) := Lib.hid hkey
              have hne : (bk.toList == y.k.toList) = true := by rw [eq_toList]; exact decide_eq_true hkey
              clear hkey
              have hb0 := Hby.out.cell 0
              go_wp2
              go_quiet (fail)
              have H4d := Lib.hid (H4.out.below (below_dr (Below.refl _ _) nq))
              have Hx4d := Lib.hid (Hx4.out.below (below_dr (Below.refl _ _) nq))
              have Hb4d := Lib.hid (below_dr Hb4.out nq)
              have Ho4d := Lib.hid (Ho2.out.below (below_dr (Below.refl _ _) nq))
              have Hbxd := Lib.hid (Hbx.out.below (below_dr (Below.refl _ _) nq) Hbx.out.lt)
              clear hb0 d0 d1 d2 g0
              generalize ((w2.alloc (Obj.cells #[.slice (some ax) mx cx, .int .i64 (x.r : Int)] 116)).alloc (Obj.cells #[.string y.k, .string y.v, .bool y.g] 38)).drewN nq = wd at *

              have HTz := H4d.out.below (Below.refl _ _).drew
              have HxTz := Hx4d.out.below (Below.refl _ _).drew
              have HbTz := Hb4d.out.drew
              have HoTz := Ho4d.out.below (Below.refl _ _).drew
              have hm0 := Hbxd.out.cell 0
              have hm1 := Hbxd.out.cell 1
              have hn0 : (wd).drew.cell? ⟨w2.heap.size, 0, none⟩ = some (.slice (some ax) mx cx) := Hbxd.out.cell 0
              have hn1 : (wd).drew.cell? ⟨w2.heap.size, 1, none⟩ = some (.int .i64 (x.r : Int)) := Hbxd.out.cell 1
              obtain ⟨A1, hA1⟩ : ∃ A1, (if cx = 1 then some ax else some (⟨ax.block, ax.off + 3, none⟩ : Addr)) = A1 := ⟨_, rfl⟩
              rw [hA1] at HxTz
              have hone : (1 : Int) ≤ (mx : Int) := by omega
              go_wp2
              go_still_tail 6, (by kernel_rfl)
              change wpList _ _ _ _ _ (wd).drew
              generalize (wd).drew = wz at *
              have HZ := Lib.hid HTz
              have HxZ := Lib.hid HxTz
              have HbZ := Lib.hid HbTz
              have HoZ := Lib.hid HoTz
              have Hpr := Lib.hid (pushRest_any HZ.out _ (mx - 1) (cx - 1) cs x.r HxZ.out (by have := Hmx.out.1; omega) (by have := Hmx.out.2; omega) (by have := HL2.out.1; omega) HL2.out.2)
              clear HTz HxTz HbTz HoTz
              go_wp2_with fail
              refine Hpr.out.mono ?_
              rintro e w7 ⟨rfl, v7, L7, h7, k7, p7, i7⟩
              have Hl7 : Hid (left L7 + 1 = left L) := Lib.hid (by
                rw [Hleft2.out, left_perm p7]
                split
                · rename_i e; rw [e]; simp; omega
                · simp only [left, List.map_append, List.sum_append, List.map_cons, List.map_nil, List.sum_cons, List.sum_nil]; omega)
              have HR : Hid (L7.length ≤ k ∧ IsHeap ltR (gl L7) L7.length ∧ HeapOf L7 (restR R x.r cs) (crLists rs).length ∧ Merging (crLists rs) (M) (restR R x.r cs) ∧ (∀ r, ∀ d ∈ restR R x.r cs r, d.k.size ≤ 140737488355328 ∧ d.v.size ≤ 140737488355328) ∧ (M).length + left L7 ≤ T) := Lib.hid (by
                refine ⟨?_, i7, (Hho.out _).perm p7, Hskip.out _ Hlast.out Hkey.out, Hsm.out, ?_⟩
                · rw [p7.length_eq]
                  have := HL2.out.1
                  split
                  · omega
                  · simp; omega
                · have h1 := Hlen6.out
                  have h2 := Hl7.out
                  omega)
              have H7 := Lib.hid h7
              have Ho7 := Lib.hid (HoZ.out.heap k7)
              have Hb7 := Lib.hid (HbZ.out.trans k7.below)
              have Hm7 : Hid (heapLeft w7 (w.heap.size + 1) < heapLeft wr (w.heap.size + 1)) := Lib.hid (by rw [h7.left, Hleft.out]; have := Hl7.out; omega)
              clear h7 k7 p7 i7 hn0 hn1 hm0 hm1
              go_wp2
              go_roundw
              case rel => exact ⟨v7, L7, restR R x.r cs, M, H7.out, Ho7.out, HR, Hb7.out⟩
              case measure => exact Hm7.out
            · have Hnk : Hid (∀ b, M.getLast? = some b → b.kb ≠ y.kb) := Lib.hid fun b' hb' => by rw [Hlast.out] at hb'; injection hb' with hb'; subst hb'; exact hkey
              have hne : (bk.toList == y.k.toList) = false := by rw [eq_toList]; exact decide_eq_false hkey
              clear hkey
              have Hc5 := Lib.hid (fun wx => cloneC_any y wx hyk.1 hyk.2)
              have hb0 := Hby.out.cell 0
              have hb1 := Hby.out.cell 1
              have hb2 := Hby.out.cell 2
              go_wp2
              go_quiet (fail)
              go_wp2_with fail
              refine (Hc5.out _).mono ?_
              rintro e w5 ⟨rfl, hb5⟩
              unfold cagg
              have Hb5 : Hid (Below ((w2.alloc (Obj.cells #[.slice (some ax) mx cx, .int .i64 (x.r : Int)] 116)).alloc (Obj.cells #[.string y.k, .string y.v, .bool y.g] 38)).heap.size ((w2.alloc (Obj.cells #[.slice (some ax) mx cx, .int .i64 (x.r : Int)] 116)).alloc (Obj.cells #[.string y.k, .string y.v, .bool y.g] 38)) w5) := Lib.hid ((below_dr (Below.refl _ _) _).trans hb5)
              clear hb5
              have hsz5 : w.heap.size ≤ w5.heap.size := Nat.le_trans Hb4.out.size Hb5.out.size
              have Ho5 := Lib.hid (Ho2.out.below Hb5.out)
              have hsz5b : w.heap.size ≤ (w5.alloc (Obj.cells #[.string y.k, .string y.v, .bool y.g] 38)).heap.size := by simp only [World.size_alloc]; omega
              go_wp2_with (at_builtin; refine wpList_append_hasN rfl (.tmp 51) (.tmp 54) _ rfl 38 chg_elem (by omega) Try.underlying22 rfl (own_belowN Ho5.out (below_box _)) rfl (chg_lit _ ⟨y.k, y.v, y.g⟩) (chgCells_one _) (by have := Hlen6.out; simp only [maxLen]; omega) (by have := Hlen6.out; omega) hsz5b ?_; intro v6 w6 hown6 hg6 _)
              have H5a := (H4.out.below Hb5.out).below (below_box (Obj.cells #[.string y.k, .string y.v, .bool y.g] 38))
              have Ho5a : OwnChs (w5.alloc (Obj.cells #[.string y.k, .string y.v, .bool y.g] 38)) _ _ M := Ho5.out.below (below_box _)
              have H6 := Lib.hid (H5a.other Ho5a (Nat.le_refl _) hg6)
              have hbel6 : Below w.heap.size (w5.alloc (Obj.cells #[.string y.k, .string y.v, .bool y.g] 38)) w6 := (Below.refl _ _).grown hg6 hsz5b fun g e => (Ho5a.lt g e).1
              have Hb6 := Lib.hid ((Hb4.out.trans ((Hb5.out.mono Hb4.out.size).trans ((below_box (Obj.cells #[.string y.k, .string y.v, .bool y.g] 38)).mono hsz5))).trans hbel6)
              have Hx6 := Lib.hid (Hx4.out.belowOf ((Hb5.out.mono Hb4.out.size).trans (((below_box (Obj.cells #[.string y.k, .string y.v, .bool y.g] 38)).mono hsz5).trans hbel6)) (Nat.le_refl _))
              have Hbx6 : Hid (Box w6 w2.heap.size 116 #[.slice (some ax) mx cx, .int .i64 (x.r : Int)]) := Lib.hid (((Hbx.out.below Hb5.out Hbx.out.lt).alloc _).grown hg6 fun e => by
                obtain ⟨cur, hc⟩ := own_typeR Ho5a e.symm
                have hbx := (Hbx.out.below Hb5.out Hbx.out.lt).alloc (Obj.cells #[.string y.k, .string y.v, .bool y.g] 38)
                unfold Box at hbx
                rw [hbx] at hc
                injection hc with hc
                injection hc with _ hc _
                exact absurd hc (by decide))
              have Ho6 : Hid (OwnChs w6 w.heap.size v6 (M ++ [y])) := Lib.hid (by unfold OwnChs; rw [List.length_append, chgCells_app]; exact hown6)
              clear hown6 hg6 H5a Ho5a hbel6 d0 d1 d2 hb0 hb1 hb2

              have HTz := H6.out.below (Below.refl _ _).drew
              have HxTz := Hx6.out.below (Below.refl _ _).drew
              have HbTz := Hb6.out.drew
              have HoTz := Ho6.out.below (Below.refl _ _).drew
              have hm0 := Hbx6.out.cell 0
              have hm1 := Hbx6.out.cell 1
              have hn0 : (w6).drew.cell? ⟨w2.heap.size, 0, none⟩ = some (.slice (some ax) mx cx) := Hbx6.out.cell 0
              have hn1 : (w6).drew.cell? ⟨w2.heap.size, 1, none⟩ = some (.int .i64 (x.r : Int)) := Hbx6.out.cell 1
              obtain ⟨A1, hA1⟩ : ∃ A1, (if cx = 1 then some ax else some (⟨ax.block, ax.off + 3, none⟩ : Addr)) = A1 := ⟨_, rfl⟩
              rw [hA1] at HxTz
              have hone : (1 : Int) ≤ (mx : Int) := by omega
              go_wp2
              go_still_tail 6, (by kernel_rfl)
              change wpList _ _ _ _ _ (w6).drew
              generalize (w6).drew = wz at *
              have HZ := Lib.hid HTz
              have HxZ := Lib.hid HxTz
              have HbZ := Lib.hid HbTz
              have HoZ := Lib.hid HoTz
              have Hpr := Lib.hid (pushRest_any HZ.out _ (mx - 1) (cx - 1) cs x.r HxZ.out (by have := Hmx.out.1; omega) (by have := Hmx.out.2; omega) (by have := HL2.out.1; omega) HL2.out.2)
              clear HTz HxTz HbTz HoTz
              go_wp2_with fail
              refine Hpr.out.mono ?_
              rintro e w7 ⟨rfl, v7, L7, h7, k7, p7, i7⟩
              have Hl7 : Hid (left L7 + 1 = left L) := Lib.hid (by
                rw [Hleft2.out, left_perm p7]
                split
                · rename_i e; rw [e]; simp; omega
                · simp only [left, List.map_append, List.sum_append, List.map_cons, List.map_nil, List.sum_cons, List.sum_nil]; omega)
              have HR : Hid (L7.length ≤ k ∧ IsHeap ltR (gl L7) L7.length ∧ HeapOf L7 (restR R x.r cs) (crLists rs).length ∧ Merging (crLists rs) (M ++ [y]) (restR R x.r cs) ∧ (∀ r, ∀ d ∈ restR R x.r cs r, d.k.size ≤ 140737488355328 ∧ d.v.size ≤ 140737488355328) ∧ (M ++ [y]).length + left L7 ≤ T) := Lib.hid (by
                refine ⟨?_, i7, (Hho.out _).perm p7, Htake.out Hnk.out, Hsm.out, ?_⟩
                · rw [p7.length_eq]
                  have := HL2.out.1
                  split
                  · omega
                  · simp; omega
                · have h1 := Hlen6.out
                  have h2 := Hl7.out
                  rw [List.length_append, List.length_singleton]; omega)
              have H7 := Lib.hid h7
              have Ho7 := Lib.hid (HoZ.out.heap k7)
              have Hb7 := Lib.hid (HbZ.out.trans k7.below)
              have Hm7 : Hid (heapLeft w7 (w.heap.size + 1) < heapLeft wr (w.heap.size + 1)) := Lib.hid (by rw [h7.left, Hleft.out]; have := Hl7.out; omega)
              clear h7 k7 p7 i7 hn0 hn1 hm0 hm1
              go_wp2
              go_roundw
              case rel => exact ⟨v7, L7, restR R x.r cs, M ++ [y], H7.out, Ho7.out, HR, Hb7.out⟩
              case measure => exact Hm7.out
end Go.Proofs.Yteioopcacpihpaa
