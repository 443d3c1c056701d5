/- The keys of all records, what stands under a key, and its answer, in a store in memory. -/
import Derived.Test.YtknfjajmnlpfjaaGreatPlnG
namespace Go.Proofs.YtknfjajmnlpfjaaGreat
open Go.RowKit
open Go.Lib (strCells compareBytes)

theorem sorts_in (m : Nat) : AnyZ.SortsIn Tryz.prog Tryz.sorted75_ren Fence.wide m :=
  ⟨fun blk off cap ss W hH hblk hsz => callsIn_wide.2 (AnyM.slices_Sort_string Tryz.sort39 blk off cap ss W hH hblk hsz),
   fun p cap W => callsIn_wide.2 (AnyM.slices_Sort_string_none Tryz.sort39 p cap W)⟩
theorem mapsKeys_any (mb : Option Nat) (W : World) : Calls Tryz.prog 76 #[.map mb] W fun e w' => e = .returned (.func (.func 111) #[] #[.pointer (some ⟨W.heap.size, 0, none⟩)]) ∧ w' = W.alloc (.cells #[.map mb] 57) :=
  callsIn_wide.1 (AnyZ.keys_in Tryz.keys76 Fence.wide 5 trivial rfl mb W)
set_option maxHeartbeats 1000000 in
theorem sortedKeys_any (b nn : Nat) (D0 : DataW Value) (w : World) (hown : w.ownsMap Tryz.prog 9 Rv b nn D0) (hmax : Maps.size D0 ≤ maxLen) (hbytes : Maps.size D0 * 16 ≤ 140737488355328) :
    Calls Tryz.prog 75 #[.func (.func 111) #[] #[.pointer (some ⟨w.heap.size, 0, none⟩)]] (w.alloc (.cells #[.map (some b)] 57)) fun e w' => ∃ (v : Value) (ss : List (List UInt8)), e = .returned v ∧ ss.Perm (strKeys D0) ∧
      w'.ownsRow (w.alloc (.cells #[.map (some b)] 57)).heap.size 9 1 v ss.length ((ss.mergeSort (fun x y => decide (x ≤ y))).map encStr) ∧ (v = .slice none 0 0 ↔ ss = []) ∧ Below (w.alloc (.cells #[.map (some b)] 57)).heap.size (w.alloc (.cells #[.map (some b)] 57)) w' := by
  have hbl := hown.lt
  have hseq : SeqGives Fence.wide 2 Tryz.prog 111 #[.pointer (some ⟨w.heap.size, 0, none⟩)] encStr (fun ss => ss.Perm (strKeys D0)) (Maps.size D0) (w.alloc (.cells #[.map (some b)] 57)) :=
    AnyZ.keys_gives (ρ := Tryz.keys76_ren) { Tryz.keys76 with } Fence.wide _ trivial rfl (by omega) w.heap.size b nn D0 _ (by simp) (by simp) (by
      obtain ⟨es, clock, hb, Ft, hs, hD⟩ := hown
      exact ⟨es, clock, (Below.heap_alloc _ _ b hbl).trans hb, Ft, hs, hD⟩)
  exact callsIn_wide.1 (AnyZ.sorted_in Tryz.sorted75 Fence.wide 5 trivial trivial trivial trivial rfl (by omega) (sorts_in _) (enters_of Tryz.func39 (by kernel_rfl) rfl) 111 #[.pointer (some ⟨w.heap.size, 0, none⟩)] trivial (enters_of Tryz.func111 (by kernel_rfl) rfl) _ _ hmax hbytes _ hseq)

/-- a row of texts in the call's own memory -/
def strRow (ss : List (List UInt8)) : List Value := ss.map encStr
def keysOf (E : Kv (Value × List TVal)) : List (List UInt8) := E.map (·.1)
def recOf (k : List UInt8) (E : Kv (Value × List TVal)) : List TVal := match getK k E with | some a => a.2 | none => []

section
variable {B sb mb d : Nat} {ix : Value} {E : Kv (Value × List TVal)} {X : List Ix} {w : World}
theorem rise_keys {α : Type} {E : Kv α} (h : Rise E) : (E.map (·.1)).Pairwise (· < ·) := by
  rw [List.pairwise_map]
  exact h
set_option maxRecDepth 100000 in
theorem keys_any (h : Store w B sb mb ix E X d) (hE : E.length ≤ 1000) : Calls Tryz.prog 41 #[.pointer (some ⟨sb, 0, none⟩)] w fun e w' => ∃ v, e = .returned v ∧ w'.ownsRow w.heap.size 9 1 v E.length (strRow (keysOf E)) ∧ Below w.heap.size w w' := by
  obtain ⟨q0, q1, q2, f0, f1, f2⟩ := h.cells
  have Hs := Lib.hid (sortedKeys_any mb E.length _ w h.own (by rw [dmap_size]; simp only [maxLen]; omega) (by rw [dmap_size]; omega))
  have Hr := Lib.hid (rise_keys h.rise)
  have Hk := Lib.hid (dmap_keys (fun a : Value × List TVal => a.1) E)
  clear h q1 q2 f0 f1 f2
  go_enter Tryz.func41, Tryz.ntmps41
  go_wp2_with fail
  refine (mapsKeys_any (some mb) _).mono ?_
  rintro e w1 ⟨rfl, rfl⟩
  go_wp2_with fail
  refine Hs.out.mono ?_
  rintro e w2 ⟨v, ss, rfl, hp, hrow, -, hb⟩
  have hb2 := Lib.hid (Below.then (below_alloc _ _) hb)
  have hp' : ss.Perm (E.map (·.1)) := Hk.out ▸ hp
  have hsort := sort_rise hp' Hr.out
  have hlen : ss.length = E.length := by rw [hp.length_eq, Hk.out, List.length_map]
  rw [hsort, hlen] at hrow
  have Hrow := Lib.hid (own_base hrow (by simp : w.heap.size ≤ _))
  clear hb hsort hlen hrow hp hp'
  go_wp2
  go_ret
  exact ⟨_, rfl, Hrow.out, hb2.out⟩

/-- 'v, ok := m[k]' of the store's map -/
theorem Store.look (h : Store w B sb mb ix E X d) (s : ByteArray) (hs : s.size ≤ maxLen) : ∃ A n c, (Instr.lookup 57 (.map (some mb)) (.string s) true).run Tryz.prog w = .ok (.tuple #[.slice A n c, .bool (getK s.data.toList E).isSome]) w ∧
    (Instr.lookup 57 (.map (some mb)) (.string s) false).run Tryz.prog w = .ok (.slice A n c) w ∧
    n ≤ c ∧ c ≤ maxLen ∧ HasVals w w.heap.size A n (recOf s.data.toList E) := by
  have hz : (zeroValue 32).run Tryz.prog w = .ok (.slice none 0 0) w := Tryz.zeroValue32 w
  have hk := WideMaps.keyOf_string_mk Tryz.underlying9 hs
  obtain ⟨v, ps, hrun, hv⟩ := h.own.look_ok strKeyed Tryz.underlying57 hz (zd := .held (.slice none 0 0)) rfl hk
  obtain ⟨v', ps', hrun', hv'⟩ := h.own.lookup strKeyed Tryz.underlying57 hz (zd := .held (.slice none 0 0)) rfl hk
  rw [dmap_has] at hrun
  rw [dmap_at] at hv hv'
  simp only [Rv, Option.some.injEq, Prod.mk.injEq] at hv hv'
  unfold recOf
  cases hg : getK s.data.toList E with
  | none =>
    rw [hg] at hv hv' hrun
    simp only [DataW.held.injEq] at hv hv'
    rw [hv.1] at hrun
    rw [hv'.1] at hrun'
    exact ⟨none, 0, 0, hrun, hrun', Nat.le_refl _, by simp [maxLen], HasVals.nil _ _ _⟩
  | some a =>
    rw [hg] at hv hv' hrun
    simp only [DataW.held.injEq] at hv hv'
    rw [hv.1] at hrun
    rw [hv'.1] at hrun'
    obtain ⟨A, c, e, h1, h2, h3⟩ := own_sliceN (h.recs _ (getK_mem hg))
    simp only at e h3
    rw [e] at hrun hrun'
    exact ⟨A, _, c, hrun, hrun', h1, h2, ⟨rfl, h3⟩⟩
theorem Store.recGood (h : Store w B sb mb ix E X d) (k : List UInt8) : (recOf k E).length ≤ 4 ∧ (∀ u ∈ recOf k E, InI64 u.n) ∧ ∀ u ∈ recOf k E, u.s.size ≤ 32 := by
  unfold recOf
  cases hg : getK k E with
  | none => simp
  | some a =>
    have h1 := (h.good _ (getK_mem hg)).1
    exact ⟨h1.le, h1.2, h1.size⟩

def replyV (code : Int) (there : Bool) (rec rows : Value) (id : Int) : Value := .agg #[.int .i64 code, .bool there, rec, rows, .int .i64 id]
theorem box5 {w : World} {g : Nat} {t : TypeId} {x y z u v : Value} (h : Box w g t #[x, y, z, u, v]) : w.cell? ⟨g, 0, none⟩ = some x ∧ w.cell? ⟨g, 1, none⟩ = some y ∧ w.cell? ⟨g, 2, none⟩ = some z ∧ w.cell? ⟨g, 3, none⟩ = some u ∧ w.cell? ⟨g, 4, none⟩ = some v ∧
    w.frozen? ⟨g, 0, none⟩ = false ∧ w.frozen? ⟨g, 1, none⟩ = false ∧ w.frozen? ⟨g, 2, none⟩ = false ∧ w.frozen? ⟨g, 3, none⟩ = false ∧ w.frozen? ⟨g, 4, none⟩ = false :=
  ⟨h.cell 0, h.cell 1, h.cell 2, h.cell 3, h.cell 4, h.frozen 0, h.frozen 1, h.frozen 2, h.frozen 3, h.frozen 4⟩
theorem box5_store {w W : World} {g : Nat} {t : TypeId} {x y z u v x' y' z' u' v' : Value} (h : Box w g t #[x, y, z, u, v])
    (hW : ((((w.setCell ⟨g, 0, none⟩ x').setCell ⟨g, 1, none⟩ y').setCell ⟨g, 2, none⟩ z').setCell ⟨g, 3, none⟩ u').setCell ⟨g, 4, none⟩ v' = W) : Box W g t #[x', y', z', u', v'] := by
  subst hW
  exact ((((h.set_ 0 x').set_ 1 y').set_ 2 z').set_ 3 u').set_ 4 v'
theorem below5 {w w0 W : World} {g : Nat} {x' y' z' u' v' : Value} (h : Below g w0 w) (hW : ((((w.setCell ⟨g, 0, none⟩ x').setCell ⟨g, 1, none⟩ y').setCell ⟨g, 2, none⟩ z').setCell ⟨g, 3, none⟩ u').setCell ⟨g, 4, none⟩ v' = W) : Below g w0 W := by
  subst hW
  exact ((((h.setCell (Nat.le_refl _) _).setCell (Nat.le_refl _) _).setCell (Nat.le_refl _) _).setCell (Nat.le_refl _) _).setCell (Nat.le_refl _) _
/-- a row that lies in another block than g stays -/
theorem own5 {w W : World} {B g m size : Nat} {e : TypeId} {v : Value} {xs : List Value} {x' y' z' u' v' : Value} (h : w.ownsRow B e size v m xs) (hg : g < B) (hW : ((((w.setCell ⟨g, 0, none⟩ x').setCell ⟨g, 1, none⟩ y').setCell ⟨g, 2, none⟩ z').setCell ⟨g, 3, none⟩ u').setCell ⟨g, 4, none⟩ v' = W) : W.ownsRow B e size v m xs := by
  subst hW
  refine own_keep h fun k hk => ?_
  have := (h.lt k hk).1
  have hne : ∀ (i : Nat), k ≠ (⟨g, i, none⟩ : Addr).block := fun i => by show k ≠ g; omega
  rw [Below.heap_setCell _ _ _ _ (hne 4), Below.heap_setCell _ _ _ _ (hne 3), Below.heap_setCell _ _ _ _ (hne 2), Below.heap_setCell _ _ _ _ (hne 1), Below.heap_setCell _ _ _ _ (hne 0)]

set_option maxRecDepth 100000 in
theorem get_any (h : Store w B sb mb ix E X d) (s : ByteArray) (hs : s.size ≤ maxLen) : Calls Tryz.prog 24 #[.pointer (some ⟨sb, 0, none⟩), .string s] w fun e w' =>
    ∃ v, e = .returned (replyV 0 (getK s.data.toList E).isSome v (.slice none 0 0) 0) ∧ w'.ownsRow (w.heap.size + 1) 53 3 v (recOf s.data.toList E).length (valCells (recOf s.data.toList E)) ∧ Below w.heap.size w w' := by
  obtain ⟨w0, hw0⟩ : ∃ w0, w.alloc (.cells #[.int .i64 0, .bool false, .slice none 0 0, .slice none 0 0, .int .i64 0] 35) = w0 := ⟨_, rfl⟩
  have hb0 : Below w.heap.size w w0 := hw0 ▸ below_alloc _ _
  have hbx : Box w0 w.heap.size 35 #[.int .i64 0, .bool false, .slice none 0 0, .slice none 0 0, .int .i64 0] := hw0 ▸ Box.made _ _ _
  have hsz : w0.heap.size = w.heap.size + 1 := by rw [← hw0]; simp
  have h0 := h.below hb0
  obtain ⟨q0, q1, q2, f0, f1, f2⟩ := h0.cells
  obtain ⟨A, n, c, hl, -, h1, h2, hv⟩ := h0.look s hs
  obtain ⟨g1, g2, g3⟩ := h0.recGood s.data.toList
  have Hc := Lib.hid (recClone_any A n c _ _ w0 hv (by have := hv.1; omega) (Nat.le_refl _) (fun u hu => by have := g3 u hu; omega))
  have Hbx := Lib.hid hbx
  have Hb0 := Lib.hid hb0
  have Hsz := Lib.hid hsz
  clear hsz
  generalize (getK s.data.toList E).isSome = there at hl ⊢
  clear hv h1 h2 g1 g2 g3 q1 q2 f0 f1 f2 h0 h hbx hb0
  go_enter Tryz.func24, Tryz.ntmps24
  go_wp2_with fail
  refine Hc.out.mono ?_
  rintro e w1 ⟨v, rfl, hown, hb1⟩
  obtain ⟨Av, cv, rfl, -⟩ := own_sliceN hown
  have hbx1 := Hbx.out.below hb1 Hbx.out.lt
  obtain ⟨r0, r1, r2, r3, r4, k0, k1, k2, k3, k4⟩ := box5 hbx1
  obtain ⟨W3, hW3⟩ : ∃ W3, ((((w1.setCell ⟨w.heap.size, 0, none⟩ (.int .i64 0)).setCell ⟨w.heap.size, 1, none⟩ (.bool there)).setCell ⟨w.heap.size, 2, none⟩ (.slice Av (recOf s.data.toList E).length cv)).setCell ⟨w.heap.size, 3, none⟩ (.slice none 0 0)).setCell ⟨w.heap.size, 4, none⟩ (.int .i64 0) = W3 := ⟨_, rfl⟩
  obtain ⟨p0, p1, p2, p3, p4, -⟩ := box5 (box5_store hbx1 hW3)
  have hbw := below5 (Hb0.out.trans (hb1.mono (by rw [Hsz.out]; omega))) hW3
  have hown3 := own5 (g := w.heap.size) hown (by rw [Hsz.out]; omega) hW3
  rw [Hsz.out] at hown3
  have Hbw := Lib.hid hbw
  have Hown3 := Lib.hid hown3
  clear hbx1 hbw hown3 hown hb1
  go_wp2
  refine bodyPost_ret (v := replyV 0 there (.slice Av (recOf s.data.toList E).length cv) (.slice none 0 0) 0) ?_ rfl ⟨_, rfl, Hown3.out, Hbw.out⟩
  simp [results, Tryz.results24, go_sem, replyV, p0, p1, p2, p3, p4]
end
end Go.Proofs.YtknfjajmnlpfjaaGreat
