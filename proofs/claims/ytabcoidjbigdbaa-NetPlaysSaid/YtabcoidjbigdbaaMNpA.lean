/- The example that each law of layer 14 begins with holds. No condition. -/
import Derived.Test.YtabcoidjbigdbaaLetX
import Derived.Test.YtabcoidjbigdbaaLetG
import Derived.Maps.OwnSet
import Derived.Lib.SlKeysI
import Derived.Test.YtabcoidjbigdbaaShelf
import Derived.Deep.RegionHeld3
import Derived.Test.YtabcoidjbigdbaaLetF
import Derived.Test.YtabcoidjbigdbaaLetL
namespace Go.Proofs.Ytabcoidjbigdbaa
open Go.RowKit

/-- a letter under way: its number, where its rows lie, what it is -/
structure NEn where
  n : Int
  Ap : Option Addr
  cp : Nat
  Ai : Option Addr
  ci : Nat
  L : Let
def NEn.v (e : NEn) : Value := .agg #[.int .i64 e.L.kind, .int .i64 e.L.frm, .int .i64 e.L.to, .int .i64 e.L.a, .int .i64 e.L.b, .int .i64 e.L.c, .int .i64 e.L.d, .string e.L.s, .string e.L.t, .slice e.Ap e.L.ps.length e.cp, .slice e.Ai e.L.is.length e.ci, .int .i64 e.L.code, .bool e.L.yes, .string e.L.body]
def nmap (E : List NEn) : DataW Value := .map (E.map fun p => (.int .i64 p.n, .held p.v))
def getN (k : Int) (E : List NEn) : Option NEn := E.find? fun p => decide (p.n = k)
def delN (k : Int) (E : List NEn) : List NEn := E.filter fun p => !decide (p.n = k)
theorem sameKey_int (a b : Int) : (Lit.int .i64 a).sameKey (.int .i64 b) = decide (a = b) := by simp [Lit.sameKey]
theorem getN_some {k : Int} {E : List NEn} {e : NEn} (h : getN k E = some e) : e ∈ E ∧ e.n = k :=
  ⟨List.mem_of_find?_eq_some h, by have := List.find?_some h; simpa using this⟩
theorem insert_end {x : Lit × DataW Value} {k : Int} (hx : x.1 = .int .i64 k) : ∀ (E : List NEn), (∀ p ∈ E, p.n < k) → DataW.insert x (E.map fun p => ((Lit.int .i64 p.n, DataW.held p.v) : Lit × DataW Value)) = (E.map fun p => (.int .i64 p.n, .held p.v)) ++ [x]
  | [], _ => rfl
  | y :: l, h => by
    have hy := h y (by simp)
    have ih := insert_end hx l (fun p hp => h p (by simp [hp]))
    obtain ⟨a, b⟩ := x
    simp only at hx
    subst hx
    have h1 : (Lit.int .i64 k).before (.int .i64 y.n) = false := by simp [Lit.before]; omega
    simp only [List.map_cons, DataW.insert, h1, Bool.false_eq_true, if_false, List.cons_append, ih]
theorem nmap_put (E : List NEn) (e : NEn) (h : ∀ p ∈ E, p.n < e.n) : (nmap E).put (.int .i64 e.n) (.held e.v) = nmap (E ++ [e]) := by
  simp only [nmap, DataW.put, List.map_append, List.map_cons, List.map_nil, DataW.map.injEq]
  have hf : (List.map (fun p => ((Lit.int IntKind.i64 p.n, DataW.held p.v) : Lit × DataW Value)) E).filter (fun p => !p.1.sameKey (Lit.int IntKind.i64 e.n)) = List.map (fun p => (Lit.int IntKind.i64 p.n, DataW.held p.v)) E := by
    refine List.filter_eq_self.2 fun q hq => ?_
    obtain ⟨p, hp, rfl⟩ := List.mem_map.1 hq
    have := h p hp
    simp [sameKey_int]
    omega
  rw [hf, insert_end rfl E h]
theorem nmap_del (E : List NEn) (k : Int) : (nmap E).del (.int .i64 k) = nmap (delN k E) := by
  simp only [nmap, DataW.del, DataW.map.injEq, delN]
  rw [List.filter_map]
  congr 1
  refine List.filter_congr fun p _ => ?_
  simp [sameKey_int]
theorem nmap_at (k : Int) (z : DataW Value) : ∀ (E : List NEn), (nmap E).atKey (.int .i64 k) z = match getN k E with | some a => .held a.v | none => z
  | [] => rfl
  | y :: l => by
    have ih := nmap_at k z l
    simp only [nmap, DataW.atKey, List.map_cons, getN, List.find?_cons] at ih ⊢
    by_cases he : y.n = k
    · simp [sameKey_int, he]
    · simp only [sameKey_int, he, decide_false]
      exact ih
theorem nmap_has (k : Int) : ∀ (E : List NEn), Maps.has (nmap E) (.int .i64 k) = (getN k E).isSome
  | [] => rfl
  | y :: l => by
    have ih := nmap_has k l
    simp only [nmap, Maps.has_eq, List.map_cons, getN, List.find?_cons, List.any_cons] at ih ⊢
    by_cases he : y.n = k
    · simp [sameKey_int, he]
    · simp only [sameKey_int, he, decide_false, Bool.false_or]
      exact ih
theorem nmap_size (E : List NEn) : Maps.size (nmap E) = E.length := by simp [nmap, Maps.size]
theorem nmap_keys (E : List NEn) : intKeys (nmap E) = E.map (·.n) := by simp [nmap, intKeys, Go.intOf]
theorem sort_ints {ss ks : List Int} (h : ss.Perm ks) (hk : ks.Pairwise (· < ·)) : ss.mergeSort (fun x y => decide (x ≤ y)) = ks := by
  have h1 : (ss.mergeSort (fun x y => decide (x ≤ y))).Perm ks := (List.mergeSort_perm ss _).trans h
  have h2 : (ss.mergeSort (fun x y => decide (x ≤ y))).Pairwise (· ≤ ·) := by
    have := List.pairwise_mergeSort (le := fun (x y : Int) => decide (x ≤ y)) (by intro a b c; simp; omega) (by intro a b; simp; omega) ss
    exact this.imp (by intro a b; simp)
  exact h1.eq_of_pairwise (fun a b _ _ h3 h4 => by omega) h2 (hk.imp (by intro a b; omega))
def Rn (v : Value) : Option (DataW Value × List MemPlace) := some (.held v, [])
theorem intKeyed : Maps.Keyed Try.prog 3 := Maps.int_keyed Try.underlying3
theorem mapN_block {w : World} {P : Program} {k : TypeId} {b n : Nat} {D : DataW Value} (h : w.ownsMap P k Rn b n D) : ∃ es c, w.heap[b]? = some (.map es c) := by
  obtain ⟨es, c, hb, _⟩ := h
  exact ⟨es, c, hb⟩
theorem mapN_keep {w w' : World} {P : Program} {k : TypeId} {b n : Nat} {D : DataW Value} (h : w.ownsMap P k Rn b n D) (hk : w'.heap[b]? = w.heap[b]?) : w'.ownsMap P k Rn b n D := by
  obtain ⟨es, c, hb, r⟩ := h
  exact ⟨es, c, hk.trans hb, r⟩
theorem mapN_size {w : World} {P : Program} {k : TypeId} {b n : Nat} {D : DataW Value} (h : w.ownsMap P k Rn b n D) : w.ownsMap P k Rn b (Maps.size D) D := by
  obtain ⟨es, c, hb, F, hs, rfl⟩ := h
  exact ⟨es, c, hb, F, by simp [Maps.size, length_sorted], rfl⟩

/-- The pointer to block sb is a net: its map in block mb; what is under way are the letters E, the last number d. -/
structure NetAt (w : World) (B sb mb : Nat) (E : List NEn) (d : Nat) : Prop where
  sB : B ≤ sb
  mB : B ≤ mb
  box : Box w sb 102 #[.map (some mb), .int .i64 d]
  own : w.ownsMap Try.prog 3 Rn mb E.length (nmap E)
  rise : E.Pairwise fun p q => p.n < q.n
  nums : ∀ p ∈ E, 1 ≤ p.n ∧ p.n ≤ d
  rows : ∀ p ∈ E, OwnLps w B (.slice p.Ap p.L.ps.length p.cp) p.L.ps ∧ OwnLis w B (.slice p.Ai p.L.is.length p.ci) p.L.is
  good : ∀ p ∈ E, p.L.err = 0
/-- only the net's box and its map may have turned -/
structure Kept2 (sb mb : Nat) (w w' : World) : Prop where
  os : w'.os = w.os
  tape : w'.tape = w.tape
  output : w'.output = w.output
  size : w.heap.size ≤ w'.heap.size
  block : ∀ i, i < w.heap.size → i ≠ sb → i ≠ mb → w'.heap[i]? = w.heap[i]?
theorem Kept2.of {sb mb : Nat} {w w' : World} (h : Below w.heap.size w w') : Kept2 sb mb w w' := ⟨h.os, h.tape, h.output, h.size, fun i hi _ _ => h.block i hi⟩
theorem Kept2.trans {sb mb : Nat} {w w1 w2 : World} (h : Kept2 sb mb w w1) (h2 : Kept2 sb mb w1 w2) : Kept2 sb mb w w2 :=
  ⟨h2.os.trans h.os, h2.tape.trans h.tape, h2.output.trans h.output, Nat.le_trans h.size h2.size, fun i hi a b => (h2.block i (Nat.lt_of_lt_of_le hi h.size) a b).trans (h.block i hi a b)⟩
theorem Kept2.below {w w' : World} {B sb mb : Nat} (h : Kept2 sb mb w w') (hs : B ≤ sb) (hm : B ≤ mb) (hB : B ≤ w.heap.size) : Below B w w' :=
  ⟨h.os, h.tape, h.output, h.size, fun i hi => h.block i (by omega) (by omega) (by omega)⟩
theorem Kept2.grown {sb mb g : Nat} {w w' : World} (h : w.grownBy w' (some g)) (hg : g = sb ∨ g = mb) : Kept2 sb mb w w' :=
  ⟨h.os, h.tape, h.output, h.size, fun i hi h1 h2 => h.block i hi fun e => by
    injection e with e
    subst e
    rcases hg with rfl | rfl
    · exact h1 rfl
    · exact h2 rfl⟩
theorem ownN_keep {w w' : World} {B m size : Nat} {e : TypeId} {v : Value} {xs : List Value} (h : w.ownsRow B e size v m xs) (hk : ∀ g, v.ownBlock = some g → w'.heap[g]? = w.heap[g]?) : w'.ownsRow B e size v m xs := by
  refine ⟨h.1, ?_⟩
  rcases h.2 with hn | ⟨g, cap, cur, rfl, hB, hg, rest⟩
  · exact .inl hn
  · exact .inr ⟨g, cap, cur, rfl, hB, (hk g rfl).trans hg, rest⟩
/-- a row's block is neither a net's box nor a map -/
theorem own_no_net {w : World} {B m size sb mb d : Nat} {es : Array MapEntry} {c : Nat} {e : TypeId} {v : Value} {xs : List Value} (h : w.ownsRow B e size v m xs) (hb : Box w sb 102 #[.map (some mb), .int .i64 d]) (hm : w.heap[mb]? = some (.map es c)) (hne : e ≠ 102) :
    ∀ g, v.ownBlock = some g → g ≠ sb ∧ g ≠ mb := by
  intro g hg
  refine ⟨own_box_ne h hb hne g hg, fun e0 => ?_⟩
  subst e0
  rcases h.2 with ⟨rfl, _⟩ | ⟨g1, cap, cur, rfl, hB, hh, rest⟩
  · cases hg
  · cases hg
    rw [hh] at hm
    cases hm
theorem box_no_net {w : World} {g sb mb d : Nat} {es : Array MapEntry} {c : Nat} {t : TypeId} {cs : Array Value} (h : Box w g t cs) (hb : Box w sb 102 #[.map (some mb), .int .i64 d]) (hm : w.heap[mb]? = some (.map es c)) (hne : t ≠ 102) : g ≠ sb ∧ g ≠ mb := by
  unfold Box at h hb
  refine ⟨fun e => ?_, fun e => ?_⟩
  · subst e
    rw [h] at hb
    injection hb with hb
    injection hb with _ hb
    exact hne hb
  · subst e
    rw [h] at hm
    cases hm
section
variable {w w' : World} {B sb mb d : Nat} {E : List NEn}
theorem NetAt.lt (h : NetAt w B sb mb E d) : sb < w.heap.size ∧ mb < w.heap.size := ⟨h.box.lt, h.own.lt⟩
theorem NetAt.ne (h : NetAt w B sb mb E d) : sb ≠ mb := by
  obtain ⟨es, c, hm⟩ := mapN_block h.own
  have hb := h.box
  unfold Box at hb
  intro e
  subst e
  rw [hb] at hm
  cases hm
theorem NetAt.below (h : NetAt w B sb mb E d) (hb : Below w.heap.size w w') : NetAt w' B sb mb E d :=
  { h with
    box := h.box.below hb h.box.lt
    own := mapN_keep h.own (hb.block mb h.own.lt)
    rows := fun p hp => ⟨(h.rows p hp).1.below hb, (h.rows p hp).2.below hb⟩ }
theorem NetAt.cells (h : NetAt w B sb mb E d) : w.cell? ⟨sb, 0, none⟩ = some (.map (some mb)) ∧ w.cell? ⟨sb, 1, none⟩ = some (.int .i64 d) ∧ w.frozen? ⟨sb, 0, none⟩ = false ∧ w.frozen? ⟨sb, 1, none⟩ = false :=
  ⟨h.box.cell 0, h.box.cell 1, h.box.frozen 0, h.box.frozen 1⟩
theorem typesN : (38 : TypeId) ≠ 102 ∧ (40 : TypeId) ≠ 102 := by decide
/-- a row that is none of the net's stays -/
theorem NetAt.rowKept (h : NetAt w B sb mb E d) (hk : Kept2 sb mb w w') {C m size : Nat} {e : TypeId} {v : Value} {xs : List Value} (ho : w.ownsRow C e size v m xs) (hne : e ≠ 102) : w'.ownsRow C e size v m xs := by
  obtain ⟨es, c, hm⟩ := mapN_block h.own
  exact ownN_keep ho fun g hg => hk.block g (ho.lt g hg).2 (own_no_net ho h.box hm hne g hg).1 (own_no_net ho h.box hm hne g hg).2
theorem NetAt.boxKept (h : NetAt w B sb mb E d) (hk : Kept2 sb mb w w') {g : Nat} {t : TypeId} {cs : Array Value} (ho : Box w g t cs) (hne : t ≠ 102) : Box w' g t cs := by
  obtain ⟨es, c, hm⟩ := mapN_block h.own
  have h1 := box_no_net ho h.box hm hne
  exact (hk.block g ho.lt h1.1 h1.2).trans ho
theorem NetAt.get (h : NetAt w B sb mb E d) {k : Int} {e : NEn} (hg : getN k E = some e) : e.L.err = 0 ∧ OwnLps w B (.slice e.Ap e.L.ps.length e.cp) e.L.ps ∧ OwnLis w B (.slice e.Ai e.L.is.length e.ci) e.L.is :=
  ⟨h.good e (getN_some hg).1, h.rows e (getN_some hg).1⟩
/-- 'v, ok := m[k]' of the net's map -/
theorem NetAt.look (h : NetAt w B sb mb E d) (k : Int) (hk : (Lit.int .i64 k).wf = true) :
    (getN k E = none → (Instr.lookup 100 (.map (some mb)) (.int .i64 k) true).run Try.prog w = .ok (.tuple #[.agg #[.int .i64 0, .int .i64 0, .int .i64 0, .int .i64 0, .int .i64 0, .int .i64 0, .int .i64 0, .string ⟨#[]⟩, .string ⟨#[]⟩, .slice none 0 0, .slice none 0 0, .int .i64 0, .bool false, .string ⟨#[]⟩], .bool false]) w) ∧
    (∀ e, getN k E = some e → (Instr.lookup 100 (.map (some mb)) (.int .i64 k) true).run Try.prog w = .ok (.tuple #[.agg #[.int .i64 e.L.kind, .int .i64 e.L.frm, .int .i64 e.L.to, .int .i64 e.L.a, .int .i64 e.L.b, .int .i64 e.L.c, .int .i64 e.L.d, .string e.L.s, .string e.L.t, .slice e.Ap e.L.ps.length e.cp, .slice e.Ai e.L.is.length e.ci, .int .i64 e.L.code, .bool e.L.yes, .string e.L.body], .bool true]) w) := by
  have hz : (zeroValue 26).run Try.prog w = .ok (.agg #[.int .i64 0, .int .i64 0, .int .i64 0, .int .i64 0, .int .i64 0, .int .i64 0, .int .i64 0, .string ⟨#[]⟩, .string ⟨#[]⟩, .slice none 0 0, .slice none 0 0, .int .i64 0, .bool false, .string ⟨#[]⟩]) w := Try.zeroValue26 w
  have hkey := Maps.keyOf_int_mk Try.underlying3 hk
  obtain ⟨v, ps, hrun, hv⟩ := h.own.look_ok intKeyed Try.underlying100 hz (zd := .held (.agg #[.int .i64 0, .int .i64 0, .int .i64 0, .int .i64 0, .int .i64 0, .int .i64 0, .int .i64 0, .string ⟨#[]⟩, .string ⟨#[]⟩, .slice none 0 0, .slice none 0 0, .int .i64 0, .bool false, .string ⟨#[]⟩])) rfl hkey
  rw [nmap_has] at hrun
  rw [nmap_at] at hv
  simp only [Rn, Option.some.injEq, Prod.mk.injEq] at hv
  refine ⟨fun hg => ?_, fun e hg => ?_⟩
  · rw [hg] at hv hrun
    simp only [DataW.held.injEq] at hv
    rw [hv.1] at hrun
    exact hrun
  · rw [hg] at hv hrun
    simp only [DataW.held.injEq] at hv
    rw [hv.1] at hrun
    exact hrun
end
end Go.Proofs.Ytabcoidjbigdbaa

namespace Go.Proofs.Ytabcoidjbigdbaa
open Go.RowKit

theorem netNew_any (w : World) : Calls Try.prog 21 #[] w fun e w' => ∃ sb mb, e = .returned (.pointer (some ⟨sb, 0, none⟩)) ∧ NetAt w' w.heap.size sb mb [] 0 ∧ Below w.heap.size w w' := by
  obtain ⟨w1, hw1⟩ : ∃ w1, (w.alloc (.map #[] 0)).alloc (.cells #[.map (some w.heap.size), .int .i64 0] 102) = w1 := ⟨_, rfl⟩
  have hbox : Box w1 (w.heap.size + 1) 102 #[.map (some w.heap.size), .int .i64 ((0 : Nat) : Int)] := by
    have := Box.made (w.alloc (.map #[] 0)) 102 #[.map (some w.heap.size), .int .i64 0]
    rw [World.size_alloc, hw1] at this
    exact this
  have hown : w1.ownsMap Try.prog 3 Rn w.heap.size 0 (nmap []) := hw1 ▸ (World.ownsMap_made w Try.prog 3 Rn).alloc _
  have H : Hid (NetAt w1 w.heap.size (w.heap.size + 1) w.heap.size [] 0) := Lib.hid ⟨by omega, Nat.le_refl _, hbox, hown, List.Pairwise.nil, by simp, by simp, by simp⟩
  have HB : Hid (Below w.heap.size w w1) := Lib.hid (hw1 ▸ ((Below.refl _ w).alloc (Nat.le_refl _) _).alloc (by simp) _)
  clear hbox hown
  have hmk := run_makeMap (P := Try.prog) 100 w
  go_enter Try.func21, Try.ntmps21
  go_wp2
  go_ret
  exact ⟨_, _, rfl, H.out, HB.out⟩
section
variable {w : World} {B sb mb d : Nat} {E : List NEn}
theorem netLen_any (h : NetAt w B sb mb E d) : Calls Try.prog 34 #[.pointer (some ⟨sb, 0, none⟩)] w fun e w' => e = .returned (.int .i64 E.length) ∧ Below w.heap.size w w' := by
  obtain ⟨q0, -, -, -⟩ := h.cells
  have hl := h.own.len (ty := 3) Try.underlying100
  rw [nmap_size] at hl
  clear h
  go_enter Try.func34, Try.ntmps34
  go_wp2
  go_ret
  exact ⟨rfl, Below.refl _ _⟩
theorem sorts_int (m : Nat) : AnyZI.SortsIn Try.prog Try.sorted64_ren Fence.wide m :=
  ⟨fun blk off cap ss W hH hblk hsz => callsIn_wide.2 (AnyM.slices_Sort_int Try.sort85 blk off cap ss W hH hblk hsz),
   fun p cap W => callsIn_wide.2 (AnyM.slices_Sort_int_none Try.sort85 p cap W)⟩
theorem mapsKeysI_any (mb : Option Nat) (W : World) : Calls Try.prog 65 #[.map mb] W fun e w' => e = .returned (.func (.func 86) #[] #[.pointer (some ⟨W.heap.size, 0, none⟩)]) ∧ w' = W.alloc (.cells #[.map mb] 100) :=
  callsIn_wide.1 (AnyZI.keys_in Try.keys65 Fence.wide 5 trivial rfl mb W)
set_option maxHeartbeats 1000000 in
theorem sortedKeysI_any (b nn : Nat) (D0 : DataW Value) (w : World) (hown : w.ownsMap Try.prog 3 Rn b nn D0) (hmax : Maps.size D0 ≤ maxLen) (hbytes : Maps.size D0 * 8 ≤ 140737488355328) :
    Calls Try.prog 64 #[.func (.func 86) #[] #[.pointer (some ⟨w.heap.size, 0, none⟩)]] (w.alloc (.cells #[.map (some b)] 100)) fun e w' => ∃ (v : Value) (ss : List Int), e = .returned v ∧ ss.Perm (intKeys D0) ∧
      w'.ownsRow (w.alloc (.cells #[.map (some b)] 100)).heap.size 3 1 v ss.length ((ss.mergeSort (fun x y => decide (x ≤ y))).map encZ) ∧ (v = .slice none 0 0 ↔ ss = []) ∧ Below (w.alloc (.cells #[.map (some b)] 100)).heap.size (w.alloc (.cells #[.map (some b)] 100)) w' := by
  have hbl := hown.lt
  have hseq : SeqGives Fence.wide 2 Try.prog 86 #[.pointer (some ⟨w.heap.size, 0, none⟩)] encZ (fun ss => ss.Perm (intKeys D0)) (Maps.size D0) (w.alloc (.cells #[.map (some b)] 100)) :=
    AnyZI.keys_gives (ρ := Try.keys65_ren) { Try.keys65 with } Fence.wide _ trivial rfl (by omega) w.heap.size b nn D0 _ (by simp) (by simp) (by
      obtain ⟨es, clock, hb, Ft, hs, hD⟩ := hown
      exact ⟨es, clock, (Below.heap_alloc _ _ b hbl).trans hb, Ft, hs, hD⟩)
  exact callsIn_wide.1 (AnyZI.sorted_in Try.sorted64 Fence.wide 5 trivial trivial trivial trivial rfl (by omega) (sorts_int _) (enters_of Try.func85 (by kernel_rfl) rfl) 86 #[.pointer (some ⟨w.heap.size, 0, none⟩)] trivial (enters_of Try.func86 (by kernel_rfl) rfl) _ _ hmax hbytes _ hseq)
theorem nums_pair {E : List NEn} (h : E.Pairwise fun p q => p.n < q.n) : (E.map (·.n)).Pairwise (· < ·) := by
  rw [List.pairwise_map]
  exact h
set_option maxRecDepth 100000 in
theorem netUnder_any (h : NetAt w B sb mb E d) (hE : E.length ≤ 100000) : Calls Try.prog 32 #[.pointer (some ⟨sb, 0, none⟩)] w fun e w' => ∃ v, e = .returned v ∧ w'.ownsRow w.heap.size 3 1 v E.length ((E.map (·.n)).map encZ) ∧ Below w.heap.size w w' := by
  obtain ⟨q0, -, -, -⟩ := h.cells
  have Hs := Lib.hid (sortedKeysI_any mb E.length _ w h.own (by rw [nmap_size]; simp only [maxLen]; omega) (by rw [nmap_size]; omega))
  have Hr := Lib.hid (nums_pair h.rise)
  clear h
  go_enter Try.func32, Try.ntmps32
  go_wp2_with fail
  refine (mapsKeysI_any (some mb) _).mono ?_
  rintro e w1 ⟨rfl, rfl⟩
  go_wp2_with fail
  refine Hs.out.mono ?_
  rintro e w2 ⟨v, ss, rfl, hp, hrow, -, hb⟩
  have hb2 := Lib.hid ((below_box (w := w) (.cells #[.map (some mb)] 100)).trans (hb.mono (by simp)))
  rw [nmap_keys] at hp
  have hsort := sort_ints hp Hr.out
  have hlen : ss.length = E.length := by rw [hp.length_eq, List.length_map]
  rw [hsort, hlen] at hrow
  have Hrow := Lib.hid (own_base hrow (by simp : w.heap.size ≤ _))
  clear hb hsort hlen hrow hp
  go_wp2
  go_ret
  exact ⟨_, rfl, Hrow.out, hb2.out⟩
end
end Go.Proofs.Ytabcoidjbigdbaa

namespace Go.Proofs.Ytabcoidjbigdbaa
open Go.RowKit

theorem wf_nat (n : Nat) (h : n ≤ 1000000000000) : (Lit.int .i64 (n : Int)).wf = true := by
  have h1 : IntKind.i64.min = -9223372036854775808 := by decide
  have h2 : IntKind.i64.max = 9223372036854775807 := by decide
  simp only [Lit.wf, h1, h2, Bool.and_eq_true, decide_eq_true_eq]
  omega
theorem turnedN_box {w w' : World} {b g : Nat} {t : TypeId} {cs : Array Value} (h : w.mapTurned w' b) (hb : Box w g t cs) : Box w' g t cs := by
  obtain ⟨es, c, es', c', hm, rfl⟩ := h
  have hne : g ≠ b := fun e => by
    unfold Box at hb
    rw [e, hm] at hb
    cases hb
  exact (ChangeMaps.heap_setBlock_other hm _ hne).trans hb
theorem turnedN_own {w w' : World} {b B m size : Nat} {e : TypeId} {v : Value} {xs : List Value} (h : w.mapTurned w' b) (ho : w.ownsRow B e size v m xs) : w'.ownsRow B e size v m xs := by
  obtain ⟨es, c, es', c', hm, rfl⟩ := h
  refine ownN_keep ho fun g hg => ?_
  have hne : g ≠ b := fun e0 => by
    subst e0
    rcases ho.2 with ⟨rfl, _⟩ | ⟨g1, cap, cur, rfl, hB, hh, rest⟩
    · cases hg
    · cases hg
      rw [hh] at hm
      cases hm
  exact ChangeMaps.heap_setBlock_other hm _ hne
theorem turnedN_kept {w w' : World} {sb mb : Nat} (h : w.mapTurned w' mb) : Kept2 sb mb w w' := Kept2.grown h.grown (.inr rfl)
def AddPost (B sb mb : Nat) (E : List NEn) (d : Nat) (L : Let) (w : World) (e : Ending) (w' : World) : Prop :=
  (4096 ≤ E.length ∧ e = .returned (.tuple #[.int .i64 0, .int .i64 17]) ∧ NetAt w' B sb mb E d ∧ Below w.heap.size w w') ∨
  (E.length < 4096 ∧ ∃ en : NEn, en.n = ((d + 1 : Nat) : Int) ∧ en.L = L ∧ e = .returned (.tuple #[.int .i64 ((d + 1 : Nat) : Int), .int .i64 0]) ∧ NetAt w' B sb mb (E ++ [en]) (d + 1) ∧
    (OwnLps w' w.heap.size (.slice en.Ap L.ps.length en.cp) L.ps ∧ OwnLis w' w.heap.size (.slice en.Ai L.is.length en.ci) L.is) ∧ Kept2 sb mb w w')
section
variable {w : World} {B sb mb d : Nat} {E : List NEn}
/-- a net behind the new number, the map's store and the new letter -/
theorem add_end {w w2 wR wM : World} {B sb mb d : Nat} {E : List NEn} {L : Let} {Ap : Option Addr} {cp : Nat} {Ai : Option Addr} {ci : Nat} (h : NetAt w B sb mb E d) (hB : B ≤ w.heap.size) (k2 : Kept2 sb mb w w2) (bx : Box w2 sb 102 #[.map (some mb), .int .i64 ((d + 1 : Nat) : Int)])
    (hb : Below w2.heap.size w2 wR) (op : OwnLps wR w.heap.size (.slice Ap L.ps.length cp) L.ps) (oi : OwnLis wR w.heap.size (.slice Ai L.is.length ci) L.is) (hT : wR.mapTurned wM mb)
    (hM : wM.ownsMap Try.prog 3 Rn mb (E.length + 1) ((nmap E).put (.int .i64 ((d + 1 : Nat) : Int)) (.held (.agg #[.int .i64 L.kind, .int .i64 L.frm, .int .i64 L.to, .int .i64 L.a, .int .i64 L.b, .int .i64 L.c, .int .i64 L.d, .string L.s, .string L.t, .slice Ap L.ps.length cp, .slice Ai L.is.length ci, .int .i64 L.code, .bool L.yes, .string L.body])))) (hL : L.err = 0) :
    NetAt wM B sb mb (E ++ [⟨((d + 1 : Nat) : Int), Ap, cp, Ai, ci, L⟩]) (d + 1) ∧ (OwnLps wM w.heap.size (.slice Ap L.ps.length cp) L.ps ∧ OwnLis wM w.heap.size (.slice Ai L.is.length ci) L.is) ∧ Kept2 sb mb w wM := by
  have hlt : ∀ p ∈ E, p.n < ((d + 1 : Nat) : Int) := fun p hp => by have := (h.nums p hp).2; omega
  have kk : Kept2 sb mb w wM := k2.trans ((Kept2.of hb).trans (turnedN_kept hT))
  have e := nmap_put E ⟨((d + 1 : Nat) : Int), Ap, cp, Ai, ci, L⟩ hlt
  have hM2 := mapN_size (e ▸ hM)
  rw [nmap_size] at hM2
  have o1 : OwnLps wM w.heap.size (.slice Ap L.ps.length cp) L.ps := turnedN_own hT op
  have o2 : OwnLis wM w.heap.size (.slice Ai L.is.length ci) L.is := turnedN_own hT oi
  refine ⟨⟨h.sB, h.mB, turnedN_box hT (bx.below hb bx.lt), hM2, ?_, ?_, ?_, ?_⟩, ⟨o1, o2⟩, kk⟩
  · rw [List.pairwise_append]
    exact ⟨h.rise, by simp, fun a ha b hb' => by simp at hb'; subst hb'; exact hlt a ha⟩
  · intro p hp
    rcases List.mem_append.1 hp with hp | hp
    · have := h.nums p hp; omega
    · simp at hp; subst hp; exact ⟨by show (1 : Int) ≤ ((d + 1 : Nat) : Int); omega, Int.le_refl _⟩
  · intro p hp
    rcases List.mem_append.1 hp with hp | hp
    · exact ⟨h.rowKept kk (h.rows p hp).1 typesN.1, h.rowKept kk (h.rows p hp).2 typesN.2⟩
    · simp at hp; subst hp; exact ⟨own_baseN o1 hB, own_baseN o2 hB⟩
  · intro p hp
    rcases List.mem_append.1 hp with hp | hp
    · exact h.good p hp
    · simp at hp; subst hp; exact hL
set_option maxRecDepth 100000 in
set_option maxHeartbeats 6400000 in
theorem netAdd_any (h : NetAt w B sb mb E d) (hB : B ≤ w.heap.size) (hd : d ≤ 100000000000) (L : Let) (Ap : Option Addr) (np cp : Nat) (Ai : Option Addr) (ni ci : Nat) (hR : ∀ wx, Kept2 sb mb w wx → HasLps wx wx.heap.size Ap np L.ps ∧ HasLis wx wx.heap.size Ai ni L.is) (hL : L.err = 0) :
    Calls Try.prog 62 #[.pointer (some ⟨sb, 0, none⟩), .agg #[.int .i64 L.kind, .int .i64 L.frm, .int .i64 L.to, .int .i64 L.a, .int .i64 L.b, .int .i64 L.c, .int .i64 L.d, .string L.s, .string L.t, .slice Ap np cp, .slice Ai ni ci, .int .i64 L.code, .bool L.yes, .string L.body]] w (AddPost B sb mb E d L w) := by
  obtain ⟨w1, hw1⟩ : ∃ w1, (w.alloc (.cells #[.int .i64 L.kind, .int .i64 L.frm, .int .i64 L.to, .int .i64 L.a, .int .i64 L.b, .int .i64 L.c, .int .i64 L.d, .string L.s, .string L.t, .slice Ap np cp, .slice Ai ni ci, .int .i64 L.code, .bool L.yes, .string L.body] 26)) = w1 := ⟨_, rfl⟩
  have b1 : Below w.heap.size w w1 := hw1 ▸ below_box _
  have x1 : Box w1 w.heap.size 26 #[.int .i64 L.kind, .int .i64 L.frm, .int .i64 L.to, .int .i64 L.a, .int .i64 L.b, .int .i64 L.c, .int .i64 L.d, .string L.s, .string L.t, .slice Ap np cp, .slice Ai ni ci, .int .i64 L.code, .bool L.yes, .string L.body] := hw1 ▸ Box.made _ _ _
  have h1 := h.below b1
  obtain ⟨q0, q1, f0, f1⟩ := h1.cells
  have hl := h1.own.len (ty := 3) Try.underlying100
  rw [nmap_size] at hl
  by_cases hE : 4096 ≤ E.length
  · have hE' : (4096 : Int) ≤ (E.length : Int) := by omega
    have H1 := Lib.hid (And.intro h1 b1)
    clear h1 x1 b1 h
    unfold AddPost
    go_enter Try.func62, Try.ntmps62
    go_wp2
    go_ret2
    exact .inl ⟨hE, rfl, H1.out.1, H1.out.2⟩
  · have hE' : ¬ (4096 : Int) ≤ (E.length : Int) := by omega
    have hwr : IntKind.i64.wrap ((d : Int) + 1) = (d : Int) + 1 := IntWalk.i64_in _ (by omega)
    obtain ⟨w2, hw2⟩ : ∃ w2, w1.setCell ⟨sb, 1, none⟩ (.int .i64 ((d : Int) + 1)) = w2 := ⟨_, rfl⟩
    have g2 : w1.grownBy w2 (some sb) := hw2 ▸ ⟨rfl, rfl, rfl, by simp, fun k _ hne => Below.heap_setCell w1 ⟨sb, 1, none⟩ (.int .i64 ((d : Int) + 1)) k (fun e => hne (by rw [e]))⟩
    have bx2 : Box w2 sb 102 #[.map (some mb), .int .i64 ((d + 1 : Nat) : Int)] := hw2 ▸ h1.box.set_ 1 (.int .i64 ((d : Int) + 1))
    have hsl : sb < w.heap.size := h.lt.1
    have x2 : Box w2 w.heap.size 26 #[.int .i64 L.kind, .int .i64 L.frm, .int .i64 L.to, .int .i64 L.a, .int .i64 L.b, .int .i64 L.c, .int .i64 L.d, .string L.s, .string L.t, .slice Ap np cp, .slice Ai ni ci, .int .i64 L.code, .bool L.yes, .string L.body] := x1.grown g2 (fun e => by injection e with e; omega)
    have k2 : Kept2 sb mb w w2 := (Kept2.of b1).trans (Kept2.grown g2 (.inl rfl))
    have m2 : w2.ownsMap Try.prog 3 Rn mb E.length (nmap E) := mapN_keep h1.own (g2.block mb h1.own.lt (fun e => h1.ne (by injection e with e; exact e.symm)))
    have HS2 : Hid (∀ wx, Below w2.heap.size w2 wx → ((wx.cell? ⟨sb, 0, none⟩ = some (.map (some mb)) ∧ wx.cell? ⟨sb, 1, none⟩ = some (.int .i64 ((d : Int) + 1))) ∧ (wx.cell? ⟨w.heap.size, 0, none⟩ = some (.int .i64 L.kind) ∧ wx.cell? ⟨w.heap.size, 1, none⟩ = some (.int .i64 L.frm) ∧ wx.cell? ⟨w.heap.size, 2, none⟩ = some (.int .i64 L.to) ∧ wx.cell? ⟨w.heap.size, 3, none⟩ = some (.int .i64 L.a) ∧ wx.cell? ⟨w.heap.size, 4, none⟩ = some (.int .i64 L.b) ∧ wx.cell? ⟨w.heap.size, 5, none⟩ = some (.int .i64 L.c) ∧ wx.cell? ⟨w.heap.size, 6, none⟩ = some (.int .i64 L.d) ∧ wx.cell? ⟨w.heap.size, 7, none⟩ = some (.string L.s) ∧ wx.cell? ⟨w.heap.size, 8, none⟩ = some (.string L.t) ∧ wx.cell? ⟨w.heap.size, 9, none⟩ = some (.slice Ap np cp) ∧ wx.cell? ⟨w.heap.size, 10, none⟩ = some (.slice Ai ni ci) ∧ wx.cell? ⟨w.heap.size, 11, none⟩ = some (.int .i64 L.code) ∧ wx.cell? ⟨w.heap.size, 12, none⟩ = some (.bool L.yes) ∧ wx.cell? ⟨w.heap.size, 13, none⟩ = some (.string L.body))) ∧ Box wx sb 102 #[.map (some mb), .int .i64 ((d + 1 : Nat) : Int)] ∧ Box wx w.heap.size 26 #[.int .i64 L.kind, .int .i64 L.frm, .int .i64 L.to, .int .i64 L.a, .int .i64 L.b, .int .i64 L.c, .int .i64 L.d, .string L.s, .string L.t, .slice Ap np cp, .slice Ai ni ci, .int .i64 L.code, .bool L.yes, .string L.body]) := Lib.hid fun wx hx => by
      have a := bx2.below hx bx2.lt
      have b := x2.below hx x2.lt
      exact ⟨⟨⟨a.cell 0, a.cell 1⟩, b.cell 0, b.cell 1, b.cell 2, b.cell 3, b.cell 4, b.cell 5, b.cell 6, b.cell 7, b.cell 8, b.cell 9, b.cell 10, b.cell 11, b.cell 12, b.cell 13⟩, a, b⟩
    have HR : Hid (∀ wM, Box wM sb 102 #[.map (some mb), .int .i64 ((d + 1 : Nat) : Int)] → Box wM w.heap.size 26 #[.int .i64 L.kind, .int .i64 L.frm, .int .i64 L.to, .int .i64 L.a, .int .i64 L.b, .int .i64 L.c, .int .i64 L.d, .string L.s, .string L.t, .slice Ap np cp, .slice Ai ni ci, .int .i64 L.code, .bool L.yes, .string L.body] → ((wM.cell? ⟨sb, 0, none⟩ = some (.map (some mb)) ∧ wM.cell? ⟨sb, 1, none⟩ = some (.int .i64 ((d : Int) + 1))) ∧ (wM.cell? ⟨w.heap.size, 0, none⟩ = some (.int .i64 L.kind) ∧ wM.cell? ⟨w.heap.size, 1, none⟩ = some (.int .i64 L.frm) ∧ wM.cell? ⟨w.heap.size, 2, none⟩ = some (.int .i64 L.to) ∧ wM.cell? ⟨w.heap.size, 3, none⟩ = some (.int .i64 L.a) ∧ wM.cell? ⟨w.heap.size, 4, none⟩ = some (.int .i64 L.b) ∧ wM.cell? ⟨w.heap.size, 5, none⟩ = some (.int .i64 L.c) ∧ wM.cell? ⟨w.heap.size, 6, none⟩ = some (.int .i64 L.d) ∧ wM.cell? ⟨w.heap.size, 7, none⟩ = some (.string L.s) ∧ wM.cell? ⟨w.heap.size, 8, none⟩ = some (.string L.t) ∧ wM.cell? ⟨w.heap.size, 9, none⟩ = some (.slice Ap np cp) ∧ wM.cell? ⟨w.heap.size, 10, none⟩ = some (.slice Ai ni ci) ∧ wM.cell? ⟨w.heap.size, 11, none⟩ = some (.int .i64 L.code) ∧ wM.cell? ⟨w.heap.size, 12, none⟩ = some (.bool L.yes) ∧ wM.cell? ⟨w.heap.size, 13, none⟩ = some (.string L.body)))) := Lib.hid fun wM a b =>
      ⟨⟨a.cell 0, a.cell 1⟩, b.cell 0, b.cell 1, b.cell 2, b.cell 3, b.cell 4, b.cell 5, b.cell 6, b.cell 7, b.cell 8, b.cell 9, b.cell 10, b.cell 11, b.cell 12, b.cell 13⟩
    have HC : Hid (∀ wx, Below w2.heap.size w2 wx → Calls Try.prog 19 #[.agg #[.int .i64 L.kind, .int .i64 L.frm, .int .i64 L.to, .int .i64 L.a, .int .i64 L.b, .int .i64 L.c, .int .i64 L.d, .string L.s, .string L.t, .slice Ap np cp, .slice Ai ni ci, .int .i64 L.code, .bool L.yes, .string L.body]] wx (CopyPost L wx)) := Lib.hid fun wx hx => by
      obtain ⟨a, b⟩ := hR wx (k2.trans (Kept2.of hx))
      obtain ⟨-, n1, n2, n3⟩ := err_zero.1 hL
      obtain ⟨s1, s2, s3⟩ := let_small n3
      have e1 := a.1
      have e2 := b.1
      exact copy_any L Ap np cp Ai ni ci wx.heap.size wx a b (Nat.le_refl _) ⟨by omega, by omega⟩ (fun s hs => Nat.le_trans (s1 s hs) (by omega)) (fun p hp => ⟨Nat.le_trans (s2 p hp).1 (by omega), Nat.le_trans (s2 p hp).2 (by omega)⟩) (fun p hp => Nat.le_trans (s3 p hp) (by omega))
    have Hkey := Lib.hid (Maps.keyOf_int_mk (P := Try.prog) Try.underlying3 (wf_nat (d + 1) (by omega)))
    have HM2 := Lib.hid (And.intro m2 (And.intro k2 bx2))
    have HH := Lib.hid (And.intro h (And.intro hB hL))
    have HEl := Lib.hid hE
    have hs2 : w.heap.size ≤ w2.heap.size := k2.size
    clear m2 k2 bx2 x2 g2 h1 x1 b1 h hE hR hL hB
    unfold AddPost
    go_enter Try.func62, Try.ntmps62
    go_wp2
    go_region_held3 (fun wx => ((wx.cell? ⟨sb, 0, none⟩ = some (.map (some mb)) ∧ wx.cell? ⟨sb, 1, none⟩ = some (.int .i64 ((d : Int) + 1))) ∧ (wx.cell? ⟨w.heap.size, 0, none⟩ = some (.int .i64 L.kind) ∧ wx.cell? ⟨w.heap.size, 1, none⟩ = some (.int .i64 L.frm) ∧ wx.cell? ⟨w.heap.size, 2, none⟩ = some (.int .i64 L.to) ∧ wx.cell? ⟨w.heap.size, 3, none⟩ = some (.int .i64 L.a) ∧ wx.cell? ⟨w.heap.size, 4, none⟩ = some (.int .i64 L.b) ∧ wx.cell? ⟨w.heap.size, 5, none⟩ = some (.int .i64 L.c) ∧ wx.cell? ⟨w.heap.size, 6, none⟩ = some (.int .i64 L.d) ∧ wx.cell? ⟨w.heap.size, 7, none⟩ = some (.string L.s) ∧ wx.cell? ⟨w.heap.size, 8, none⟩ = some (.string L.t) ∧ wx.cell? ⟨w.heap.size, 9, none⟩ = some (.slice Ap np cp) ∧ wx.cell? ⟨w.heap.size, 10, none⟩ = some (.slice Ai ni ci) ∧ wx.cell? ⟨w.heap.size, 11, none⟩ = some (.int .i64 L.code) ∧ wx.cell? ⟨w.heap.size, 12, none⟩ = some (.bool L.yes) ∧ wx.cell? ⟨w.heap.size, 13, none⟩ = some (.string L.body))))
      (first | exact (HS2.out _ (Below.refl _ _).drew).1 | exact (HS2.out _ cR).1 | exact HSM.out)
      (first
        | (go_at_call 19; refine (HC.out _ (Below.refl _ _).drew).mono ?_; rintro e wR ⟨Av, cv, Iv, dv, rfl, oP, oI, bR⟩; have cR : Below w2.heap.size w2 wR := (Below.refl w2.heap.size w2).drew.trans bR; have mR := mapN_keep HM2.out.1 (cR.block mb HM2.out.1.lt); obtain ⟨wM, hrM, mM, tM⟩ := mR.store intKeyed Try.underlying100 (by simp only [maxLen]; omega) Hkey.out (R := Rn) (val := .agg #[.int .i64 L.kind, .int .i64 L.frm, .int .i64 L.to, .int .i64 L.a, .int .i64 L.b, .int .i64 L.c, .int .i64 L.d, .string L.s, .string L.t, .slice Av L.ps.length cv, .slice Iv L.is.length dv, .int .i64 L.code, .bool L.yes, .string L.body]) (d := .held (.agg #[.int .i64 L.kind, .int .i64 L.frm, .int .i64 L.to, .int .i64 L.a, .int .i64 L.b, .int .i64 L.c, .int .i64 L.d, .string L.s, .string L.t, .slice Av L.ps.length cv, .slice Iv L.is.length dv, .int .i64 L.code, .bool L.yes, .string L.body])) (ps := []) rfl; have hrN : (Instr.mapUpdate 100 (.map (some mb)) (.int .i64 ((d : Int) + 1)) (.agg #[.int .i64 L.kind, .int .i64 L.frm, .int .i64 L.to, .int .i64 L.a, .int .i64 L.b, .int .i64 L.c, .int .i64 L.d, .string L.s, .string L.t, .slice Av L.ps.length cv, .slice Iv L.is.length dv, .int .i64 L.code, .bool L.yes, .string L.body])).run Try.prog wR = .ok () wM := hrM; have HSM := Lib.hid (HR.out wM (turnedN_box tM (HS2.out wR cR).2.1) (turnedN_box tM (HS2.out wR cR).2.2))))
    have HE := Lib.hid (add_end HH.out.1 HH.out.2.1 HM2.out.2.1 HM2.out.2.2 cR (own_baseN oP (by have : w.heap.size ≤ w2.heap.size := hs2; simp; omega)) (own_baseN oI (by have : w.heap.size ≤ w2.heap.size := hs2; simp; omega)) tM mM HH.out.2.2)
    have z1 : wM.cell? ⟨sb, 1, none⟩ = some (.int .i64 ((d : Int) + 1)) := HSM.out.1.2
    clear mM tM mR cR oP oI bR
    go_wp2
    go_ret2
    exact .inr ⟨by omega, _, rfl, rfl, rfl, HE.out.1, HE.out.2.1, HE.out.2.2⟩
end
end Go.Proofs.Ytabcoidjbigdbaa

namespace Go.Proofs.Ytabcoidjbigdbaa
open Go.RowKit

theorem AddPost.from {B sb mb d : Nat} {E : List NEn} {L : Let} {w w2 w' : World} {e : Ending} (hb : Below w.heap.size w w2) (h : AddPost B sb mb E d L w2 e w') : AddPost B sb mb E d L w e w' := by
  rcases h with ⟨h1, h2, h3, h4⟩ | ⟨h1, en, h2, h3, h4, h5, h6, h7⟩
  · exact .inl ⟨h1, h2, h3, hb.trans (h4.mono hb.size)⟩
  · exact .inr ⟨h1, en, h2, h3, h4, h5, ⟨own_baseN h6.1 hb.size, own_baseN h6.2 hb.size⟩, (Kept2.of hb).trans h7⟩
def SendPost (B sb mb : Nat) (E : List NEn) (d : Nat) (L : Let) (w : World) (e : Ending) (w' : World) : Prop :=
  (L.err ≠ 0 ∧ e = .returned (.tuple #[.int .i64 0, .int .i64 L.err]) ∧ NetAt w' B sb mb E d ∧ Below w.heap.size w w') ∨ (L.err = 0 ∧ AddPost B sb mb E d L w e w')
section
variable {w : World} {B sb mb d : Nat} {E : List NEn}
set_option maxRecDepth 100000 in
set_option maxHeartbeats 6400000 in
theorem netSend_any (h : NetAt w B sb mb E d) (hB : B ≤ w.heap.size) (hd : d ≤ 100000000000) (L : Let) (Ap : Option Addr) (np cp : Nat) (Ai : Option Addr) (ni ci : Nat) (hR : ∀ wx, Kept2 sb mb w wx → HasLps wx wx.heap.size Ap np L.ps ∧ HasLis wx wx.heap.size Ai ni L.is)
    (hn : np ≤ maxLen ∧ ni ≤ maxLen) (ht : ∀ s ∈ L.txts, s.size ≤ 140737488355328) (htp : ∀ p ∈ L.ps, p.k.size ≤ 140737488355328 ∧ p.v.size ≤ 140737488355328) (hti : ∀ p ∈ L.is, p.e.size ≤ 140737488355328) :
    Calls Try.prog 22 #[.pointer (some ⟨sb, 0, none⟩), .agg #[.int .i64 L.kind, .int .i64 L.frm, .int .i64 L.to, .int .i64 L.a, .int .i64 L.b, .int .i64 L.c, .int .i64 L.d, .string L.s, .string L.t, .slice Ap np cp, .slice Ai ni ci, .int .i64 L.code, .bool L.yes, .string L.body]] w (SendPost B sb mb E d L w) := by
  obtain ⟨w1, hw1⟩ : ∃ w1, (w.alloc (.cells #[.int .i64 L.kind, .int .i64 L.frm, .int .i64 L.to, .int .i64 L.a, .int .i64 L.b, .int .i64 L.c, .int .i64 L.d, .string L.s, .string L.t, .slice Ap np cp, .slice Ai ni ci, .int .i64 L.code, .bool L.yes, .string L.body] 26)) = w1 := ⟨_, rfl⟩
  have b1 : Below w.heap.size w w1 := hw1 ▸ below_box _
  have x1 : Box w1 w.heap.size 26 #[.int .i64 L.kind, .int .i64 L.frm, .int .i64 L.to, .int .i64 L.a, .int .i64 L.b, .int .i64 L.c, .int .i64 L.d, .string L.s, .string L.t, .slice Ap np cp, .slice Ai ni ci, .int .i64 L.code, .bool L.yes, .string L.body] := hw1 ▸ Box.made _ _ _
  obtain ⟨k1, k2⟩ := hR w1 (Kept2.of b1)
  have Hck := Lib.hid (letCheck_any L Ap np cp Ai ni ci w1.heap.size w1 k1 k2 (Nat.le_refl _) hn ht htp hti)
  unfold LetErrPost at Hck
  have HN : Hid (∀ wx, Below w.heap.size w wx → NetAt wx B sb mb E d) := Lib.hid fun wx hx => h.below hx
  have HAdd : Hid (∀ wx, Below w.heap.size w wx → L.err = 0 → Calls Try.prog 62 #[.pointer (some ⟨sb, 0, none⟩), .agg #[.int .i64 L.kind, .int .i64 L.frm, .int .i64 L.to, .int .i64 L.a, .int .i64 L.b, .int .i64 L.c, .int .i64 L.d, .string L.s, .string L.t, .slice Ap np cp, .slice Ai ni ci, .int .i64 L.code, .bool L.yes, .string L.body]] wx (AddPost B sb mb E d L wx)) := Lib.hid fun wx hx hL =>
    netAdd_any (h.below hx) (Nat.le_trans hB hx.size) hd L Ap np cp Ai ni ci (fun wy hy => hR wy ((Kept2.of hx).trans hy)) hL
  have HX : Hid (∀ wx, Below w1.heap.size w1 wx → Below w.heap.size w wx ∧ Box wx w.heap.size 26 #[.int .i64 L.kind, .int .i64 L.frm, .int .i64 L.to, .int .i64 L.a, .int .i64 L.b, .int .i64 L.c, .int .i64 L.d, .string L.s, .string L.t, .slice Ap np cp, .slice Ai ni ci, .int .i64 L.code, .bool L.yes, .string L.body]) := Lib.hid fun wx hx => ⟨b1.trans (hx.mono b1.size), x1.below hx x1.lt⟩
  obtain ⟨⟨x0, x2, x3, x4, x5, x6, x7⟩, ⟨x8, x9⟩, ⟨x10, x11⟩, ⟨x12, x13, x14⟩⟩ := let_cells x1
  clear h hB hd hR hn ht htp hti b1 x1 k1 k2
  obtain ⟨z, hz⟩ : ∃ z, L.err = z := ⟨_, rfl⟩
  have Hz := Lib.hid hz
  rw [hz] at Hck
  clear hz
  go_enter Try.func22, Try.ntmps22
  go_wp2_with fail
  refine Hck.out.mono ?_
  rintro e w2 ⟨rfl, b2⟩
  have H2 := Lib.hid (HX.out w2 b2)
  clear x0 x2 x3 x4 x5 x6 x7 x8 x9 x10 x11 x12 x13 x14 b2 Hck
  by_cases h0 : z = 0
  · subst h0
    obtain ⟨⟨x0, x2, x3, x4, x5, x6, x7⟩, ⟨x8, x9⟩, ⟨x10, x11⟩, ⟨x12, x13, x14⟩⟩ := let_cells H2.out.2
    have Hadd := Lib.hid (HAdd.out w2 H2.out.1 Hz.out)
    clear HAdd
    go_wp2_with fail
    refine Hadd.out.mono ?_
    rintro e w3 hp
    have hq := AddPost.from H2.out.1 hp
    clear hp Hadd x0 x2 x3 x4 x5 x6 x7 x8 x9 x10 x11 x12 x13 x14
    rcases hq with ⟨h1, rfl, h3, h4⟩ | ⟨h1, en, h2, h3, rfl, h5, h6, h7⟩
    · have HE := Lib.hid (And.intro h1 (And.intro h3 h4))
      clear h1 h3 h4
      go_wp2
      go_ret2
      exact .inr ⟨Hz.out, .inl ⟨HE.out.1, rfl, HE.out.2.1, HE.out.2.2⟩⟩
    · have HE := Lib.hid (And.intro h1 (And.intro h2 (And.intro h3 (And.intro h5 (And.intro h6 h7)))))
      clear h1 h2 h3 h5 h6 h7
      go_wp2
      go_ret2
      exact .inr ⟨Hz.out, .inr ⟨HE.out.1, en, HE.out.2.1, HE.out.2.2.1, rfl, HE.out.2.2.2.1, HE.out.2.2.2.2.1, HE.out.2.2.2.2.2⟩⟩
  · have hb0 : (z != 0) = true := by simpa using h0
    have HE := Lib.hid (And.intro h0 (And.intro (HN.out w2 H2.out.1) H2.out.1))
    clear h0
    go_wp2
    go_ret2
    exact .inl ⟨fun e => HE.out.1 (Hz.out.symm.trans e), congrArg (fun q => Ending.returned (.tuple #[.int .i64 0, .int .i64 q])) Hz.out.symm, HE.out.2.1, HE.out.2.2⟩
/-- the rows of a letter under way stay, whatever becomes of the net's box and map -/
theorem NetAt.rowsStay (h : NetAt w B sb mb E d) {e : NEn} (he : OwnLps w B (.slice e.Ap e.L.ps.length e.cp) e.L.ps ∧ OwnLis w B (.slice e.Ai e.L.is.length e.ci) e.L.is) : ∀ wx, Kept2 sb mb w wx → HasLps wx wx.heap.size e.Ap e.L.ps.length e.L.ps ∧ HasLis wx wx.heap.size e.Ai e.L.is.length e.L.is := by
  intro wx hx
  have o1 : OwnLps wx B (.slice e.Ap e.L.ps.length e.cp) e.L.ps := h.rowKept hx he.1 typesN.1
  have o2 : OwnLis wx B (.slice e.Ai e.L.is.length e.ci) e.L.is := h.rowKept hx he.2 typesN.2
  obtain ⟨A1, c1, e1, -, -, k1⟩ := o1.slice
  obtain ⟨A2, c2, e2, -, -, k2⟩ := o2.slice
  injection e1 with e1 _ e1'
  injection e2 with e2 _ e2'
  subst e1 e2
  exact ⟨k1, k2⟩
def TwicePost (B sb mb : Nat) (E : List NEn) (d : Nat) (k : Int) (w : World) (e : Ending) (w' : World) : Prop :=
  (getN k E = none ∧ e = .returned (.tuple #[.int .i64 0, .int .i64 7]) ∧ NetAt w' B sb mb E d ∧ Below w.heap.size w w') ∨ (∃ e0, getN k E = some e0 ∧ AddPost B sb mb E d e0.L w e w')
set_option maxRecDepth 100000 in
set_option maxHeartbeats 6400000 in
theorem netTwice_any (h : NetAt w B sb mb E d) (hB : B ≤ w.heap.size) (hd : d ≤ 100000000000) (k : Int) (hk : (Lit.int .i64 k).wf = true) :
    Calls Try.prog 27 #[.pointer (some ⟨sb, 0, none⟩), .int .i64 k] w (TwicePost B sb mb E d k w) := by
  obtain ⟨q0, -, -, -⟩ := h.cells
  obtain ⟨l0, l1⟩ := h.look k hk
  cases hg : getN k E with
  | none =>
    have hl := l0 hg
    have HE := Lib.hid (h.below (below_box (.cells #[.int .i64 0, .int .i64 0, .int .i64 0, .int .i64 0, .int .i64 0, .int .i64 0, .int .i64 0, .string ⟨#[]⟩, .string ⟨#[]⟩, .slice none 0 0, .slice none 0 0, .int .i64 0, .bool false, .string ⟨#[]⟩] 26)))
    have HG := Lib.hid hg
    clear l0 l1 h hB hd hk hg
    unfold TwicePost
    go_enter Try.func27, Try.ntmps27
    go_wp2
    go_ret2
    exact .inl ⟨HG.out, rfl, HE.out, below_box _⟩
  | some e0 =>
    have hl := l1 e0 hg
    obtain ⟨g1, g2⟩ := h.get hg
    obtain ⟨n, Ap, cp, Ai, ci, L⟩ := e0
    simp only at hl g1 g2
    obtain ⟨w1, hw1⟩ : ∃ w1, (w.alloc (.cells #[.int .i64 L.kind, .int .i64 L.frm, .int .i64 L.to, .int .i64 L.a, .int .i64 L.b, .int .i64 L.c, .int .i64 L.d, .string L.s, .string L.t, .slice Ap L.ps.length cp, .slice Ai L.is.length ci, .int .i64 L.code, .bool L.yes, .string L.body] 26)) = w1 := ⟨_, rfl⟩
    have b1 : Below w.heap.size w w1 := hw1 ▸ below_box _
    have x1 : Box w1 w.heap.size 26 #[.int .i64 L.kind, .int .i64 L.frm, .int .i64 L.to, .int .i64 L.a, .int .i64 L.b, .int .i64 L.c, .int .i64 L.d, .string L.s, .string L.t, .slice Ap L.ps.length cp, .slice Ai L.is.length ci, .int .i64 L.code, .bool L.yes, .string L.body] := hw1 ▸ Box.made _ _ _
    have Hadd := Lib.hid (netAdd_any (h.below b1) (Nat.le_trans hB b1.size) hd L Ap L.ps.length cp Ai L.is.length ci (fun wy hy => h.rowsStay (e := ⟨n, Ap, cp, Ai, ci, L⟩) g2 wy ((Kept2.of b1).trans hy)) g1)
    obtain ⟨⟨x0, x2, x3, x4, x5, x6, x7⟩, ⟨x8, x9⟩, ⟨x10, x11⟩, ⟨x12, x13, x14⟩⟩ := let_cells x1
    have HB := Lib.hid b1
    have HG := Lib.hid hg
    clear l0 l1 h hB hd hk g1 g2 b1 x1 hg
    unfold TwicePost
    go_enter Try.func27, Try.ntmps27
    go_wp2_with fail
    refine Hadd.out.mono ?_
    rintro e w3 hp
    have hq := AddPost.from HB.out hp
    clear hp Hadd x0 x2 x3 x4 x5 x6 x7 x8 x9 x10 x11 x12 x13 x14 hl q0
    rcases hq with ⟨h1, rfl, h3, h4⟩ | ⟨h1, en, h2, h3, rfl, h5, h6, h7⟩
    · have HE := Lib.hid (And.intro h1 (And.intro h3 h4))
      clear h1 h3 h4
      go_wp2
      go_ret2
      exact .inr ⟨_, HG.out, .inl ⟨HE.out.1, rfl, HE.out.2.1, HE.out.2.2⟩⟩
    · have HE := Lib.hid (And.intro h1 (And.intro h2 (And.intro h3 (And.intro h5 (And.intro h6 h7)))))
      clear h1 h2 h3 h5 h6 h7
      go_wp2
      go_ret2
      exact .inr ⟨_, HG.out, .inr ⟨HE.out.1, en, HE.out.2.1, HE.out.2.2.1, rfl, HE.out.2.2.2.1, HE.out.2.2.2.2.1, HE.out.2.2.2.2.2⟩⟩
end
end Go.Proofs.Ytabcoidjbigdbaa

namespace Go.Proofs.Ytabcoidjbigdbaa
open Go.RowKit

def DelPost (B sb mb : Nat) (E : List NEn) (d : Nat) (k : Int) (w : World) (e : Ending) (w' : World) : Prop :=
  (getN k E = none ∧ e = .returned (.tuple #[.agg #[.int .i64 0, .int .i64 0, .int .i64 0, .int .i64 0, .int .i64 0, .int .i64 0, .int .i64 0, .string ⟨#[]⟩, .string ⟨#[]⟩, .slice none 0 0, .slice none 0 0, .int .i64 0, .bool false, .string ⟨#[]⟩], .int .i64 7]) ∧ NetAt w' B sb mb E d ∧ Below w.heap.size w w') ∨
  (∃ e0, getN k E = some e0 ∧ e = .returned (.tuple #[.agg #[.int .i64 e0.L.kind, .int .i64 e0.L.frm, .int .i64 e0.L.to, .int .i64 e0.L.a, .int .i64 e0.L.b, .int .i64 e0.L.c, .int .i64 e0.L.d, .string e0.L.s, .string e0.L.t, .slice e0.Ap e0.L.ps.length e0.cp, .slice e0.Ai e0.L.is.length e0.ci, .int .i64 e0.L.code, .bool e0.L.yes, .string e0.L.body], .int .i64 0]) ∧ NetAt w' B sb mb (delN k E) d ∧
    (OwnLps w' B (.slice e0.Ap e0.L.ps.length e0.cp) e0.L.ps ∧ OwnLis w' B (.slice e0.Ai e0.L.is.length e0.ci) e0.L.is) ∧ Kept2 sb mb w w')
section
variable {w : World} {B sb mb d : Nat} {E : List NEn}
theorem NetAt.del {w w2 wM : World} {B sb mb d : Nat} {E : List NEn} {k : Int} (h : NetAt w B sb mb E d) (hb : Below w.heap.size w w2) (hM : wM.ownsMap Try.prog 3 Rn mb E.length ((nmap E).del (.int .i64 k))) (hT : w2.mapTurned wM mb) : NetAt wM B sb mb (delN k E) d ∧ Kept2 sb mb w wM := by
  have kk : Kept2 sb mb w wM := (Kept2.of hb).trans (turnedN_kept hT)
  rw [nmap_del] at hM
  have hM2 := mapN_size hM
  rw [nmap_size] at hM2
  have sub : ∀ p ∈ delN k E, p ∈ E := fun p hp => (List.mem_filter.1 hp).1
  exact ⟨⟨h.sB, h.mB, turnedN_box hT (h.below hb).box, hM2, h.rise.filter _, fun p hp => h.nums p (sub p hp), fun p hp => ⟨h.rowKept kk (h.rows p (sub p hp)).1 typesN.1, h.rowKept kk (h.rows p (sub p hp)).2 typesN.2⟩, fun p hp => h.good p (sub p hp)⟩, kk⟩
theorem NetAt.upto {w : World} {B sb mb d : Nat} {E : List NEn} (h : NetAt w B sb mb E d) {w' : World} {g : Nat} (hg : w.grownBy w' (some g)) (h1 : ∀ i o, w.heap[i]? = some o → i = sb ∨ i = mb ∨ (∃ cs, o = .cells cs 38 (0, 0)) ∨ (∃ cs, o = .cells cs 40 (0, 0)) → i ≠ g) : NetAt w' B sb mb E d := by
  obtain ⟨es, c, hm⟩ := mapN_block h.own
  have hsb := h.box
  unfold Box at hsb
  refine { h with
    box := h.box.grown hg (fun e => h1 sb _ hsb (.inl rfl) (by injection e))
    own := mapN_keep h.own (hg.block mb h.own.lt (fun e => h1 mb _ hm (.inr (.inl rfl)) (by injection e)))
    rows := fun p hp => ⟨own_grownT (h.rows p hp).1 hg fun b hb => ?_, own_grownT (h.rows p hp).2 hg fun b hb => ?_⟩ }
  · rcases (h.rows p hp).1.2 with ⟨e, _⟩ | ⟨b', cap, cur, e, hB, hh, rest⟩
    · rw [e] at hb; cases hb
    · rw [e] at hb; cases hb
      exact h1 b' _ hh (.inr (.inr (.inl ⟨_, rfl⟩)))
  · rcases (h.rows p hp).2.2 with ⟨e, _⟩ | ⟨b', cap, cur, e, hB, hh, rest⟩
    · rw [e] at hb; cases hb
    · rw [e] at hb; cases hb
      exact h1 b' _ hh (.inr (.inr (.inr ⟨_, rfl⟩)))
/-- a store into a letter's box leaves a net as it was -/
theorem NetAt.store14 {w : World} {B sb mb d : Nat} {E : List NEn} (h : NetAt w B sb mb E d) {W : World} {g : Nat} (hg : w.grownBy W (some g)) {cs : Array Value} (hb : Box w g 26 cs) : NetAt W B sb mb E d := by
  refine h.upto hg fun i o ho hi e => ?_
  subst e
  obtain ⟨es, c, hm⟩ := mapN_block h.own
  have hsb := h.box
  unfold Box at hsb hb
  rw [hb] at ho
  rcases hi with rfl | rfl | ⟨cs', rfl⟩ | ⟨cs', rfl⟩
  · rw [hsb] at hb
    injection hb with hb
    injection hb with _ hb
    exact absurd hb (by decide)
  · rw [hm] at hb; cases hb
  · injection ho with ho
    injection ho with _ ho
    exact absurd ho (by decide)
  · injection ho with ho
    injection ho with _ ho
    exact absurd ho (by decide)
set_option maxRecDepth 100000 in
set_option maxHeartbeats 6400000 in
theorem netDeliver_any (h : NetAt w B sb mb E d) (k : Int) (hk : (Lit.int .i64 k).wf = true) :
    Calls Try.prog 24 #[.pointer (some ⟨sb, 0, none⟩), .int .i64 k] w (DelPost B sb mb E d k w) := by
  have b0 := below_box (w := w) (.cells #[.int .i64 0, .int .i64 0, .int .i64 0, .int .i64 0, .int .i64 0, .int .i64 0, .int .i64 0, .string ⟨#[]⟩, .string ⟨#[]⟩, .slice none 0 0, .slice none 0 0, .int .i64 0, .bool false, .string ⟨#[]⟩] 26)
  have z0 := Box.made w 26 #[.int .i64 0, .int .i64 0, .int .i64 0, .int .i64 0, .int .i64 0, .int .i64 0, .int .i64 0, .string ⟨#[]⟩, .string ⟨#[]⟩, .slice none 0 0, .slice none 0 0, .int .i64 0, .bool false, .string ⟨#[]⟩]
  have h0 := h.below b0
  obtain ⟨q0, -, -, -⟩ := h0.cells
  obtain ⟨l0, l1⟩ := h0.look k hk
  have lt0 := z0.lt
  cases hg : getN k E with
  | none =>
    have hl := l0 hg
    obtain ⟨w2, hw2⟩ : ∃ w2, ((w.alloc (.cells #[.int .i64 0, .int .i64 0, .int .i64 0, .int .i64 0, .int .i64 0, .int .i64 0, .int .i64 0, .string ⟨#[]⟩, .string ⟨#[]⟩, .slice none 0 0, .slice none 0 0, .int .i64 0, .bool false, .string ⟨#[]⟩] 26)).alloc (.cells #[.int .i64 0, .int .i64 0, .int .i64 0, .int .i64 0, .int .i64 0, .int .i64 0, .int .i64 0, .string ⟨#[]⟩, .string ⟨#[]⟩, .slice none 0 0, .slice none 0 0, .int .i64 0, .bool false, .string ⟨#[]⟩] 26)) = w2 := ⟨_, rfl⟩
    have b2 : Below (w.alloc (.cells #[.int .i64 0, .int .i64 0, .int .i64 0, .int .i64 0, .int .i64 0, .int .i64 0, .int .i64 0, .string ⟨#[]⟩, .string ⟨#[]⟩, .slice none 0 0, .slice none 0 0, .int .i64 0, .bool false, .string ⟨#[]⟩] 26)).heap.size (w.alloc (.cells #[.int .i64 0, .int .i64 0, .int .i64 0, .int .i64 0, .int .i64 0, .int .i64 0, .int .i64 0, .string ⟨#[]⟩, .string ⟨#[]⟩, .slice none 0 0, .slice none 0 0, .int .i64 0, .bool false, .string ⟨#[]⟩] 26)) w2 := hw2 ▸ below_box _
    have z2 := z0.below b2 lt0
    have h2 := h0.below b2
    have bw : Below w.heap.size w w2 := b0.trans (b2.mono (by simp))
    have y2 : Box w2 (w.heap.size + 1) 26 #[.int .i64 0, .int .i64 0, .int .i64 0, .int .i64 0, .int .i64 0, .int .i64 0, .int .i64 0, .string ⟨#[]⟩, .string ⟨#[]⟩, .slice none 0 0, .slice none 0 0, .int .i64 0, .bool false, .string ⟨#[]⟩] := by
      have := Box.made (w.alloc (.cells #[.int .i64 0, .int .i64 0, .int .i64 0, .int .i64 0, .int .i64 0, .int .i64 0, .int .i64 0, .string ⟨#[]⟩, .string ⟨#[]⟩, .slice none 0 0, .slice none 0 0, .int .i64 0, .bool false, .string ⟨#[]⟩] 26)) 26 #[.int .i64 0, .int .i64 0, .int .i64 0, .int .i64 0, .int .i64 0, .int .i64 0, .int .i64 0, .string ⟨#[]⟩, .string ⟨#[]⟩, .slice none 0 0, .slice none 0 0, .int .i64 0, .bool false, .string ⟨#[]⟩]
      rwa [World.size_alloc, hw2] at this
    obtain ⟨w3, hw3⟩ : ∃ w3, ((((((((((((((w2.setCell ⟨w.heap.size + 1, 0, none⟩ (.int .i64 0)).setCell ⟨w.heap.size + 1, 1, none⟩ (.int .i64 0)).setCell ⟨w.heap.size + 1, 2, none⟩ (.int .i64 0)).setCell ⟨w.heap.size + 1, 3, none⟩ (.int .i64 0)).setCell ⟨w.heap.size + 1, 4, none⟩ (.int .i64 0)).setCell ⟨w.heap.size + 1, 5, none⟩ (.int .i64 0)).setCell ⟨w.heap.size + 1, 6, none⟩ (.int .i64 0)).setCell ⟨w.heap.size + 1, 7, none⟩ (.string ⟨#[]⟩)).setCell ⟨w.heap.size + 1, 8, none⟩ (.string ⟨#[]⟩)).setCell ⟨w.heap.size + 1, 9, none⟩ (.slice none 0 0)).setCell ⟨w.heap.size + 1, 10, none⟩ (.slice none 0 0)).setCell ⟨w.heap.size + 1, 11, none⟩ (.int .i64 0)).setCell ⟨w.heap.size + 1, 12, none⟩ (.bool false)).setCell ⟨w.heap.size + 1, 13, none⟩ (.string ⟨#[]⟩)) = w3 := ⟨_, rfl⟩
    obtain ⟨y3, g3, -⟩ := store14 y2 hw3
    have z3 := z2.grown g3 (fun e => by injection e with e; omega)
    obtain ⟨W, hW⟩ : ∃ W, ((((((((((((((w3.setCell ⟨w.heap.size, 0, none⟩ (.int .i64 0)).setCell ⟨w.heap.size, 1, none⟩ (.int .i64 0)).setCell ⟨w.heap.size, 2, none⟩ (.int .i64 0)).setCell ⟨w.heap.size, 3, none⟩ (.int .i64 0)).setCell ⟨w.heap.size, 4, none⟩ (.int .i64 0)).setCell ⟨w.heap.size, 5, none⟩ (.int .i64 0)).setCell ⟨w.heap.size, 6, none⟩ (.int .i64 0)).setCell ⟨w.heap.size, 7, none⟩ (.string ⟨#[]⟩)).setCell ⟨w.heap.size, 8, none⟩ (.string ⟨#[]⟩)).setCell ⟨w.heap.size, 9, none⟩ (.slice none 0 0)).setCell ⟨w.heap.size, 10, none⟩ (.slice none 0 0)).setCell ⟨w.heap.size, 11, none⟩ (.int .i64 0)).setCell ⟨w.heap.size, 12, none⟩ (.bool false)).setCell ⟨w.heap.size, 13, none⟩ (.string ⟨#[]⟩)) = W := ⟨_, rfl⟩
    obtain ⟨zW, gW, -⟩ := store14 z3 hW
    obtain ⟨⟨p0, p1, p2, p3, p4, p5, p6⟩, ⟨p7, p8⟩, ⟨p9, p10⟩, ⟨p11, p12, p13⟩⟩ := let_cells (L := zeroLet) zW
    have e0 : w2.cell? ⟨w.heap.size + 1, 0, none⟩ = some (.int .i64 0) := y2.cell 0
    have k0 : w2.frozen? ⟨w.heap.size + 1, 0, none⟩ = false := y2.frozen 0
    have e1 : w2.cell? ⟨w.heap.size + 1, 1, none⟩ = some (.int .i64 0) := y2.cell 1
    have k1 : w2.frozen? ⟨w.heap.size + 1, 1, none⟩ = false := y2.frozen 1
    have e2 : w2.cell? ⟨w.heap.size + 1, 2, none⟩ = some (.int .i64 0) := y2.cell 2
    have k2 : w2.frozen? ⟨w.heap.size + 1, 2, none⟩ = false := y2.frozen 2
    have e3 : w2.cell? ⟨w.heap.size + 1, 3, none⟩ = some (.int .i64 0) := y2.cell 3
    have k3 : w2.frozen? ⟨w.heap.size + 1, 3, none⟩ = false := y2.frozen 3
    have e4 : w2.cell? ⟨w.heap.size + 1, 4, none⟩ = some (.int .i64 0) := y2.cell 4
    have k4 : w2.frozen? ⟨w.heap.size + 1, 4, none⟩ = false := y2.frozen 4
    have e5 : w2.cell? ⟨w.heap.size + 1, 5, none⟩ = some (.int .i64 0) := y2.cell 5
    have k5 : w2.frozen? ⟨w.heap.size + 1, 5, none⟩ = false := y2.frozen 5
    have e6 : w2.cell? ⟨w.heap.size + 1, 6, none⟩ = some (.int .i64 0) := y2.cell 6
    have k6 : w2.frozen? ⟨w.heap.size + 1, 6, none⟩ = false := y2.frozen 6
    have e7 : w2.cell? ⟨w.heap.size + 1, 7, none⟩ = some (.string ⟨#[]⟩) := y2.cell 7
    have k7 : w2.frozen? ⟨w.heap.size + 1, 7, none⟩ = false := y2.frozen 7
    have e8 : w2.cell? ⟨w.heap.size + 1, 8, none⟩ = some (.string ⟨#[]⟩) := y2.cell 8
    have k8 : w2.frozen? ⟨w.heap.size + 1, 8, none⟩ = false := y2.frozen 8
    have e9 : w2.cell? ⟨w.heap.size + 1, 9, none⟩ = some (.slice none 0 0) := y2.cell 9
    have k9 : w2.frozen? ⟨w.heap.size + 1, 9, none⟩ = false := y2.frozen 9
    have e10 : w2.cell? ⟨w.heap.size + 1, 10, none⟩ = some (.slice none 0 0) := y2.cell 10
    have k10 : w2.frozen? ⟨w.heap.size + 1, 10, none⟩ = false := y2.frozen 10
    have e11 : w2.cell? ⟨w.heap.size + 1, 11, none⟩ = some (.int .i64 0) := y2.cell 11
    have k11 : w2.frozen? ⟨w.heap.size + 1, 11, none⟩ = false := y2.frozen 11
    have e12 : w2.cell? ⟨w.heap.size + 1, 12, none⟩ = some (.bool false) := y2.cell 12
    have k12 : w2.frozen? ⟨w.heap.size + 1, 12, none⟩ = false := y2.frozen 12
    have e13 : w2.cell? ⟨w.heap.size + 1, 13, none⟩ = some (.string ⟨#[]⟩) := y2.cell 13
    have k13 : w2.frozen? ⟨w.heap.size + 1, 13, none⟩ = false := y2.frozen 13
    have d0 : w3.cell? ⟨w.heap.size, 0, none⟩ = some (.int .i64 0) := z3.cell 0
    have f0 : w3.frozen? ⟨w.heap.size, 0, none⟩ = false := z3.frozen 0
    have d1 : w3.cell? ⟨w.heap.size, 1, none⟩ = some (.int .i64 0) := z3.cell 1
    have f1 : w3.frozen? ⟨w.heap.size, 1, none⟩ = false := z3.frozen 1
    have d2 : w3.cell? ⟨w.heap.size, 2, none⟩ = some (.int .i64 0) := z3.cell 2
    have f2 : w3.frozen? ⟨w.heap.size, 2, none⟩ = false := z3.frozen 2
    have d3 : w3.cell? ⟨w.heap.size, 3, none⟩ = some (.int .i64 0) := z3.cell 3
    have f3 : w3.frozen? ⟨w.heap.size, 3, none⟩ = false := z3.frozen 3
    have d4 : w3.cell? ⟨w.heap.size, 4, none⟩ = some (.int .i64 0) := z3.cell 4
    have f4 : w3.frozen? ⟨w.heap.size, 4, none⟩ = false := z3.frozen 4
    have d5 : w3.cell? ⟨w.heap.size, 5, none⟩ = some (.int .i64 0) := z3.cell 5
    have f5 : w3.frozen? ⟨w.heap.size, 5, none⟩ = false := z3.frozen 5
    have d6 : w3.cell? ⟨w.heap.size, 6, none⟩ = some (.int .i64 0) := z3.cell 6
    have f6 : w3.frozen? ⟨w.heap.size, 6, none⟩ = false := z3.frozen 6
    have d7 : w3.cell? ⟨w.heap.size, 7, none⟩ = some (.string ⟨#[]⟩) := z3.cell 7
    have f7 : w3.frozen? ⟨w.heap.size, 7, none⟩ = false := z3.frozen 7
    have d8 : w3.cell? ⟨w.heap.size, 8, none⟩ = some (.string ⟨#[]⟩) := z3.cell 8
    have f8 : w3.frozen? ⟨w.heap.size, 8, none⟩ = false := z3.frozen 8
    have d9 : w3.cell? ⟨w.heap.size, 9, none⟩ = some (.slice none 0 0) := z3.cell 9
    have f9 : w3.frozen? ⟨w.heap.size, 9, none⟩ = false := z3.frozen 9
    have d10 : w3.cell? ⟨w.heap.size, 10, none⟩ = some (.slice none 0 0) := z3.cell 10
    have f10 : w3.frozen? ⟨w.heap.size, 10, none⟩ = false := z3.frozen 10
    have d11 : w3.cell? ⟨w.heap.size, 11, none⟩ = some (.int .i64 0) := z3.cell 11
    have f11 : w3.frozen? ⟨w.heap.size, 11, none⟩ = false := z3.frozen 11
    have d12 : w3.cell? ⟨w.heap.size, 12, none⟩ = some (.bool false) := z3.cell 12
    have f12 : w3.frozen? ⟨w.heap.size, 12, none⟩ = false := z3.frozen 12
    have d13 : w3.cell? ⟨w.heap.size, 13, none⟩ = some (.string ⟨#[]⟩) := z3.cell 13
    have f13 : w3.frozen? ⟨w.heap.size, 13, none⟩ = false := z3.frozen 13
    have bw3 := bw.grown g3 bw.size (fun g hg => by injection hg with hg; omega)
    have HE := Lib.hid (And.intro ((h2.store14 g3 y2).store14 gW z3) (bw3.grown gW bw3.size (fun g hg => by injection hg with hg; omega)))
    have HG := Lib.hid hg
    clear l0 l1 h h0 h2 hk hg zW gW z2 b2 bw z0 b0 lt0 y2 y3 g3 z3 bw3
    unfold DelPost
    go_enter Try.func24, Try.ntmps24
    go_wp2
    refine bodyPost_ret (v := .tuple #[.agg #[.int .i64 0, .int .i64 0, .int .i64 0, .int .i64 0, .int .i64 0, .int .i64 0, .int .i64 0, .string ⟨#[]⟩, .string ⟨#[]⟩, .slice none 0 0, .slice none 0 0, .int .i64 0, .bool false, .string ⟨#[]⟩], .int .i64 7]) ?_ rfl (.inl ⟨HG.out, rfl, HE.out.1, HE.out.2⟩)
    simp [results, Try.results24, go_sem, p0, p1, p2, p3, p4, p5, p6, p7, p8, p9, p10, p11, p12, p13, zeroLet]
  | some e0 =>
    have hl := l1 e0 hg
    have hge := h.get hg
    obtain ⟨n, Ap, cp, Ai, ci, L⟩ := e0
    simp only at hl hge
    obtain ⟨w2, hw2⟩ : ∃ w2, ((w.alloc (.cells #[.int .i64 0, .int .i64 0, .int .i64 0, .int .i64 0, .int .i64 0, .int .i64 0, .int .i64 0, .string ⟨#[]⟩, .string ⟨#[]⟩, .slice none 0 0, .slice none 0 0, .int .i64 0, .bool false, .string ⟨#[]⟩] 26)).alloc (.cells #[.int .i64 L.kind, .int .i64 L.frm, .int .i64 L.to, .int .i64 L.a, .int .i64 L.b, .int .i64 L.c, .int .i64 L.d, .string L.s, .string L.t, .slice Ap L.ps.length cp, .slice Ai L.is.length ci, .int .i64 L.code, .bool L.yes, .string L.body] 26)) = w2 := ⟨_, rfl⟩
    have b2 : Below (w.alloc (.cells #[.int .i64 0, .int .i64 0, .int .i64 0, .int .i64 0, .int .i64 0, .int .i64 0, .int .i64 0, .string ⟨#[]⟩, .string ⟨#[]⟩, .slice none 0 0, .slice none 0 0, .int .i64 0, .bool false, .string ⟨#[]⟩] 26)).heap.size (w.alloc (.cells #[.int .i64 0, .int .i64 0, .int .i64 0, .int .i64 0, .int .i64 0, .int .i64 0, .int .i64 0, .string ⟨#[]⟩, .string ⟨#[]⟩, .slice none 0 0, .slice none 0 0, .int .i64 0, .bool false, .string ⟨#[]⟩] 26)) w2 := hw2 ▸ below_box _
    have y2 : Box w2 (w.heap.size + 1) 26 #[.int .i64 L.kind, .int .i64 L.frm, .int .i64 L.to, .int .i64 L.a, .int .i64 L.b, .int .i64 L.c, .int .i64 L.d, .string L.s, .string L.t, .slice Ap L.ps.length cp, .slice Ai L.is.length ci, .int .i64 L.code, .bool L.yes, .string L.body] := by
      have := Box.made (w.alloc (.cells #[.int .i64 0, .int .i64 0, .int .i64 0, .int .i64 0, .int .i64 0, .int .i64 0, .int .i64 0, .string ⟨#[]⟩, .string ⟨#[]⟩, .slice none 0 0, .slice none 0 0, .int .i64 0, .bool false, .string ⟨#[]⟩] 26)) 26 #[.int .i64 L.kind, .int .i64 L.frm, .int .i64 L.to, .int .i64 L.a, .int .i64 L.b, .int .i64 L.c, .int .i64 L.d, .string L.s, .string L.t, .slice Ap L.ps.length cp, .slice Ai L.is.length ci, .int .i64 L.code, .bool L.yes, .string L.body]
      rwa [World.size_alloc, hw2] at this
    have z2 := z0.below b2 lt0
    have h2 := h0.below b2
    have bw : Below w.heap.size w w2 := b0.trans (b2.mono (by simp))
    obtain ⟨q2, -, -, -⟩ := h2.cells
    obtain ⟨wM, hdl, mM, tM⟩ := h2.own.drop intKeyed Try.underlying100 (Maps.keyOf_int_mk Try.underlying3 hk) 0
    obtain ⟨hN, kN⟩ := NetAt.del h bw mM tM
    have yM := turnedN_box tM y2
    have zM := turnedN_box tM z2
    obtain ⟨⟨x0, x1, x2, x3, x4, x5, x6⟩, ⟨x7, x8⟩, ⟨x9, x10⟩, ⟨x11, x12, x13⟩⟩ := let_cells yM
    obtain ⟨W, hW⟩ : ∃ W, ((((((((((((((wM.setCell ⟨w.heap.size, 0, none⟩ (.int .i64 L.kind)).setCell ⟨w.heap.size, 1, none⟩ (.int .i64 L.frm)).setCell ⟨w.heap.size, 2, none⟩ (.int .i64 L.to)).setCell ⟨w.heap.size, 3, none⟩ (.int .i64 L.a)).setCell ⟨w.heap.size, 4, none⟩ (.int .i64 L.b)).setCell ⟨w.heap.size, 5, none⟩ (.int .i64 L.c)).setCell ⟨w.heap.size, 6, none⟩ (.int .i64 L.d)).setCell ⟨w.heap.size, 7, none⟩ (.string L.s)).setCell ⟨w.heap.size, 8, none⟩ (.string L.t)).setCell ⟨w.heap.size, 9, none⟩ (.slice Ap L.ps.length cp)).setCell ⟨w.heap.size, 10, none⟩ (.slice Ai L.is.length ci)).setCell ⟨w.heap.size, 11, none⟩ (.int .i64 L.code)).setCell ⟨w.heap.size, 12, none⟩ (.bool L.yes)).setCell ⟨w.heap.size, 13, none⟩ (.string L.body)) = W := ⟨_, rfl⟩
    obtain ⟨zW, gW, -⟩ := store14 zM hW
    obtain ⟨⟨p0, p1, p2, p3, p4, p5, p6⟩, ⟨p7, p8⟩, ⟨p9, p10⟩, ⟨p11, p12, p13⟩⟩ := let_cells zW
    have d0 : wM.cell? ⟨w.heap.size, 0, none⟩ = some (.int .i64 0) := zM.cell 0
    have f0 : wM.frozen? ⟨w.heap.size, 0, none⟩ = false := zM.frozen 0
    have d1 : wM.cell? ⟨w.heap.size, 1, none⟩ = some (.int .i64 0) := zM.cell 1
    have f1 : wM.frozen? ⟨w.heap.size, 1, none⟩ = false := zM.frozen 1
    have d2 : wM.cell? ⟨w.heap.size, 2, none⟩ = some (.int .i64 0) := zM.cell 2
    have f2 : wM.frozen? ⟨w.heap.size, 2, none⟩ = false := zM.frozen 2
    have d3 : wM.cell? ⟨w.heap.size, 3, none⟩ = some (.int .i64 0) := zM.cell 3
    have f3 : wM.frozen? ⟨w.heap.size, 3, none⟩ = false := zM.frozen 3
    have d4 : wM.cell? ⟨w.heap.size, 4, none⟩ = some (.int .i64 0) := zM.cell 4
    have f4 : wM.frozen? ⟨w.heap.size, 4, none⟩ = false := zM.frozen 4
    have d5 : wM.cell? ⟨w.heap.size, 5, none⟩ = some (.int .i64 0) := zM.cell 5
    have f5 : wM.frozen? ⟨w.heap.size, 5, none⟩ = false := zM.frozen 5
    have d6 : wM.cell? ⟨w.heap.size, 6, none⟩ = some (.int .i64 0) := zM.cell 6
    have f6 : wM.frozen? ⟨w.heap.size, 6, none⟩ = false := zM.frozen 6
    have d7 : wM.cell? ⟨w.heap.size, 7, none⟩ = some (.string ⟨#[]⟩) := zM.cell 7
    have f7 : wM.frozen? ⟨w.heap.size, 7, none⟩ = false := zM.frozen 7
    have d8 : wM.cell? ⟨w.heap.size, 8, none⟩ = some (.string ⟨#[]⟩) := zM.cell 8
    have f8 : wM.frozen? ⟨w.heap.size, 8, none⟩ = false := zM.frozen 8
    have d9 : wM.cell? ⟨w.heap.size, 9, none⟩ = some (.slice none 0 0) := zM.cell 9
    have f9 : wM.frozen? ⟨w.heap.size, 9, none⟩ = false := zM.frozen 9
    have d10 : wM.cell? ⟨w.heap.size, 10, none⟩ = some (.slice none 0 0) := zM.cell 10
    have f10 : wM.frozen? ⟨w.heap.size, 10, none⟩ = false := zM.frozen 10
    have d11 : wM.cell? ⟨w.heap.size, 11, none⟩ = some (.int .i64 0) := zM.cell 11
    have f11 : wM.frozen? ⟨w.heap.size, 11, none⟩ = false := zM.frozen 11
    have d12 : wM.cell? ⟨w.heap.size, 12, none⟩ = some (.bool false) := zM.cell 12
    have f12 : wM.frozen? ⟨w.heap.size, 12, none⟩ = false := zM.frozen 12
    have d13 : wM.cell? ⟨w.heap.size, 13, none⟩ = some (.string ⟨#[]⟩) := zM.cell 13
    have f13 : wM.frozen? ⟨w.heap.size, 13, none⟩ = false := zM.frozen 13
    have kW : Kept2 sb mb w W := ⟨gW.os.trans kN.os, gW.tape.trans kN.tape, gW.output.trans kN.output, Nat.le_trans kN.size gW.size, fun i hi a b => (gW.block i (Nat.lt_of_lt_of_le hi kN.size) (fun e => by injection e with e; omega)).trans (kN.block i hi a b)⟩
    have o1 : OwnLps W B (.slice Ap L.ps.length cp) L.ps := h.rowKept kW hge.2.1 typesN.1
    have o2 : OwnLis W B (.slice Ai L.is.length ci) L.is := h.rowKept kW hge.2.2 typesN.2
    have HE := Lib.hid (And.intro (hN.store14 gW zM) (And.intro (And.intro o1 o2) kW))
    have HG := Lib.hid hg
    clear l0 l1 h h0 h2 hk hg zW gW z2 b2 bw z0 b0 lt0 hN kN yM zM y2 mM tM kW o1 o2 hge
    unfold DelPost
    go_enter Try.func24, Try.ntmps24
    go_wp2
    refine bodyPost_ret (v := .tuple #[.agg #[.int .i64 L.kind, .int .i64 L.frm, .int .i64 L.to, .int .i64 L.a, .int .i64 L.b, .int .i64 L.c, .int .i64 L.d, .string L.s, .string L.t, .slice Ap L.ps.length cp, .slice Ai L.is.length ci, .int .i64 L.code, .bool L.yes, .string L.body], .int .i64 0]) ?_ rfl (.inr ⟨_, HG.out, rfl, HE.out.1, HE.out.2.1, HE.out.2.2⟩)
    simp [results, Try.results24, go_sem, p0, p1, p2, p3, p4, p5, p6, p7, p8, p9, p10, p11, p12, p13]
end
end Go.Proofs.Ytabcoidjbigdbaa

namespace Go.Proofs.Ytabcoidjbigdbaa
open Go.RowKit

def DropPost (B sb mb : Nat) (E : List NEn) (d : Nat) (k : Int) (w : World) (e : Ending) (w' : World) : Prop :=
  (getN k E = none ∧ e = .returned (.int .i64 7) ∧ NetAt w' B sb mb E d ∧ Below w.heap.size w w') ∨
  (∃ e0, getN k E = some e0 ∧ e = .returned (.int .i64 0) ∧ NetAt w' B sb mb (delN k E) d ∧ Kept2 sb mb w w')
def lookL (k : Int) (E : List NEn) : Let := match getN k E with | some e => e.L | none => zeroLet
def LookPost (B sb mb : Nat) (E : List NEn) (d : Nat) (k : Int) (w : World) (e : Ending) (w' : World) : Prop :=
  ∃ (Ap : Option Addr) (cp : Nat) (Ai : Option Addr) (ci : Nat), e = .returned (.tuple #[.agg #[.int .i64 (lookL k E).kind, .int .i64 (lookL k E).frm, .int .i64 (lookL k E).to, .int .i64 (lookL k E).a, .int .i64 (lookL k E).b, .int .i64 (lookL k E).c, .int .i64 (lookL k E).d, .string (lookL k E).s, .string (lookL k E).t, .slice Ap (lookL k E).ps.length cp, .slice Ai (lookL k E).is.length ci, .int .i64 (lookL k E).code, .bool (lookL k E).yes, .string (lookL k E).body], .bool (getN k E).isSome]) ∧
    OwnLps w' w.heap.size (.slice Ap (lookL k E).ps.length cp) (lookL k E).ps ∧ OwnLis w' w.heap.size (.slice Ai (lookL k E).is.length ci) (lookL k E).is ∧ NetAt w' B sb mb E d ∧ Below w.heap.size w w'
section
variable {w : World} {B sb mb d : Nat} {E : List NEn}
theorem netDrop_any (h : NetAt w B sb mb E d) (k : Int) (hk : (Lit.int .i64 k).wf = true) :
    Calls Try.prog 26 #[.pointer (some ⟨sb, 0, none⟩), .int .i64 k] w (DropPost B sb mb E d k w) := by
  have Hd := Lib.hid (netDeliver_any h k hk)
  clear h
  go_enter Try.func26, Try.ntmps26
  go_wp2_with fail
  refine Hd.out.mono ?_
  rintro e w2 hp
  clear Hd
  rcases hp with ⟨hg, rfl, h2, b2⟩ | ⟨e0, hg, rfl, h2, -, k2⟩
  · have HE := Lib.hid (And.intro hg (And.intro (h2.below (below_box (.cells #[.int .i64 0, .int .i64 0, .int .i64 0, .int .i64 0, .int .i64 0, .int .i64 0, .int .i64 0, .string ⟨#[]⟩, .string ⟨#[]⟩, .slice none 0 0, .slice none 0 0, .int .i64 0, .bool false, .string ⟨#[]⟩] 26))) (b2.trans ((below_box (w := w2) (.cells #[.int .i64 0, .int .i64 0, .int .i64 0, .int .i64 0, .int .i64 0, .int .i64 0, .int .i64 0, .string ⟨#[]⟩, .string ⟨#[]⟩, .slice none 0 0, .slice none 0 0, .int .i64 0, .bool false, .string ⟨#[]⟩] 26)).mono b2.size))))
    clear hg h2 b2
    go_wp2
    go_ret
    exact .inl ⟨HE.out.1, rfl, HE.out.2.1, HE.out.2.2⟩
  · obtain ⟨n, Ap, cp, Ai, ci, L⟩ := e0
    have HE := Lib.hid (And.intro hg (And.intro (h2.below (below_box (.cells #[.int .i64 L.kind, .int .i64 L.frm, .int .i64 L.to, .int .i64 L.a, .int .i64 L.b, .int .i64 L.c, .int .i64 L.d, .string L.s, .string L.t, .slice Ap L.ps.length cp, .slice Ai L.is.length ci, .int .i64 L.code, .bool L.yes, .string L.body] 26))) (k2.trans (Kept2.of (below_box (w := w2) (.cells #[.int .i64 L.kind, .int .i64 L.frm, .int .i64 L.to, .int .i64 L.a, .int .i64 L.b, .int .i64 L.c, .int .i64 L.d, .string L.s, .string L.t, .slice Ap L.ps.length cp, .slice Ai L.is.length ci, .int .i64 L.code, .bool L.yes, .string L.body] 26))))))
    clear hg h2 k2
    go_wp2
    go_ret
    exact .inr ⟨_, HE.out.1, rfl, HE.out.2.1, HE.out.2.2⟩
set_option maxRecDepth 100000 in
set_option maxHeartbeats 6400000 in
theorem netLook_any (h : NetAt w B sb mb E d) (k : Int) (hk : (Lit.int .i64 k).wf = true) :
    Calls Try.prog 29 #[.pointer (some ⟨sb, 0, none⟩), .int .i64 k] w (LookPost B sb mb E d k w) := by
  have b0 := below_box (w := w) (.cells #[.int .i64 0, .int .i64 0, .int .i64 0, .int .i64 0, .int .i64 0, .int .i64 0, .int .i64 0, .string ⟨#[]⟩, .string ⟨#[]⟩, .slice none 0 0, .slice none 0 0, .int .i64 0, .bool false, .string ⟨#[]⟩] 26)
  have z0 := Box.made w 26 #[.int .i64 0, .int .i64 0, .int .i64 0, .int .i64 0, .int .i64 0, .int .i64 0, .int .i64 0, .string ⟨#[]⟩, .string ⟨#[]⟩, .slice none 0 0, .slice none 0 0, .int .i64 0, .bool false, .string ⟨#[]⟩]
  have h0 := h.below b0
  obtain ⟨q0, -, -, -⟩ := h0.cells
  obtain ⟨l0, l1⟩ := h0.look k hk
  have lt0 := z0.lt
  cases hg : getN k E with
  | none =>
    have hl := l0 hg
    obtain ⟨Z, hZ⟩ : ∃ Z, zeroLet = Z := ⟨_, rfl⟩
    have HG : Hid (lookL k E = Z ∧ (getN k E).isSome = false) := Lib.hid ⟨by unfold lookL; rw [hg]; exact hZ, by rw [hg]; rfl⟩
    obtain ⟨w2, hw2⟩ : ∃ w2, ((w.alloc (.cells #[.int .i64 0, .int .i64 0, .int .i64 0, .int .i64 0, .int .i64 0, .int .i64 0, .int .i64 0, .string ⟨#[]⟩, .string ⟨#[]⟩, .slice none 0 0, .slice none 0 0, .int .i64 0, .bool false, .string ⟨#[]⟩] 26)).alloc (.cells #[.int .i64 0, .int .i64 0, .int .i64 0, .int .i64 0, .int .i64 0, .int .i64 0, .int .i64 0, .string ⟨#[]⟩, .string ⟨#[]⟩, .slice none 0 0, .slice none 0 0, .int .i64 0, .bool false, .string ⟨#[]⟩] 26)) = w2 := ⟨_, rfl⟩
    have b2 : Below (w.alloc (.cells #[.int .i64 0, .int .i64 0, .int .i64 0, .int .i64 0, .int .i64 0, .int .i64 0, .int .i64 0, .string ⟨#[]⟩, .string ⟨#[]⟩, .slice none 0 0, .slice none 0 0, .int .i64 0, .bool false, .string ⟨#[]⟩] 26)).heap.size (w.alloc (.cells #[.int .i64 0, .int .i64 0, .int .i64 0, .int .i64 0, .int .i64 0, .int .i64 0, .int .i64 0, .string ⟨#[]⟩, .string ⟨#[]⟩, .slice none 0 0, .slice none 0 0, .int .i64 0, .bool false, .string ⟨#[]⟩] 26)) w2 := hw2 ▸ below_box _
    have z2 := z0.below b2 lt0
    have h2 := h0.below b2
    have bw : Below w.heap.size w w2 := b0.trans (b2.mono (by simp))
    have y2 : Box w2 (w.heap.size + 1) 26 #[.int .i64 0, .int .i64 0, .int .i64 0, .int .i64 0, .int .i64 0, .int .i64 0, .int .i64 0, .string ⟨#[]⟩, .string ⟨#[]⟩, .slice none 0 0, .slice none 0 0, .int .i64 0, .bool false, .string ⟨#[]⟩] := by
      have := Box.made (w.alloc (.cells #[.int .i64 0, .int .i64 0, .int .i64 0, .int .i64 0, .int .i64 0, .int .i64 0, .int .i64 0, .string ⟨#[]⟩, .string ⟨#[]⟩, .slice none 0 0, .slice none 0 0, .int .i64 0, .bool false, .string ⟨#[]⟩] 26)) 26 #[.int .i64 0, .int .i64 0, .int .i64 0, .int .i64 0, .int .i64 0, .int .i64 0, .int .i64 0, .string ⟨#[]⟩, .string ⟨#[]⟩, .slice none 0 0, .slice none 0 0, .int .i64 0, .bool false, .string ⟨#[]⟩]
      rwa [World.size_alloc, hw2] at this
    obtain ⟨w3, hw3⟩ : ∃ w3, ((((((((((((((w2.setCell ⟨w.heap.size + 1, 0, none⟩ (.int .i64 0)).setCell ⟨w.heap.size + 1, 1, none⟩ (.int .i64 0)).setCell ⟨w.heap.size + 1, 2, none⟩ (.int .i64 0)).setCell ⟨w.heap.size + 1, 3, none⟩ (.int .i64 0)).setCell ⟨w.heap.size + 1, 4, none⟩ (.int .i64 0)).setCell ⟨w.heap.size + 1, 5, none⟩ (.int .i64 0)).setCell ⟨w.heap.size + 1, 6, none⟩ (.int .i64 0)).setCell ⟨w.heap.size + 1, 7, none⟩ (.string ⟨#[]⟩)).setCell ⟨w.heap.size + 1, 8, none⟩ (.string ⟨#[]⟩)).setCell ⟨w.heap.size + 1, 9, none⟩ (.slice none 0 0)).setCell ⟨w.heap.size + 1, 10, none⟩ (.slice none 0 0)).setCell ⟨w.heap.size + 1, 11, none⟩ (.int .i64 0)).setCell ⟨w.heap.size + 1, 12, none⟩ (.bool false)).setCell ⟨w.heap.size + 1, 13, none⟩ (.string ⟨#[]⟩)) = w3 := ⟨_, rfl⟩
    obtain ⟨y3, g3, -⟩ := store14 y2 hw3
    have z3 := z2.grown g3 (fun e => by injection e with e; omega)
    have h3 := h2.store14 g3 y2
    have bw3 := bw.grown g3 bw.size (fun g hg => by injection hg with hg; omega)
    have e0 : w2.cell? ⟨w.heap.size + 1, 0, none⟩ = some (.int .i64 0) := y2.cell 0
    have k0 : w2.frozen? ⟨w.heap.size + 1, 0, none⟩ = false := y2.frozen 0
    have e1 : w2.cell? ⟨w.heap.size + 1, 1, none⟩ = some (.int .i64 0) := y2.cell 1
    have k1 : w2.frozen? ⟨w.heap.size + 1, 1, none⟩ = false := y2.frozen 1
    have e2 : w2.cell? ⟨w.heap.size + 1, 2, none⟩ = some (.int .i64 0) := y2.cell 2
    have k2 : w2.frozen? ⟨w.heap.size + 1, 2, none⟩ = false := y2.frozen 2
    have e3 : w2.cell? ⟨w.heap.size + 1, 3, none⟩ = some (.int .i64 0) := y2.cell 3
    have k3 : w2.frozen? ⟨w.heap.size + 1, 3, none⟩ = false := y2.frozen 3
    have e4 : w2.cell? ⟨w.heap.size + 1, 4, none⟩ = some (.int .i64 0) := y2.cell 4
    have k4 : w2.frozen? ⟨w.heap.size + 1, 4, none⟩ = false := y2.frozen 4
    have e5 : w2.cell? ⟨w.heap.size + 1, 5, none⟩ = some (.int .i64 0) := y2.cell 5
    have k5 : w2.frozen? ⟨w.heap.size + 1, 5, none⟩ = false := y2.frozen 5
    have e6 : w2.cell? ⟨w.heap.size + 1, 6, none⟩ = some (.int .i64 0) := y2.cell 6
    have k6 : w2.frozen? ⟨w.heap.size + 1, 6, none⟩ = false := y2.frozen 6
    have e7 : w2.cell? ⟨w.heap.size + 1, 7, none⟩ = some (.string ⟨#[]⟩) := y2.cell 7
    have k7 : w2.frozen? ⟨w.heap.size + 1, 7, none⟩ = false := y2.frozen 7
    have e8 : w2.cell? ⟨w.heap.size + 1, 8, none⟩ = some (.string ⟨#[]⟩) := y2.cell 8
    have k8 : w2.frozen? ⟨w.heap.size + 1, 8, none⟩ = false := y2.frozen 8
    have e9 : w2.cell? ⟨w.heap.size + 1, 9, none⟩ = some (.slice none 0 0) := y2.cell 9
    have k9 : w2.frozen? ⟨w.heap.size + 1, 9, none⟩ = false := y2.frozen 9
    have e10 : w2.cell? ⟨w.heap.size + 1, 10, none⟩ = some (.slice none 0 0) := y2.cell 10
    have k10 : w2.frozen? ⟨w.heap.size + 1, 10, none⟩ = false := y2.frozen 10
    have e11 : w2.cell? ⟨w.heap.size + 1, 11, none⟩ = some (.int .i64 0) := y2.cell 11
    have k11 : w2.frozen? ⟨w.heap.size + 1, 11, none⟩ = false := y2.frozen 11
    have e12 : w2.cell? ⟨w.heap.size + 1, 12, none⟩ = some (.bool false) := y2.cell 12
    have k12 : w2.frozen? ⟨w.heap.size + 1, 12, none⟩ = false := y2.frozen 12
    have e13 : w2.cell? ⟨w.heap.size + 1, 13, none⟩ = some (.string ⟨#[]⟩) := y2.cell 13
    have k13 : w2.frozen? ⟨w.heap.size + 1, 13, none⟩ = false := y2.frozen 13
    have HC : Hid (Calls Try.prog 19 #[.agg #[.int .i64 0, .int .i64 0, .int .i64 0, .int .i64 0, .int .i64 0, .int .i64 0, .int .i64 0, .string ⟨#[]⟩, .string ⟨#[]⟩, .slice none 0 0, .slice none 0 0, .int .i64 0, .bool false, .string ⟨#[]⟩]] w3 (CopyPost Z w3)) := Lib.hid (by
      subst hZ
      exact copy_any zeroLet none 0 0 none 0 0 w3.heap.size w3 (HasLps.nil _ _ _) (HasLis.nil _ _ _) (Nat.le_refl _) ⟨by omega, by omega⟩ (by intro s hs; simp [Let.txts, zeroLet] at hs; subst hs; exact Nat.zero_le _) (by intro p hp; simp [zeroLet] at hp) (by intro p hp; simp [zeroLet] at hp))
    obtain ⟨⟨x0, x1, x2, x3, x4, x5, x6⟩, ⟨x7, x8⟩, ⟨x9, x10⟩, ⟨x11, x12, x13⟩⟩ := let_cells (L := zeroLet) y3
    have HB3 := Lib.hid (And.intro bw3 (And.intro z3 h3))
    clear l0 l1 h h0 h2 hk hg z2 b2 bw z0 b0 lt0 y2 y3 g3 z3 bw3 h3 hZ
    unfold LookPost
    go_enter Try.func29, Try.ntmps29
    go_wp2_with fail
    refine HC.out.mono ?_
    rintro e w4 ⟨Av, cv, Iv, dv, rfl, oP, oI, b4⟩
    have z4 := HB3.out.2.1.below b4 HB3.out.2.1.lt
    have bw4 := HB3.out.1.trans (b4.mono HB3.out.1.size)
    have h4 := HB3.out.2.2.below b4
    obtain ⟨W, hW⟩ : ∃ W, ((((((((((((((w4.setCell ⟨w.heap.size, 0, none⟩ (.int .i64 Z.kind)).setCell ⟨w.heap.size, 1, none⟩ (.int .i64 Z.frm)).setCell ⟨w.heap.size, 2, none⟩ (.int .i64 Z.to)).setCell ⟨w.heap.size, 3, none⟩ (.int .i64 Z.a)).setCell ⟨w.heap.size, 4, none⟩ (.int .i64 Z.b)).setCell ⟨w.heap.size, 5, none⟩ (.int .i64 Z.c)).setCell ⟨w.heap.size, 6, none⟩ (.int .i64 Z.d)).setCell ⟨w.heap.size, 7, none⟩ (.string Z.s)).setCell ⟨w.heap.size, 8, none⟩ (.string Z.t)).setCell ⟨w.heap.size, 9, none⟩ (.slice Av Z.ps.length cv)).setCell ⟨w.heap.size, 10, none⟩ (.slice Iv Z.is.length dv)).setCell ⟨w.heap.size, 11, none⟩ (.int .i64 Z.code)).setCell ⟨w.heap.size, 12, none⟩ (.bool Z.yes)).setCell ⟨w.heap.size, 13, none⟩ (.string Z.body)) = W := ⟨_, rfl⟩
    obtain ⟨zW, gW, -⟩ := store14 z4 hW
    obtain ⟨⟨p0, p1, p2, p3, p4, p5, p6⟩, ⟨p7, p8⟩, ⟨p9, p10⟩, ⟨p11, p12, p13⟩⟩ := let_cells zW
    have d0 : w4.cell? ⟨w.heap.size, 0, none⟩ = some (.int .i64 0) := z4.cell 0
    have f0 : w4.frozen? ⟨w.heap.size, 0, none⟩ = false := z4.frozen 0
    have d1 : w4.cell? ⟨w.heap.size, 1, none⟩ = some (.int .i64 0) := z4.cell 1
    have f1 : w4.frozen? ⟨w.heap.size, 1, none⟩ = false := z4.frozen 1
    have d2 : w4.cell? ⟨w.heap.size, 2, none⟩ = some (.int .i64 0) := z4.cell 2
    have f2 : w4.frozen? ⟨w.heap.size, 2, none⟩ = false := z4.frozen 2
    have d3 : w4.cell? ⟨w.heap.size, 3, none⟩ = some (.int .i64 0) := z4.cell 3
    have f3 : w4.frozen? ⟨w.heap.size, 3, none⟩ = false := z4.frozen 3
    have d4 : w4.cell? ⟨w.heap.size, 4, none⟩ = some (.int .i64 0) := z4.cell 4
    have f4 : w4.frozen? ⟨w.heap.size, 4, none⟩ = false := z4.frozen 4
    have d5 : w4.cell? ⟨w.heap.size, 5, none⟩ = some (.int .i64 0) := z4.cell 5
    have f5 : w4.frozen? ⟨w.heap.size, 5, none⟩ = false := z4.frozen 5
    have d6 : w4.cell? ⟨w.heap.size, 6, none⟩ = some (.int .i64 0) := z4.cell 6
    have f6 : w4.frozen? ⟨w.heap.size, 6, none⟩ = false := z4.frozen 6
    have d7 : w4.cell? ⟨w.heap.size, 7, none⟩ = some (.string ⟨#[]⟩) := z4.cell 7
    have f7 : w4.frozen? ⟨w.heap.size, 7, none⟩ = false := z4.frozen 7
    have d8 : w4.cell? ⟨w.heap.size, 8, none⟩ = some (.string ⟨#[]⟩) := z4.cell 8
    have f8 : w4.frozen? ⟨w.heap.size, 8, none⟩ = false := z4.frozen 8
    have d9 : w4.cell? ⟨w.heap.size, 9, none⟩ = some (.slice none 0 0) := z4.cell 9
    have f9 : w4.frozen? ⟨w.heap.size, 9, none⟩ = false := z4.frozen 9
    have d10 : w4.cell? ⟨w.heap.size, 10, none⟩ = some (.slice none 0 0) := z4.cell 10
    have f10 : w4.frozen? ⟨w.heap.size, 10, none⟩ = false := z4.frozen 10
    have d11 : w4.cell? ⟨w.heap.size, 11, none⟩ = some (.int .i64 0) := z4.cell 11
    have f11 : w4.frozen? ⟨w.heap.size, 11, none⟩ = false := z4.frozen 11
    have d12 : w4.cell? ⟨w.heap.size, 12, none⟩ = some (.bool false) := z4.cell 12
    have f12 : w4.frozen? ⟨w.heap.size, 12, none⟩ = false := z4.frozen 12
    have d13 : w4.cell? ⟨w.heap.size, 13, none⟩ = some (.string ⟨#[]⟩) := z4.cell 13
    have f13 : w4.frozen? ⟨w.heap.size, 13, none⟩ = false := z4.frozen 13
    have hs3 : w.heap.size < w3.heap.size := HB3.out.2.1.lt
    have HE := Lib.hid (And.intro (own_baseN (own_grownL oP gW (by omega)) (by omega : w.heap.size ≤ w3.heap.size + 1)) (And.intro (own_baseN (own_grownL oI gW (by omega)) (by omega : w.heap.size ≤ w3.heap.size + 1)) (And.intro (h4.store14 gW z4) (bw4.grown gW bw4.size (fun g hg => by injection hg with hg; omega)))))
    clear zW gW z4 b4 bw4 h4 oP oI x0 x1 x2 x3 x4 x5 x6 x7 x8 x9 x10 x11 x12 x13 HB3 HC
    go_wp2
    refine bodyPost_ret (v := .tuple #[.agg #[.int .i64 Z.kind, .int .i64 Z.frm, .int .i64 Z.to, .int .i64 Z.a, .int .i64 Z.b, .int .i64 Z.c, .int .i64 Z.d, .string Z.s, .string Z.t, .slice Av Z.ps.length cv, .slice Iv Z.is.length dv, .int .i64 Z.code, .bool Z.yes, .string Z.body], .bool false]) ?_ rfl ⟨Av, cv, Iv, dv, by rw [HG.out.1, HG.out.2], by rw [HG.out.1]; exact HE.out.1, by rw [HG.out.1]; exact HE.out.2.1, HE.out.2.2.1, HE.out.2.2.2⟩
    simp [results, Try.results29, go_sem, p0, p1, p2, p3, p4, p5, p6, p7, p8, p9, p10, p11, p12, p13]
  | some e0 =>
    have hl := l1 e0 hg
    have hge := h.get hg
    have hst := h.rowsStay hge.2
    obtain ⟨n, Ap, cp, Ai, ci, L⟩ := e0
    simp only at hl hge hst
    have HG : Hid (lookL k E = L ∧ (getN k E).isSome = true) := Lib.hid ⟨by unfold lookL; rw [hg], by rw [hg]; rfl⟩
    obtain ⟨w3, hw3⟩ : ∃ w3, ((w.alloc (.cells #[.int .i64 0, .int .i64 0, .int .i64 0, .int .i64 0, .int .i64 0, .int .i64 0, .int .i64 0, .string ⟨#[]⟩, .string ⟨#[]⟩, .slice none 0 0, .slice none 0 0, .int .i64 0, .bool false, .string ⟨#[]⟩] 26)).alloc (.cells #[.int .i64 L.kind, .int .i64 L.frm, .int .i64 L.to, .int .i64 L.a, .int .i64 L.b, .int .i64 L.c, .int .i64 L.d, .string L.s, .string L.t, .slice Ap L.ps.length cp, .slice Ai L.is.length ci, .int .i64 L.code, .bool L.yes, .string L.body] 26)) = w3 := ⟨_, rfl⟩
    have b3 : Below (w.alloc (.cells #[.int .i64 0, .int .i64 0, .int .i64 0, .int .i64 0, .int .i64 0, .int .i64 0, .int .i64 0, .string ⟨#[]⟩, .string ⟨#[]⟩, .slice none 0 0, .slice none 0 0, .int .i64 0, .bool false, .string ⟨#[]⟩] 26)).heap.size (w.alloc (.cells #[.int .i64 0, .int .i64 0, .int .i64 0, .int .i64 0, .int .i64 0, .int .i64 0, .int .i64 0, .string ⟨#[]⟩, .string ⟨#[]⟩, .slice none 0 0, .slice none 0 0, .int .i64 0, .bool false, .string ⟨#[]⟩] 26)) w3 := hw3 ▸ below_box _
    have y3 : Box w3 (w.heap.size + 1) 26 #[.int .i64 L.kind, .int .i64 L.frm, .int .i64 L.to, .int .i64 L.a, .int .i64 L.b, .int .i64 L.c, .int .i64 L.d, .string L.s, .string L.t, .slice Ap L.ps.length cp, .slice Ai L.is.length ci, .int .i64 L.code, .bool L.yes, .string L.body] := by
      have := Box.made (w.alloc (.cells #[.int .i64 0, .int .i64 0, .int .i64 0, .int .i64 0, .int .i64 0, .int .i64 0, .int .i64 0, .string ⟨#[]⟩, .string ⟨#[]⟩, .slice none 0 0, .slice none 0 0, .int .i64 0, .bool false, .string ⟨#[]⟩] 26)) 26 #[.int .i64 L.kind, .int .i64 L.frm, .int .i64 L.to, .int .i64 L.a, .int .i64 L.b, .int .i64 L.c, .int .i64 L.d, .string L.s, .string L.t, .slice Ap L.ps.length cp, .slice Ai L.is.length ci, .int .i64 L.code, .bool L.yes, .string L.body]
      rwa [World.size_alloc, hw3] at this
    have z3 := z0.below b3 lt0
    have h3 := h0.below b3
    have bw3 : Below w.heap.size w w3 := b0.trans (b3.mono (by simp))
    have HC : Hid (Calls Try.prog 19 #[.agg #[.int .i64 L.kind, .int .i64 L.frm, .int .i64 L.to, .int .i64 L.a, .int .i64 L.b, .int .i64 L.c, .int .i64 L.d, .string L.s, .string L.t, .slice Ap L.ps.length cp, .slice Ai L.is.length ci, .int .i64 L.code, .bool L.yes, .string L.body]] w3 (CopyPost L w3)) := Lib.hid (by
      obtain ⟨a, b⟩ := hst w3 (Kept2.of bw3)
      obtain ⟨-, n1, n2, n3⟩ := err_zero.1 hge.1
      obtain ⟨s1, s2, s3⟩ := let_small n3
      exact copy_any L Ap L.ps.length cp Ai L.is.length ci w3.heap.size w3 a b (Nat.le_refl _) ⟨by omega, by omega⟩ (fun s hs => Nat.le_trans (s1 s hs) (by omega)) (fun p hp => ⟨Nat.le_trans (s2 p hp).1 (by omega), Nat.le_trans (s2 p hp).2 (by omega)⟩) (fun p hp => Nat.le_trans (s3 p hp) (by omega)))
    obtain ⟨⟨x0, x1, x2, x3, x4, x5, x6⟩, ⟨x7, x8⟩, ⟨x9, x10⟩, ⟨x11, x12, x13⟩⟩ := let_cells y3
    have HB3 := Lib.hid (And.intro bw3 (And.intro z3 h3))
    clear l0 l1 h h0 hk hg b3 z0 b0 lt0 y3 z3 bw3 h3 hge hst
    unfold LookPost
    go_enter Try.func29, Try.ntmps29
    go_wp2_with fail
    refine HC.out.mono ?_
    rintro e w4 ⟨Av, cv, Iv, dv, rfl, oP, oI, b4⟩
    have z4 := HB3.out.2.1.below b4 HB3.out.2.1.lt
    have bw4 := HB3.out.1.trans (b4.mono HB3.out.1.size)
    have h4 := HB3.out.2.2.below b4
    obtain ⟨W, hW⟩ : ∃ W, ((((((((((((((w4.setCell ⟨w.heap.size, 0, none⟩ (.int .i64 L.kind)).setCell ⟨w.heap.size, 1, none⟩ (.int .i64 L.frm)).setCell ⟨w.heap.size, 2, none⟩ (.int .i64 L.to)).setCell ⟨w.heap.size, 3, none⟩ (.int .i64 L.a)).setCell ⟨w.heap.size, 4, none⟩ (.int .i64 L.b)).setCell ⟨w.heap.size, 5, none⟩ (.int .i64 L.c)).setCell ⟨w.heap.size, 6, none⟩ (.int .i64 L.d)).setCell ⟨w.heap.size, 7, none⟩ (.string L.s)).setCell ⟨w.heap.size, 8, none⟩ (.string L.t)).setCell ⟨w.heap.size, 9, none⟩ (.slice Av L.ps.length cv)).setCell ⟨w.heap.size, 10, none⟩ (.slice Iv L.is.length dv)).setCell ⟨w.heap.size, 11, none⟩ (.int .i64 L.code)).setCell ⟨w.heap.size, 12, none⟩ (.bool L.yes)).setCell ⟨w.heap.size, 13, none⟩ (.string L.body)) = W := ⟨_, rfl⟩
    obtain ⟨zW, gW, -⟩ := store14 z4 hW
    obtain ⟨⟨p0, p1, p2, p3, p4, p5, p6⟩, ⟨p7, p8⟩, ⟨p9, p10⟩, ⟨p11, p12, p13⟩⟩ := let_cells zW
    have d0 : w4.cell? ⟨w.heap.size, 0, none⟩ = some (.int .i64 0) := z4.cell 0
    have f0 : w4.frozen? ⟨w.heap.size, 0, none⟩ = false := z4.frozen 0
    have d1 : w4.cell? ⟨w.heap.size, 1, none⟩ = some (.int .i64 0) := z4.cell 1
    have f1 : w4.frozen? ⟨w.heap.size, 1, none⟩ = false := z4.frozen 1
    have d2 : w4.cell? ⟨w.heap.size, 2, none⟩ = some (.int .i64 0) := z4.cell 2
    have f2 : w4.frozen? ⟨w.heap.size, 2, none⟩ = false := z4.frozen 2
    have d3 : w4.cell? ⟨w.heap.size, 3, none⟩ = some (.int .i64 0) := z4.cell 3
    have f3 : w4.frozen? ⟨w.heap.size, 3, none⟩ = false := z4.frozen 3
    have d4 : w4.cell? ⟨w.heap.size, 4, none⟩ = some (.int .i64 0) := z4.cell 4
    have f4 : w4.frozen? ⟨w.heap.size, 4, none⟩ = false := z4.frozen 4
    have d5 : w4.cell? ⟨w.heap.size, 5, none⟩ = some (.int .i64 0) := z4.cell 5
    have f5 : w4.frozen? ⟨w.heap.size, 5, none⟩ = false := z4.frozen 5
    have d6 : w4.cell? ⟨w.heap.size, 6, none⟩ = some (.int .i64 0) := z4.cell 6
    have f6 : w4.frozen? ⟨w.heap.size, 6, none⟩ = false := z4.frozen 6
    have d7 : w4.cell? ⟨w.heap.size, 7, none⟩ = some (.string ⟨#[]⟩) := z4.cell 7
    have f7 : w4.frozen? ⟨w.heap.size, 7, none⟩ = false := z4.frozen 7
    have d8 : w4.cell? ⟨w.heap.size, 8, none⟩ = some (.string ⟨#[]⟩) := z4.cell 8
    have f8 : w4.frozen? ⟨w.heap.size, 8, none⟩ = false := z4.frozen 8
    have d9 : w4.cell? ⟨w.heap.size, 9, none⟩ = some (.slice none 0 0) := z4.cell 9
    have f9 : w4.frozen? ⟨w.heap.size, 9, none⟩ = false := z4.frozen 9
    have d10 : w4.cell? ⟨w.heap.size, 10, none⟩ = some (.slice none 0 0) := z4.cell 10
    have f10 : w4.frozen? ⟨w.heap.size, 10, none⟩ = false := z4.frozen 10
    have d11 : w4.cell? ⟨w.heap.size, 11, none⟩ = some (.int .i64 0) := z4.cell 11
    have f11 : w4.frozen? ⟨w.heap.size, 11, none⟩ = false := z4.frozen 11
    have d12 : w4.cell? ⟨w.heap.size, 12, none⟩ = some (.bool false) := z4.cell 12
    have f12 : w4.frozen? ⟨w.heap.size, 12, none⟩ = false := z4.frozen 12
    have d13 : w4.cell? ⟨w.heap.size, 13, none⟩ = some (.string ⟨#[]⟩) := z4.cell 13
    have f13 : w4.frozen? ⟨w.heap.size, 13, none⟩ = false := z4.frozen 13
    have hs3 : w.heap.size < w3.heap.size := HB3.out.2.1.lt
    have HE := Lib.hid (And.intro (own_baseN (own_grownL oP gW (by omega)) (by omega : w.heap.size ≤ w3.heap.size + 1)) (And.intro (own_baseN (own_grownL oI gW (by omega)) (by omega : w.heap.size ≤ w3.heap.size + 1)) (And.intro (h4.store14 gW z4) (bw4.grown gW bw4.size (fun g hg => by injection hg with hg; omega)))))
    clear zW gW z4 b4 bw4 h4 oP oI x0 x1 x2 x3 x4 x5 x6 x7 x8 x9 x10 x11 x12 x13 HB3 HC
    go_wp2
    refine bodyPost_ret (v := .tuple #[.agg #[.int .i64 L.kind, .int .i64 L.frm, .int .i64 L.to, .int .i64 L.a, .int .i64 L.b, .int .i64 L.c, .int .i64 L.d, .string L.s, .string L.t, .slice Av L.ps.length cv, .slice Iv L.is.length dv, .int .i64 L.code, .bool L.yes, .string L.body], .bool true]) ?_ rfl ⟨Av, cv, Iv, dv, by rw [HG.out.1, HG.out.2], by rw [HG.out.1]; exact HE.out.1, by rw [HG.out.1]; exact HE.out.2.1, HE.out.2.2.1, HE.out.2.2.2⟩
    simp [results, Try.results29, go_sem, p0, p1, p2, p3, p4, p5, p6, p7, p8, p9, p10, p11, p12, p13]
end
end Go.Proofs.Ytabcoidjbigdbaa

namespace Go.Proofs.Ytabcoidjbigdbaa
open Go.RowKit

def exN : Let := ⟨0, 0, 0, 0, 0, 0, 0, ⟨#[97]⟩, ⟨#[]⟩, [], [], 0, false, ⟨#[]⟩⟩
theorem exN_err : exN.err = 0 := err_zero.2 ⟨by decide, by decide, by decide, by
  have h0 : numForm 0 = [0] := numForm_lo (by omega)
  have h1 : numForm 1 = [1] := numForm_lo (by omega)
  show (numForm 0 ++ (numForm 0 ++ (numForm 0 ++ (numForm 0 ++ (numForm 0 ++ (numForm 0 ++ (numForm 0 ++ (numForm 0 ++ (numForm 0 ++ ((numForm 1 ++ [97]) ++ ((numForm 0 ++ []) ++ ((numForm 0 ++ []) ++ (numForm 0 ++ (numForm 0 ++ [])))))))))))))).length ≤ _
  rw [h0, h1]
  decide⟩
theorem wf_small (n : Int) (h : 0 ≤ n) (h2 : n ≤ 1000000000000) : (Lit.int .i64 n).wf = true := by
  obtain ⟨k, rfl⟩ : ∃ k : Nat, n = (k : Int) := ⟨n.toNat, by omega⟩
  exact wf_nat k (by omega)
/-- what Send leaves of a right letter, where there is room -/
theorem SendPost.ok {B sb mb d : Nat} {E : List NEn} {L : Let} {w w' : World} {e : Ending} (h : SendPost B sb mb E d L w e w') (hL : L.err = 0) (hE : E.length < 4096) :
    ∃ en : NEn, en.n = ((d + 1 : Nat) : Int) ∧ en.L = L ∧ e = .returned (.tuple #[.int .i64 ((d + 1 : Nat) : Int), .int .i64 0]) ∧ NetAt w' B sb mb (E ++ [en]) (d + 1) ∧
    (OwnLps w' w.heap.size (.slice en.Ap L.ps.length en.cp) L.ps ∧ OwnLis w' w.heap.size (.slice en.Ai L.is.length en.ci) L.is) ∧ Kept2 sb mb w w' := by
  rcases h with ⟨h1, -⟩ | ⟨-, h⟩
  · exact absurd hL h1
  · rcases h with ⟨h1, -⟩ | ⟨-, h⟩
    · omega
    · exact h
set_option maxRecDepth 100000 in
set_option maxHeartbeats 6400000 in
theorem awake14_any (w : World) : Calls Try.prog 20 #[] w fun e w' => e = .returned (.bool true) ∧ Below w.heap.size w w' := by
  go_enter Try.func20, Try.ntmps20
  go_wp2_with fail
  refine (netNew_any w).mono ?_
  rintro e w1 ⟨sb, mb, rfl, n1, b1⟩
  have Hs : Hid (Calls Try.prog 22 #[.pointer (some ⟨sb, 0, none⟩), .agg #[.int .i64 0, .int .i64 0, .int .i64 0, .int .i64 0, .int .i64 0, .int .i64 0, .int .i64 0, .string ⟨#[97]⟩, .string ⟨#[]⟩, .slice none 0 0, .slice none 0 0, .int .i64 0, .bool false, .string ⟨#[]⟩]] w1 (SendPost w.heap.size sb mb [] 0 exN w1)) :=
    Lib.hid (netSend_any n1 b1.size (by omega) exN none 0 0 none 0 0 (fun wx _ => ⟨HasLps.nil _ _ _, HasLis.nil _ _ _⟩) ⟨by simp [maxLen], by simp [maxLen]⟩ (by decide) (by simp [exN]) (by simp [exN]))
  have N1 := Lib.hid n1
  have B1 := Lib.hid b1
  clear n1 b1
  go_wp2_with fail
  refine Hs.out.mono ?_
  rintro e w2 hp
  obtain ⟨en, hn, hL, rfl, n2, -, k2⟩ := hp.ok exN_err (by simp)
  have hb2 := B1.out.trans (k2.below N1.out.sB N1.out.mB B1.out.size)
  obtain ⟨n, Ap, cp, Ai, ci, L⟩ := en
  simp only at hn hL
  subst hn hL
  have Ht := Lib.hid (netTwice_any n2 hb2.size (by omega) 1 (wf_small 1 (by omega) (by omega)))
  have HB2 := Lib.hid hb2
  have N2 := Lib.hid n2
  clear hb2 n2 k2 hp Hs N1
  go_wp2_with fail
  refine Ht.out.mono ?_
  rintro e w3 hp
  rcases hp with ⟨hg, -⟩ | ⟨e0, hg, hp⟩
  · exact absurd hg (by simp [getN])
  have h0 : e0 = ⟨((0 + 1 : Nat) : Int), Ap, cp, Ai, ci, exN⟩ := by simpa [getN] using hg.symm
  subst h0
  rcases hp with ⟨h1, -⟩ | ⟨-, en, hn, hL, rfl, n3, -, k3⟩
  · simp at h1
  have hb3 := HB2.out.trans (k3.below N2.out.sB N2.out.mB HB2.out.size)
  obtain ⟨n, Bp, dp, Bi, di, L⟩ := en
  simp only at hn hL
  subst hn hL
  have Hd := Lib.hid (netDeliver_any n3 1 (wf_small 1 (by omega) (by omega)))
  have HB3 := Lib.hid hb3
  have N3 := Lib.hid n3
  clear hb3 n3 k3 Ht N2 hg
  go_wp2_with fail
  refine Hd.out.mono ?_
  rintro e w4 hp
  rcases hp with ⟨hg, -⟩ | ⟨e0, hg, rfl, n4, -, k4⟩
  · exact absurd hg (by simp [getN])
  have h0 : e0 = ⟨((0 + 1 : Nat) : Int), Ap, cp, Ai, ci, exN⟩ := by simpa [getN] using hg.symm
  subst h0
  have hb4 := HB3.out.trans (k4.below N3.out.sB N3.out.mB HB3.out.size)
  have hdl : delN 1 ([⟨((0 + 1 : Nat) : Int), Ap, cp, Ai, ci, exN⟩] ++ [⟨((0 + 1 + 1 : Nat) : Int), Bp, dp, Bi, di, exN⟩]) = [⟨((0 + 1 + 1 : Nat) : Int), Bp, dp, Bi, di, exN⟩] := by simp [delN]
  have e1 : ([] ++ [(⟨((0 + 1 : Nat) : Int), Ap, cp, Ai, ci, exN⟩ : NEn)] ++ [⟨((0 + 1 + 1 : Nat) : Int), Bp, dp, Bi, di, exN⟩] : List NEn) = [⟨((0 + 1 : Nat) : Int), Ap, cp, Ai, ci, exN⟩] ++ [⟨((0 + 1 + 1 : Nat) : Int), Bp, dp, Bi, di, exN⟩] := rfl
  rw [e1, hdl] at n4
  obtain ⟨X, hX⟩ : ∃ X, exN = X := ⟨_, rfl⟩
  have hs : X.s = ⟨#[97]⟩ := by rw [← hX]; rfl
  rw [hX] at n4
  simp only [hX] 
  have HL : Hid (∀ wx, Below w4.heap.size w4 wx → Calls Try.prog 34 #[.pointer (some ⟨sb, 0, none⟩)] wx fun e w' => e = .returned (.int .i64 1) ∧ Below wx.heap.size wx w') := Lib.hid fun wx hx => netLen_any (n4.below hx)
  have HB4 := Lib.hid hb4
  clear hb4 n4 k4 Hd N3 hg hdl e1 hX
  obtain ⟨c0, c1, c2, c3, c4, c5, c6, c7, c8, ps, is, c11, c12, c13⟩ := X
  simp only at hs ⊢
  subst hs
  have hbx := below_box (w := w4) (.cells #[.int .i64 c0, .int .i64 c1, .int .i64 c2, .int .i64 c3, .int .i64 c4, .int .i64 c5, .int .i64 c6, .string ⟨#[97]⟩, .string c8, .slice Ap ps.length cp, .slice Ai is.length ci, .int .i64 c11, .bool c12, .string c13] 26)
  have HL2 := Lib.hid (HL.out _ hbx)
  have HB5 := Lib.hid (HB4.out.trans (hbx.mono HB4.out.size))
  clear hbx HL
  go_wp2_with fail
  refine HL2.out.mono ?_
  rintro e w5 ⟨rfl, b5⟩
  have HE := Lib.hid (HB5.out.trans (b5.mono HB5.out.size))
  clear b5
  go_wp2
  go_ret
  exact ⟨rfl, HE.out⟩
end Go.Proofs.Ytabcoidjbigdbaa
