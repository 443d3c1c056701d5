/- Layer 14: letters under way, as rows of numbered letters and as they stand in memory. No condition. -/
import Derived.Test.YtabcoidjbigdbaaLetX
import Derived.Test.YtabcoidjbigdbaaLetG
import Derived.Maps.OwnSet
import Derived.Lib.SlKeysI
namespace Go.Proofs.Ytabcoidjbigdbaa
open Go.RowKit

/-- a letter under way: its number, where its rows lie, what it is -/
structure NEn where
  n : Int
  Ap : Option Addr
  cp : Nat
  Ai : Option Addr
  ci : Nat
  L : Let
def NEn.v (e : NEn) : Value := .agg #[.int .i64 e.L.kind, .int .i64 e.L.frm, .int .i64 e.L.to, .int .i64 e.L.a, .int .i64 e.L.b, .int .i64 e.L.c, .int .i64 e.L.d, .string e.L.s, .string e.L.t, .slice e.Ap e.L.ps.length e.cp, .slice e.Ai e.L.is.length e.ci, .int .i64 e.L.code, .bool e.L.yes, .string e.L.body]
def nmap (E : List NEn) : DataW Value := .map (E.map fun p => (.int .i64 p.n, .held p.v))
def getN (k : Int) (E : List NEn) : Option NEn := E.find? fun p => decide (p.n = k)
def delN (k : Int) (E : List NEn) : List NEn := E.filter fun p => !decide (p.n = k)
theorem sameKey_int (a b : Int) : (Lit.int .i64 a).sameKey (.int .i64 b) = decide (a = b) := by simp [Lit.sameKey]
theorem getN_some {k : Int} {E : List NEn} {e : NEn} (h : getN k E = some e) : e ∈ E ∧ e.n = k :=
  ⟨List.mem_of_find?_eq_some h, by have := List.find?_some h; simpa using this⟩
theorem insert_end {x : Lit × DataW Value} {k : Int} (hx : x.1 = .int .i64 k) : ∀ (E : List NEn), (∀ p ∈ E, p.n < k) → DataW.insert x (E.map fun p => ((Lit.int .i64 p.n, DataW.held p.v) : Lit × DataW Value)) = (E.map fun p => (.int .i64 p.n, .held p.v)) ++ [x]
  | [], _ => rfl
  | y :: l, h => by
    have hy := h y (by simp)
    have ih := insert_end hx l (fun p hp => h p (by simp [hp]))
    obtain ⟨a, b⟩ := x
    simp only at hx
    subst hx
    have h1 : (Lit.int .i64 k).before (.int .i64 y.n) = false := by simp [Lit.before]; omega
    simp only [List.map_cons, DataW.insert, h1, Bool.false_eq_true, if_false, List.cons_append, ih]
theorem nmap_put (E : List NEn) (e : NEn) (h : ∀ p ∈ E, p.n < e.n) : (nmap E).put (.int .i64 e.n) (.held e.v) = nmap (E ++ [e]) := by
  simp only [nmap, DataW.put, List.map_append, List.map_cons, List.map_nil, DataW.map.injEq]
  have hf : (List.map (fun p => ((Lit.int IntKind.i64 p.n, DataW.held p.v) : Lit × DataW Value)) E).filter (fun p => !p.1.sameKey (Lit.int IntKind.i64 e.n)) = List.map (fun p => (Lit.int IntKind.i64 p.n, DataW.held p.v)) E := by
    refine List.filter_eq_self.2 fun q hq => ?_
    obtain ⟨p, hp, rfl⟩ := List.mem_map.1 hq
    have := h p hp
    simp [sameKey_int]
    omega
  rw [hf, insert_end rfl E h]
theorem nmap_del (E : List NEn) (k : Int) : (nmap E).del (.int .i64 k) = nmap (delN k E) := by
  simp only [nmap, DataW.del, DataW.map.injEq, delN]
  rw [List.filter_map]
  congr 1
  refine List.filter_congr fun p _ => ?_
  simp [sameKey_int]
theorem nmap_at (k : Int) (z : DataW Value) : ∀ (E : List NEn), (nmap E).atKey (.int .i64 k) z = match getN k E with | some a => .held a.v | none => z
  | [] => rfl
  | y :: l => by
    have ih := nmap_at k z l
    simp only [nmap, DataW.atKey, List.map_cons, getN, List.find?_cons] at ih ⊢
    by_cases he : y.n = k
    · simp [sameKey_int, he]
    · simp only [sameKey_int, he, decide_false]
      exact ih
theorem nmap_has (k : Int) : ∀ (E : List NEn), Maps.has (nmap E) (.int .i64 k) = (getN k E).isSome
  | [] => rfl
  | y :: l => by
    have ih := nmap_has k l
    simp only [nmap, Maps.has_eq, List.map_cons, getN, List.find?_cons, List.any_cons] at ih ⊢
    by_cases he : y.n = k
    · simp [sameKey_int, he]
    · simp only [sameKey_int, he, decide_false, Bool.false_or]
      exact ih
theorem nmap_size (E : List NEn) : Maps.size (nmap E) = E.length := by simp [nmap, Maps.size]
theorem nmap_keys (E : List NEn) : intKeys (nmap E) = E.map (·.n) := by simp [nmap, intKeys, Go.intOf]
theorem sort_ints {ss ks : List Int} (h : ss.Perm ks) (hk : ks.Pairwise (· < ·)) : ss.mergeSort (fun x y => decide (x ≤ y)) = ks := by
  have h1 : (ss.mergeSort (fun x y => decide (x ≤ y))).Perm ks := (List.mergeSort_perm ss _).trans h
  have h2 : (ss.mergeSort (fun x y => decide (x ≤ y))).Pairwise (· ≤ ·) := by
    have := List.pairwise_mergeSort (le := fun (x y : Int) => decide (x ≤ y)) (by intro a b c; simp; omega) (by intro a b; simp; omega) ss
    exact this.imp (by intro a b; simp)
  exact h1.eq_of_pairwise (fun a b _ _ h3 h4 => by omega) h2 (hk.imp (by intro a b; omega))
def Rn (v : Value) : Option (DataW Value × List MemPlace) := some (.held v, [])
theorem intKeyed : Maps.Keyed Try.prog 3 := Maps.int_keyed Try.underlying3
theorem mapN_block {w : World} {P : Program} {k : TypeId} {b n : Nat} {D : DataW Value} (h : w.ownsMap P k Rn b n D) : ∃ es c, w.heap[b]? = some (.map es c) := by
  obtain ⟨es, c, hb, _⟩ := h
  exact ⟨es, c, hb⟩
theorem mapN_keep {w w' : World} {P : Program} {k : TypeId} {b n : Nat} {D : DataW Value} (h : w.ownsMap P k Rn b n D) (hk : w'.heap[b]? = w.heap[b]?) : w'.ownsMap P k Rn b n D := by
  obtain ⟨es, c, hb, r⟩ := h
  exact ⟨es, c, hk.trans hb, r⟩
theorem mapN_size {w : World} {P : Program} {k : TypeId} {b n : Nat} {D : DataW Value} (h : w.ownsMap P k Rn b n D) : w.ownsMap P k Rn b (Maps.size D) D := by
  obtain ⟨es, c, hb, F, hs, rfl⟩ := h
  exact ⟨es, c, hb, F, by simp [Maps.size, length_sorted], rfl⟩

/-- The pointer to block sb is a net: its map in block mb; what is under way are the letters E, the last number d. -/
structure NetAt (w : World) (B sb mb : Nat) (E : List NEn) (d : Nat) : Prop where
  sB : B ≤ sb
  mB : B ≤ mb
  box : Box w sb 102 #[.map (some mb), .int .i64 d]
  own : w.ownsMap Try.prog 3 Rn mb E.length (nmap E)
  rise : E.Pairwise fun p q => p.n < q.n
  nums : ∀ p ∈ E, 1 ≤ p.n ∧ p.n ≤ d
  rows : ∀ p ∈ E, OwnLps w B (.slice p.Ap p.L.ps.length p.cp) p.L.ps ∧ OwnLis w B (.slice p.Ai p.L.is.length p.ci) p.L.is
  good : ∀ p ∈ E, p.L.err = 0
/-- only the net's box and its map may have turned -/
structure Kept2 (sb mb : Nat) (w w' : World) : Prop where
  os : w'.os = w.os
  tape : w'.tape = w.tape
  output : w'.output = w.output
  size : w.heap.size ≤ w'.heap.size
  block : ∀ i, i < w.heap.size → i ≠ sb → i ≠ mb → w'.heap[i]? = w.heap[i]?
theorem Kept2.of {sb mb : Nat} {w w' : World} (h : Below w.heap.size w w') : Kept2 sb mb w w' := ⟨h.os, h.tape, h.output, h.size, fun i hi _ _ => h.block i hi⟩
theorem Kept2.trans {sb mb : Nat} {w w1 w2 : World} (h : Kept2 sb mb w w1) (h2 : Kept2 sb mb w1 w2) : Kept2 sb mb w w2 :=
  ⟨h2.os.trans h.os, h2.tape.trans h.tape, h2.output.trans h.output, Nat.le_trans h.size h2.size, fun i hi a b => (h2.block i (Nat.lt_of_lt_of_le hi h.size) a b).trans (h.block i hi a b)⟩
theorem Kept2.below {w w' : World} {B sb mb : Nat} (h : Kept2 sb mb w w') (hs : B ≤ sb) (hm : B ≤ mb) (hB : B ≤ w.heap.size) : Below B w w' :=
  ⟨h.os, h.tape, h.output, h.size, fun i hi => h.block i (by omega) (by omega) (by omega)⟩
theorem Kept2.grown {sb mb g : Nat} {w w' : World} (h : w.grownBy w' (some g)) (hg : g = sb ∨ g = mb) : Kept2 sb mb w w' :=
  ⟨h.os, h.tape, h.output, h.size, fun i hi h1 h2 => h.block i hi fun e => by
    injection e with e
    subst e
    rcases hg with rfl | rfl
    · exact h1 rfl
    · exact h2 rfl⟩
theorem ownN_keep {w w' : World} {B m size : Nat} {e : TypeId} {v : Value} {xs : List Value} (h : w.ownsRow B e size v m xs) (hk : ∀ g, v.ownBlock = some g → w'.heap[g]? = w.heap[g]?) : w'.ownsRow B e size v m xs := by
  refine ⟨h.1, ?_⟩
  rcases h.2 with hn | ⟨g, cap, cur, rfl, hB, hg, rest⟩
  · exact .inl hn
  · exact .inr ⟨g, cap, cur, rfl, hB, (hk g rfl).trans hg, rest⟩
/-- a row's block is neither a net's box nor a map -/
theorem own_no_net {w : World} {B m size sb mb d : Nat} {es : Array MapEntry} {c : Nat} {e : TypeId} {v : Value} {xs : List Value} (h : w.ownsRow B e size v m xs) (hb : Box w sb 102 #[.map (some mb), .int .i64 d]) (hm : w.heap[mb]? = some (.map es c)) (hne : e ≠ 102) :
    ∀ g, v.ownBlock = some g → g ≠ sb ∧ g ≠ mb := by
  intro g hg
  refine ⟨own_box_ne h hb hne g hg, fun e0 => ?_⟩
  subst e0
  rcases h.2 with ⟨rfl, _⟩ | ⟨g1, cap, cur, rfl, hB, hh, rest⟩
  · cases hg
  · cases hg
    rw [hh] at hm
    cases hm
theorem box_no_net {w : World} {g sb mb d : Nat} {es : Array MapEntry} {c : Nat} {t : TypeId} {cs : Array Value} (h : Box w g t cs) (hb : Box w sb 102 #[.map (some mb), .int .i64 d]) (hm : w.heap[mb]? = some (.map es c)) (hne : t ≠ 102) : g ≠ sb ∧ g ≠ mb := by
  unfold Box at h hb
  refine ⟨fun e => ?_, fun e => ?_⟩
  · subst e
    rw [h] at hb
    injection hb with hb
    injection hb with _ hb
    exact hne hb
  · subst e
    rw [h] at hm
    cases hm
section
variable {w w' : World} {B sb mb d : Nat} {E : List NEn}
theorem NetAt.lt (h : NetAt w B sb mb E d) : sb < w.heap.size ∧ mb < w.heap.size := ⟨h.box.lt, h.own.lt⟩
theorem NetAt.ne (h : NetAt w B sb mb E d) : sb ≠ mb := by
  obtain ⟨es, c, hm⟩ := mapN_block h.own
  have hb := h.box
  unfold Box at hb
  intro e
  subst e
  rw [hb] at hm
  cases hm
theorem NetAt.below (h : NetAt w B sb mb E d) (hb : Below w.heap.size w w') : NetAt w' B sb mb E d :=
  { h with
    box := h.box.below hb h.box.lt
    own := mapN_keep h.own (hb.block mb h.own.lt)
    rows := fun p hp => ⟨(h.rows p hp).1.below hb, (h.rows p hp).2.below hb⟩ }
theorem NetAt.cells (h : NetAt w B sb mb E d) : w.cell? ⟨sb, 0, none⟩ = some (.map (some mb)) ∧ w.cell? ⟨sb, 1, none⟩ = some (.int .i64 d) ∧ w.frozen? ⟨sb, 0, none⟩ = false ∧ w.frozen? ⟨sb, 1, none⟩ = false :=
  ⟨h.box.cell 0, h.box.cell 1, h.box.frozen 0, h.box.frozen 1⟩
theorem typesN : (38 : TypeId) ≠ 102 ∧ (40 : TypeId) ≠ 102 := by decide
/-- a row that is none of the net's stays -/
theorem NetAt.rowKept (h : NetAt w B sb mb E d) (hk : Kept2 sb mb w w') {C m size : Nat} {e : TypeId} {v : Value} {xs : List Value} (ho : w.ownsRow C e size v m xs) (hne : e ≠ 102) : w'.ownsRow C e size v m xs := by
  obtain ⟨es, c, hm⟩ := mapN_block h.own
  exact ownN_keep ho fun g hg => hk.block g (ho.lt g hg).2 (own_no_net ho h.box hm hne g hg).1 (own_no_net ho h.box hm hne g hg).2
theorem NetAt.boxKept (h : NetAt w B sb mb E d) (hk : Kept2 sb mb w w') {g : Nat} {t : TypeId} {cs : Array Value} (ho : Box w g t cs) (hne : t ≠ 102) : Box w' g t cs := by
  obtain ⟨es, c, hm⟩ := mapN_block h.own
  have h1 := box_no_net ho h.box hm hne
  exact (hk.block g ho.lt h1.1 h1.2).trans ho
theorem NetAt.get (h : NetAt w B sb mb E d) {k : Int} {e : NEn} (hg : getN k E = some e) : e.L.err = 0 ∧ OwnLps w B (.slice e.Ap e.L.ps.length e.cp) e.L.ps ∧ OwnLis w B (.slice e.Ai e.L.is.length e.ci) e.L.is :=
  ⟨h.good e (getN_some hg).1, h.rows e (getN_some hg).1⟩
/-- 'v, ok := m[k]' of the net's map -/
theorem NetAt.look (h : NetAt w B sb mb E d) (k : Int) (hk : (Lit.int .i64 k).wf = true) :
    (getN k E = none → (Instr.lookup 100 (.map (some mb)) (.int .i64 k) true).run Try.prog w = .ok (.tuple #[.agg #[.int .i64 0, .int .i64 0, .int .i64 0, .int .i64 0, .int .i64 0, .int .i64 0, .int .i64 0, .string ⟨#[]⟩, .string ⟨#[]⟩, .slice none 0 0, .slice none 0 0, .int .i64 0, .bool false, .string ⟨#[]⟩], .bool false]) w) ∧
    (∀ e, getN k E = some e → (Instr.lookup 100 (.map (some mb)) (.int .i64 k) true).run Try.prog w = .ok (.tuple #[.agg #[.int .i64 e.L.kind, .int .i64 e.L.frm, .int .i64 e.L.to, .int .i64 e.L.a, .int .i64 e.L.b, .int .i64 e.L.c, .int .i64 e.L.d, .string e.L.s, .string e.L.t, .slice e.Ap e.L.ps.length e.cp, .slice e.Ai e.L.is.length e.ci, .int .i64 e.L.code, .bool e.L.yes, .string e.L.body], .bool true]) w) := by
  have hz : (zeroValue 26).run Try.prog w = .ok (.agg #[.int .i64 0, .int .i64 0, .int .i64 0, .int .i64 0, .int .i64 0, .int .i64 0, .int .i64 0, .string ⟨#[]⟩, .string ⟨#[]⟩, .slice none 0 0, .slice none 0 0, .int .i64 0, .bool false, .string ⟨#[]⟩]) w := Try.zeroValue26 w
  have hkey := Maps.keyOf_int_mk Try.underlying3 hk
  obtain ⟨v, ps, hrun, hv⟩ := h.own.look_ok intKeyed Try.underlying100 hz (zd := .held (.agg #[.int .i64 0, .int .i64 0, .int .i64 0, .int .i64 0, .int .i64 0, .int .i64 0, .int .i64 0, .string ⟨#[]⟩, .string ⟨#[]⟩, .slice none 0 0, .slice none 0 0, .int .i64 0, .bool false, .string ⟨#[]⟩])) rfl hkey
  rw [nmap_has] at hrun
  rw [nmap_at] at hv
  simp only [Rn, Option.some.injEq, Prod.mk.injEq] at hv
  refine ⟨fun hg => ?_, fun e hg => ?_⟩
  · rw [hg] at hv hrun
    simp only [DataW.held.injEq] at hv
    rw [hv.1] at hrun
    exact hrun
  · rw [hg] at hv hrun
    simp only [DataW.held.injEq] at hv
    rw [hv.1] at hrun
    exact hrun
end
end Go.Proofs.Ytabcoidjbigdbaa
