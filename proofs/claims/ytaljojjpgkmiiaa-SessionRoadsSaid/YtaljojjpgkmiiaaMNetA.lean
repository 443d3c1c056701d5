/- Package net: a copy of a right letter is brought under way. Condition: the net and the letter's rows are in memory. -/
import Derived.Test.YtaljojjpgkmiiaaMLetU
import Derived.Test.YtaljojjpgkmiiaaMLetF
import Derived.Maps.OwnSet
import Derived.Lib.SlKeysI
import Derived.Deep.RegionHeld3
namespace Go.Proofs.Ytaljojjpgkmiiaa
open Go.RowKit

/-- a letter under way: its number, where its rows lie, what it is -/
structure NEn where
  n : Int
  Ap : Option Addr
  cp : Nat
  Ai : Option Addr
  ci : Nat
  L : Let
def NEn.v (e : NEn) : Value := .agg #[.int .i64 e.L.kind, .int .i64 e.L.frm, .int .i64 e.L.to, .int .i64 e.L.a, .int .i64 e.L.b, .int .i64 e.L.c, .int .i64 e.L.d, .string e.L.s, .string e.L.t, .slice e.Ap e.L.ps.length e.cp, .slice e.Ai e.L.is.length e.ci, .int .i64 e.L.code, .bool e.L.yes, .string e.L.body]
def nmap (E : List NEn) : DataW Value := .map (E.map fun p => (.int .i64 p.n, .held p.v))
def getN (k : Int) (E : List NEn) : Option NEn := E.find? fun p => decide (p.n = k)
def delN (k : Int) (E : List NEn) : List NEn := E.filter fun p => !decide (p.n = k)
theorem sameKey_int (a b : Int) : (Lit.int .i64 a).sameKey (.int .i64 b) = decide (a = b) := by simp [Lit.sameKey]
theorem getN_some {k : Int} {E : List NEn} {e : NEn} (h : getN k E = some e) : e ∈ E ∧ e.n = k :=
  ⟨List.mem_of_find?_eq_some h, by have := List.find?_some h; simpa using this⟩
theorem insert_end {x : Lit × DataW Value} {k : Int} (hx : x.1 = .int .i64 k) : ∀ (E : List NEn), (∀ p ∈ E, p.n < k) → DataW.insert x (E.map fun p => ((Lit.int .i64 p.n, DataW.held p.v) : Lit × DataW Value)) = (E.map fun p => (.int .i64 p.n, .held p.v)) ++ [x]
  | [], _ => rfl
  | y :: l, h => by
    have hy := h y (by simp)
    have ih := insert_end hx l (fun p hp => h p (by simp [hp]))
    obtain ⟨a, b⟩ := x
    simp only at hx
    subst hx
    have h1 : (Lit.int .i64 k).before (.int .i64 y.n) = false := by simp [Lit.before]; omega
    simp only [List.map_cons, DataW.insert, h1, Bool.false_eq_true, if_false, List.cons_append, ih]
theorem nmap_put (E : List NEn) (e : NEn) (h : ∀ p ∈ E, p.n < e.n) : (nmap E).put (.int .i64 e.n) (.held e.v) = nmap (E ++ [e]) := by
  simp only [nmap, DataW.put, List.map_append, List.map_cons, List.map_nil, DataW.map.injEq]
  have hf : (List.map (fun p => ((Lit.int IntKind.i64 p.n, DataW.held p.v) : Lit × DataW Value)) E).filter (fun p => !p.1.sameKey (Lit.int IntKind.i64 e.n)) = List.map (fun p => (Lit.int IntKind.i64 p.n, DataW.held p.v)) E := by
    refine List.filter_eq_self.2 fun q hq => ?_
    obtain ⟨p, hp, rfl⟩ := List.mem_map.1 hq
    have := h p hp
    simp [sameKey_int]
    omega
  rw [hf, insert_end rfl E h]
theorem nmap_del (E : List NEn) (k : Int) : (nmap E).del (.int .i64 k) = nmap (delN k E) := by
  simp only [nmap, DataW.del, DataW.map.injEq, delN]
  rw [List.filter_map]
  congr 1
  refine List.filter_congr fun p _ => ?_
  simp [sameKey_int]
theorem nmap_at (k : Int) (z : DataW Value) : ∀ (E : List NEn), (nmap E).atKey (.int .i64 k) z = match getN k E with | some a => .held a.v | none => z
  | [] => rfl
  | y :: l => by
    have ih := nmap_at k z l
    simp only [nmap, DataW.atKey, List.map_cons, getN, List.find?_cons] at ih ⊢
    by_cases he : y.n = k
    · simp [sameKey_int, he]
    · simp only [sameKey_int, he, decide_false]
      exact ih
theorem nmap_has (k : Int) : ∀ (E : List NEn), Maps.has (nmap E) (.int .i64 k) = (getN k E).isSome
  | [] => rfl
  | y :: l => by
    have ih := nmap_has k l
    simp only [nmap, Maps.has_eq, List.map_cons, getN, List.find?_cons, List.any_cons] at ih ⊢
    by_cases he : y.n = k
    · simp [sameKey_int, he]
    · simp only [sameKey_int, he, decide_false, Bool.false_or]
      exact ih
theorem nmap_size (E : List NEn) : Maps.size (nmap E) = E.length := by simp [nmap, Maps.size]
theorem nmap_keys (E : List NEn) : intKeys (nmap E) = E.map (·.n) := by simp [nmap, intKeys, Go.intOf]
theorem sort_ints {ss ks : List Int} (h : ss.Perm ks) (hk : ks.Pairwise (· < ·)) : ss.mergeSort (fun x y => decide (x ≤ y)) = ks := by
  have h1 : (ss.mergeSort (fun x y => decide (x ≤ y))).Perm ks := (List.mergeSort_perm ss _).trans h
  have h2 : (ss.mergeSort (fun x y => decide (x ≤ y))).Pairwise (· ≤ ·) := by
    have := List.pairwise_mergeSort (le := fun (x y : Int) => decide (x ≤ y)) (by intro a b c; simp; omega) (by intro a b; simp; omega) ss
    exact this.imp (by intro a b; simp)
  exact h1.eq_of_pairwise (fun a b _ _ h3 h4 => by omega) h2 (hk.imp (by intro a b; omega))
def Rn (v : Value) : Option (DataW Value × List MemPlace) := some (.held v, [])
theorem intKeyed : Maps.Keyed Try.prog 3 := Maps.int_keyed Try.underlying3
theorem mapN_block {w : World} {P : Program} {k : TypeId} {b n : Nat} {D : DataW Value} (h : w.ownsMap P k Rn b n D) : ∃ es c, w.heap[b]? = some (.map es c) := by
  obtain ⟨es, c, hb, _⟩ := h
  exact ⟨es, c, hb⟩
theorem mapN_keep {w w' : World} {P : Program} {k : TypeId} {b n : Nat} {D : DataW Value} (h : w.ownsMap P k Rn b n D) (hk : w'.heap[b]? = w.heap[b]?) : w'.ownsMap P k Rn b n D := by
  obtain ⟨es, c, hb, r⟩ := h
  exact ⟨es, c, hk.trans hb, r⟩
theorem mapN_size {w : World} {P : Program} {k : TypeId} {b n : Nat} {D : DataW Value} (h : w.ownsMap P k Rn b n D) : w.ownsMap P k Rn b (Maps.size D) D := by
  obtain ⟨es, c, hb, F, hs, rfl⟩ := h
  exact ⟨es, c, hb, F, by simp [Maps.size, length_sorted], rfl⟩

/-- The pointer to block sb is a net: its map in block mb; what is under way are the letters E, the last number d. -/
structure NetAt (w : World) (B sb mb : Nat) (E : List NEn) (d : Nat) : Prop where
  sB : B ≤ sb
  mB : B ≤ mb
  box : Box w sb 124 #[.map (some mb), .int .i64 d]
  own : w.ownsMap Try.prog 3 Rn mb E.length (nmap E)
  rise : E.Pairwise fun p q => p.n < q.n
  nums : ∀ p ∈ E, 1 ≤ p.n ∧ p.n ≤ d
  rows : ∀ p ∈ E, OwnLps w B (.slice p.Ap p.L.ps.length p.cp) p.L.ps ∧ OwnLis w B (.slice p.Ai p.L.is.length p.ci) p.L.is
  good : ∀ p ∈ E, p.L.err = 0
/-- only the net's box and its map may have turned -/
structure Kept2 (sb mb : Nat) (w w' : World) : Prop where
  os : w'.os = w.os
  tape : w'.tape = w.tape
  output : w'.output = w.output
  size : w.heap.size ≤ w'.heap.size
  block : ∀ i, i < w.heap.size → i ≠ sb → i ≠ mb → w'.heap[i]? = w.heap[i]?
theorem Kept2.of {sb mb : Nat} {w w' : World} (h : Below w.heap.size w w') : Kept2 sb mb w w' := ⟨h.os, h.tape, h.output, h.size, fun i hi _ _ => h.block i hi⟩
theorem Kept2.trans {sb mb : Nat} {w w1 w2 : World} (h : Kept2 sb mb w w1) (h2 : Kept2 sb mb w1 w2) : Kept2 sb mb w w2 :=
  ⟨h2.os.trans h.os, h2.tape.trans h.tape, h2.output.trans h.output, Nat.le_trans h.size h2.size, fun i hi a b => (h2.block i (Nat.lt_of_lt_of_le hi h.size) a b).trans (h.block i hi a b)⟩
theorem Kept2.below {w w' : World} {B sb mb : Nat} (h : Kept2 sb mb w w') (hs : B ≤ sb) (hm : B ≤ mb) (hB : B ≤ w.heap.size) : Below B w w' :=
  ⟨h.os, h.tape, h.output, h.size, fun i hi => h.block i (by omega) (by omega) (by omega)⟩
theorem Kept2.grown {sb mb g : Nat} {w w' : World} (h : w.grownBy w' (some g)) (hg : g = sb ∨ g = mb) : Kept2 sb mb w w' :=
  ⟨h.os, h.tape, h.output, h.size, fun i hi h1 h2 => h.block i hi fun e => by
    injection e with e
    subst e
    rcases hg with rfl | rfl
    · exact h1 rfl
    · exact h2 rfl⟩
theorem ownN_keep {w w' : World} {B m size : Nat} {e : TypeId} {v : Value} {xs : List Value} (h : w.ownsRow B e size v m xs) (hk : ∀ g, v.ownBlock = some g → w'.heap[g]? = w.heap[g]?) : w'.ownsRow B e size v m xs := by
  refine ⟨h.1, ?_⟩
  rcases h.2 with hn | ⟨g, cap, cur, rfl, hB, hg, rest⟩
  · exact .inl hn
  · exact .inr ⟨g, cap, cur, rfl, hB, (hk g rfl).trans hg, rest⟩
/-- a row's block is neither a net's box nor a map -/
theorem own_no_net {w : World} {B m size sb mb d : Nat} {es : Array MapEntry} {c : Nat} {e : TypeId} {v : Value} {xs : List Value} (h : w.ownsRow B e size v m xs) (hb : Box w sb 124 #[.map (some mb), .int .i64 d]) (hm : w.heap[mb]? = some (.map es c)) (hne : e ≠ 124) :
    ∀ g, v.ownBlock = some g → g ≠ sb ∧ g ≠ mb := by
  intro g hg
  refine ⟨own_box_ne h hb hne g hg, fun e0 => ?_⟩
  subst e0
  rcases h.2 with ⟨rfl, _⟩ | ⟨g1, cap, cur, rfl, hB, hh, rest⟩
  · cases hg
  · cases hg
    rw [hh] at hm
    cases hm
theorem box_no_net {w : World} {g sb mb d : Nat} {es : Array MapEntry} {c : Nat} {t : TypeId} {cs : Array Value} (h : Box w g t cs) (hb : Box w sb 124 #[.map (some mb), .int .i64 d]) (hm : w.heap[mb]? = some (.map es c)) (hne : t ≠ 124) : g ≠ sb ∧ g ≠ mb := by
  unfold Box at h hb
  refine ⟨fun e => ?_, fun e => ?_⟩
  · subst e
    rw [h] at hb
    injection hb with hb
    injection hb with _ hb
    exact hne hb
  · subst e
    rw [h] at hm
    cases hm
section
variable {w w' : World} {B sb mb d : Nat} {E : List NEn}
theorem NetAt.lt (h : NetAt w B sb mb E d) : sb < w.heap.size ∧ mb < w.heap.size := ⟨h.box.lt, h.own.lt⟩
theorem NetAt.ne (h : NetAt w B sb mb E d) : sb ≠ mb := by
  obtain ⟨es, c, hm⟩ := mapN_block h.own
  have hb := h.box
  unfold Box at hb
  intro e
  subst e
  rw [hb] at hm
  cases hm
theorem NetAt.below (h : NetAt w B sb mb E d) (hb : Below w.heap.size w w') : NetAt w' B sb mb E d :=
  { h with
    box := h.box.below hb h.box.lt
    own := mapN_keep h.own (hb.block mb h.own.lt)
    rows := fun p hp => ⟨(h.rows p hp).1.below hb, (h.rows p hp).2.below hb⟩ }
theorem NetAt.cells (h : NetAt w B sb mb E d) : w.cell? ⟨sb, 0, none⟩ = some (.map (some mb)) ∧ w.cell? ⟨sb, 1, none⟩ = some (.int .i64 d) ∧ w.frozen? ⟨sb, 0, none⟩ = false ∧ w.frozen? ⟨sb, 1, none⟩ = false :=
  ⟨h.box.cell 0, h.box.cell 1, h.box.frozen 0, h.box.frozen 1⟩
theorem typesN : (94 : TypeId) ≠ 124 ∧ (96 : TypeId) ≠ 124 := by decide
/-- a row that is none of the net's stays -/
theorem NetAt.rowKept (h : NetAt w B sb mb E d) (hk : Kept2 sb mb w w') {C m size : Nat} {e : TypeId} {v : Value} {xs : List Value} (ho : w.ownsRow C e size v m xs) (hne : e ≠ 124) : w'.ownsRow C e size v m xs := by
  obtain ⟨es, c, hm⟩ := mapN_block h.own
  exact ownN_keep ho fun g hg => hk.block g (ho.lt g hg).2 (own_no_net ho h.box hm hne g hg).1 (own_no_net ho h.box hm hne g hg).2
theorem NetAt.boxKept (h : NetAt w B sb mb E d) (hk : Kept2 sb mb w w') {g : Nat} {t : TypeId} {cs : Array Value} (ho : Box w g t cs) (hne : t ≠ 124) : Box w' g t cs := by
  obtain ⟨es, c, hm⟩ := mapN_block h.own
  have h1 := box_no_net ho h.box hm hne
  exact (hk.block g ho.lt h1.1 h1.2).trans ho
theorem NetAt.get (h : NetAt w B sb mb E d) {k : Int} {e : NEn} (hg : getN k E = some e) : e.L.err = 0 ∧ OwnLps w B (.slice e.Ap e.L.ps.length e.cp) e.L.ps ∧ OwnLis w B (.slice e.Ai e.L.is.length e.ci) e.L.is :=
  ⟨h.good e (getN_some hg).1, h.rows e (getN_some hg).1⟩
/-- 'v, ok := m[k]' of the net's map -/
theorem NetAt.look (h : NetAt w B sb mb E d) (k : Int) (hk : (Lit.int .i64 k).wf = true) :
    (getN k E = none → (Instr.lookup 122 (.map (some mb)) (.int .i64 k) true).run Try.prog w = .ok (.tuple #[.agg #[.int .i64 0, .int .i64 0, .int .i64 0, .int .i64 0, .int .i64 0, .int .i64 0, .int .i64 0, .string ⟨#[]⟩, .string ⟨#[]⟩, .slice none 0 0, .slice none 0 0, .int .i64 0, .bool false, .string ⟨#[]⟩], .bool false]) w) ∧
    (∀ e, getN k E = some e → (Instr.lookup 122 (.map (some mb)) (.int .i64 k) true).run Try.prog w = .ok (.tuple #[.agg #[.int .i64 e.L.kind, .int .i64 e.L.frm, .int .i64 e.L.to, .int .i64 e.L.a, .int .i64 e.L.b, .int .i64 e.L.c, .int .i64 e.L.d, .string e.L.s, .string e.L.t, .slice e.Ap e.L.ps.length e.cp, .slice e.Ai e.L.is.length e.ci, .int .i64 e.L.code, .bool e.L.yes, .string e.L.body], .bool true]) w) := by
  have hz : (zeroValue 69).run Try.prog w = .ok (.agg #[.int .i64 0, .int .i64 0, .int .i64 0, .int .i64 0, .int .i64 0, .int .i64 0, .int .i64 0, .string ⟨#[]⟩, .string ⟨#[]⟩, .slice none 0 0, .slice none 0 0, .int .i64 0, .bool false, .string ⟨#[]⟩]) w := Try.zeroValue69 w
  have hkey := Maps.keyOf_int_mk Try.underlying3 hk
  obtain ⟨v, ps, hrun, hv⟩ := h.own.look_ok intKeyed Try.underlying122 hz (zd := .held (.agg #[.int .i64 0, .int .i64 0, .int .i64 0, .int .i64 0, .int .i64 0, .int .i64 0, .int .i64 0, .string ⟨#[]⟩, .string ⟨#[]⟩, .slice none 0 0, .slice none 0 0, .int .i64 0, .bool false, .string ⟨#[]⟩])) rfl hkey
  rw [nmap_has] at hrun
  rw [nmap_at] at hv
  simp only [Rn, Option.some.injEq, Prod.mk.injEq] at hv
  refine ⟨fun hg => ?_, fun e hg => ?_⟩
  · rw [hg] at hv hrun
    simp only [DataW.held.injEq] at hv
    rw [hv.1] at hrun
    exact hrun
  · rw [hg] at hv hrun
    simp only [DataW.held.injEq] at hv
    rw [hv.1] at hrun
    exact hrun
end
end Go.Proofs.Ytaljojjpgkmiiaa

namespace Go.Proofs.Ytaljojjpgkmiiaa
open Go.RowKit

theorem wf_nat (n : Nat) (h : n ≤ 1000000000000) : (Lit.int .i64 (n : Int)).wf = true := by
  have h1 : IntKind.i64.min = -9223372036854775808 := by decide
  have h2 : IntKind.i64.max = 9223372036854775807 := by decide
  simp only [Lit.wf, h1, h2, Bool.and_eq_true, decide_eq_true_eq]
  omega
theorem turnedN_box {w w' : World} {b g : Nat} {t : TypeId} {cs : Array Value} (h : w.mapTurned w' b) (hb : Box w g t cs) : Box w' g t cs := by
  obtain ⟨es, c, es', c', hm, rfl⟩ := h
  have hne : g ≠ b := fun e => by
    unfold Box at hb
    rw [e, hm] at hb
    cases hb
  exact (ChangeMaps.heap_setBlock_other hm _ hne).trans hb
theorem turnedN_own {w w' : World} {b B m size : Nat} {e : TypeId} {v : Value} {xs : List Value} (h : w.mapTurned w' b) (ho : w.ownsRow B e size v m xs) : w'.ownsRow B e size v m xs := by
  obtain ⟨es, c, es', c', hm, rfl⟩ := h
  refine ownN_keep ho fun g hg => ?_
  have hne : g ≠ b := fun e0 => by
    subst e0
    rcases ho.2 with ⟨rfl, _⟩ | ⟨g1, cap, cur, rfl, hB, hh, rest⟩
    · cases hg
    · cases hg
      rw [hh] at hm
      cases hm
  exact ChangeMaps.heap_setBlock_other hm _ hne
theorem turnedN_kept {w w' : World} {sb mb : Nat} (h : w.mapTurned w' mb) : Kept2 sb mb w w' := Kept2.grown h.grown (.inr rfl)
def AddPost (B sb mb : Nat) (E : List NEn) (d : Nat) (L : Let) (w : World) (e : Ending) (w' : World) : Prop :=
  (4096 ≤ E.length ∧ e = .returned (.tuple #[.int .i64 0, .int .i64 17]) ∧ NetAt w' B sb mb E d ∧ Below w.heap.size w w') ∨
  (E.length < 4096 ∧ ∃ en : NEn, en.n = ((d + 1 : Nat) : Int) ∧ en.L = L ∧ e = .returned (.tuple #[.int .i64 ((d + 1 : Nat) : Int), .int .i64 0]) ∧ NetAt w' B sb mb (E ++ [en]) (d + 1) ∧
    (OwnLps w' w.heap.size (.slice en.Ap L.ps.length en.cp) L.ps ∧ OwnLis w' w.heap.size (.slice en.Ai L.is.length en.ci) L.is) ∧ Kept2 sb mb w w')
section
variable {w : World} {B sb mb d : Nat} {E : List NEn}
/-- a net behind the new number, the map's store and the new letter -/
theorem add_end {w w2 wR wM : World} {B sb mb d : Nat} {E : List NEn} {L : Let} {Ap : Option Addr} {cp : Nat} {Ai : Option Addr} {ci : Nat} (h : NetAt w B sb mb E d) (hB : B ≤ w.heap.size) (k2 : Kept2 sb mb w w2) (bx : Box w2 sb 124 #[.map (some mb), .int .i64 ((d + 1 : Nat) : Int)])
    (hb : Below w2.heap.size w2 wR) (op : OwnLps wR w.heap.size (.slice Ap L.ps.length cp) L.ps) (oi : OwnLis wR w.heap.size (.slice Ai L.is.length ci) L.is) (hT : wR.mapTurned wM mb)
    (hM : wM.ownsMap Try.prog 3 Rn mb (E.length + 1) ((nmap E).put (.int .i64 ((d + 1 : Nat) : Int)) (.held (.agg #[.int .i64 L.kind, .int .i64 L.frm, .int .i64 L.to, .int .i64 L.a, .int .i64 L.b, .int .i64 L.c, .int .i64 L.d, .string L.s, .string L.t, .slice Ap L.ps.length cp, .slice Ai L.is.length ci, .int .i64 L.code, .bool L.yes, .string L.body])))) (hL : L.err = 0) :
    NetAt wM B sb mb (E ++ [⟨((d + 1 : Nat) : Int), Ap, cp, Ai, ci, L⟩]) (d + 1) ∧ (OwnLps wM w.heap.size (.slice Ap L.ps.length cp) L.ps ∧ OwnLis wM w.heap.size (.slice Ai L.is.length ci) L.is) ∧ Kept2 sb mb w wM := by
  have hlt : ∀ p ∈ E, p.n < ((d + 1 : Nat) : Int) := fun p hp => by have := (h.nums p hp).2; omega
  have kk : Kept2 sb mb w wM := k2.trans ((Kept2.of hb).trans (turnedN_kept hT))
  have e := nmap_put E ⟨((d + 1 : Nat) : Int), Ap, cp, Ai, ci, L⟩ hlt
  have hM2 := mapN_size (e ▸ hM)
  rw [nmap_size] at hM2
  have o1 : OwnLps wM w.heap.size (.slice Ap L.ps.length cp) L.ps := turnedN_own hT op
  have o2 : OwnLis wM w.heap.size (.slice Ai L.is.length ci) L.is := turnedN_own hT oi
  refine ⟨⟨h.sB, h.mB, turnedN_box hT (bx.below hb bx.lt), hM2, ?_, ?_, ?_, ?_⟩, ⟨o1, o2⟩, kk⟩
  · rw [List.pairwise_append]
    exact ⟨h.rise, by simp, fun a ha b hb' => by simp at hb'; subst hb'; exact hlt a ha⟩
  · intro p hp
    rcases List.mem_append.1 hp with hp | hp
    · have := h.nums p hp; omega
    · simp at hp; subst hp; exact ⟨by show (1 : Int) ≤ ((d + 1 : Nat) : Int); omega, Int.le_refl _⟩
  · intro p hp
    rcases List.mem_append.1 hp with hp | hp
    · exact ⟨h.rowKept kk (h.rows p hp).1 typesN.1, h.rowKept kk (h.rows p hp).2 typesN.2⟩
    · simp at hp; subst hp; exact ⟨own_baseN o1 hB, own_baseN o2 hB⟩
  · intro p hp
    rcases List.mem_append.1 hp with hp | hp
    · exact h.good p hp
    · simp at hp; subst hp; exact hL
set_option maxRecDepth 100000 in
set_option maxHeartbeats 6400000 in
theorem netAdd_any (h : NetAt w B sb mb E d) (hB : B ≤ w.heap.size) (hd : d ≤ 100000000000) (L : Let) (Ap : Option Addr) (np cp : Nat) (Ai : Option Addr) (ni ci : Nat) (hR : ∀ wx, Kept2 sb mb w wx → HasLps wx wx.heap.size Ap np L.ps ∧ HasLis wx wx.heap.size Ai ni L.is) (hL : L.err = 0) :
    Calls Try.prog 75 #[.pointer (some ⟨sb, 0, none⟩), .agg #[.int .i64 L.kind, .int .i64 L.frm, .int .i64 L.to, .int .i64 L.a, .int .i64 L.b, .int .i64 L.c, .int .i64 L.d, .string L.s, .string L.t, .slice Ap np cp, .slice Ai ni ci, .int .i64 L.code, .bool L.yes, .string L.body]] w (AddPost B sb mb E d L w) := by
  obtain ⟨w1, hw1⟩ : ∃ w1, (w.alloc (.cells #[.int .i64 L.kind, .int .i64 L.frm, .int .i64 L.to, .int .i64 L.a, .int .i64 L.b, .int .i64 L.c, .int .i64 L.d, .string L.s, .string L.t, .slice Ap np cp, .slice Ai ni ci, .int .i64 L.code, .bool L.yes, .string L.body] 69)) = w1 := ⟨_, rfl⟩
  have b1 : Below w.heap.size w w1 := hw1 ▸ below_box _
  have x1 : Box w1 w.heap.size 69 #[.int .i64 L.kind, .int .i64 L.frm, .int .i64 L.to, .int .i64 L.a, .int .i64 L.b, .int .i64 L.c, .int .i64 L.d, .string L.s, .string L.t, .slice Ap np cp, .slice Ai ni ci, .int .i64 L.code, .bool L.yes, .string L.body] := hw1 ▸ Box.made _ _ _
  have h1 := h.below b1
  obtain ⟨q0, q1, f0, f1⟩ := h1.cells
  have hl := h1.own.len (ty := 3) Try.underlying122
  rw [nmap_size] at hl
  by_cases hE : 4096 ≤ E.length
  · have hE' : (4096 : Int) ≤ (E.length : Int) := by omega
    have H1 := Lib.hid (And.intro h1 b1)
    clear h1 x1 b1 h
    unfold AddPost
    go_enter Try.func75, Try.ntmps75
    go_wp2
    go_ret2
    exact .inl ⟨hE, rfl, H1.out.1, H1.out.2⟩
  · have hE' : ¬ (4096 : Int) ≤ (E.length : Int) := by omega
    have hwr : IntKind.i64.wrap ((d : Int) + 1) = (d : Int) + 1 := IntWalk.i64_in _ (by omega)
    obtain ⟨w2, hw2⟩ : ∃ w2, w1.setCell ⟨sb, 1, none⟩ (.int .i64 ((d : Int) + 1)) = w2 := ⟨_, rfl⟩
    have g2 : w1.grownBy w2 (some sb) := hw2 ▸ ⟨rfl, rfl, rfl, by simp, fun k _ hne => Below.heap_setCell w1 ⟨sb, 1, none⟩ (.int .i64 ((d : Int) + 1)) k (fun e => hne (by rw [e]))⟩
    have bx2 : Box w2 sb 124 #[.map (some mb), .int .i64 ((d + 1 : Nat) : Int)] := hw2 ▸ h1.box.set_ 1 (.int .i64 ((d : Int) + 1))
    have hsl : sb < w.heap.size := h.lt.1
    have x2 : Box w2 w.heap.size 69 #[.int .i64 L.kind, .int .i64 L.frm, .int .i64 L.to, .int .i64 L.a, .int .i64 L.b, .int .i64 L.c, .int .i64 L.d, .string L.s, .string L.t, .slice Ap np cp, .slice Ai ni ci, .int .i64 L.code, .bool L.yes, .string L.body] := x1.grown g2 (fun e => by injection e with e; omega)
    have k2 : Kept2 sb mb w w2 := (Kept2.of b1).trans (Kept2.grown g2 (.inl rfl))
    have m2 : w2.ownsMap Try.prog 3 Rn mb E.length (nmap E) := mapN_keep h1.own (g2.block mb h1.own.lt (fun e => h1.ne (by injection e with e; exact e.symm)))
    have HS2 : Hid (∀ wx, Below w2.heap.size w2 wx → ((wx.cell? ⟨sb, 0, none⟩ = some (.map (some mb)) ∧ wx.cell? ⟨sb, 1, none⟩ = some (.int .i64 ((d : Int) + 1))) ∧ (wx.cell? ⟨w.heap.size, 0, none⟩ = some (.int .i64 L.kind) ∧ wx.cell? ⟨w.heap.size, 1, none⟩ = some (.int .i64 L.frm) ∧ wx.cell? ⟨w.heap.size, 2, none⟩ = some (.int .i64 L.to) ∧ wx.cell? ⟨w.heap.size, 3, none⟩ = some (.int .i64 L.a) ∧ wx.cell? ⟨w.heap.size, 4, none⟩ = some (.int .i64 L.b) ∧ wx.cell? ⟨w.heap.size, 5, none⟩ = some (.int .i64 L.c) ∧ wx.cell? ⟨w.heap.size, 6, none⟩ = some (.int .i64 L.d) ∧ wx.cell? ⟨w.heap.size, 7, none⟩ = some (.string L.s) ∧ wx.cell? ⟨w.heap.size, 8, none⟩ = some (.string L.t) ∧ wx.cell? ⟨w.heap.size, 9, none⟩ = some (.slice Ap np cp) ∧ wx.cell? ⟨w.heap.size, 10, none⟩ = some (.slice Ai ni ci) ∧ wx.cell? ⟨w.heap.size, 11, none⟩ = some (.int .i64 L.code) ∧ wx.cell? ⟨w.heap.size, 12, none⟩ = some (.bool L.yes) ∧ wx.cell? ⟨w.heap.size, 13, none⟩ = some (.string L.body))) ∧ Box wx sb 124 #[.map (some mb), .int .i64 ((d + 1 : Nat) : Int)] ∧ Box wx w.heap.size 69 #[.int .i64 L.kind, .int .i64 L.frm, .int .i64 L.to, .int .i64 L.a, .int .i64 L.b, .int .i64 L.c, .int .i64 L.d, .string L.s, .string L.t, .slice Ap np cp, .slice Ai ni ci, .int .i64 L.code, .bool L.yes, .string L.body]) := Lib.hid fun wx hx => by
      have a := bx2.below hx bx2.lt
      have b := x2.below hx x2.lt
      exact ⟨⟨⟨a.cell 0, a.cell 1⟩, b.cell 0, b.cell 1, b.cell 2, b.cell 3, b.cell 4, b.cell 5, b.cell 6, b.cell 7, b.cell 8, b.cell 9, b.cell 10, b.cell 11, b.cell 12, b.cell 13⟩, a, b⟩
    have HR : Hid (∀ wM, Box wM sb 124 #[.map (some mb), .int .i64 ((d + 1 : Nat) : Int)] → Box wM w.heap.size 69 #[.int .i64 L.kind, .int .i64 L.frm, .int .i64 L.to, .int .i64 L.a, .int .i64 L.b, .int .i64 L.c, .int .i64 L.d, .string L.s, .string L.t, .slice Ap np cp, .slice Ai ni ci, .int .i64 L.code, .bool L.yes, .string L.body] → ((wM.cell? ⟨sb, 0, none⟩ = some (.map (some mb)) ∧ wM.cell? ⟨sb, 1, none⟩ = some (.int .i64 ((d : Int) + 1))) ∧ (wM.cell? ⟨w.heap.size, 0, none⟩ = some (.int .i64 L.kind) ∧ wM.cell? ⟨w.heap.size, 1, none⟩ = some (.int .i64 L.frm) ∧ wM.cell? ⟨w.heap.size, 2, none⟩ = some (.int .i64 L.to) ∧ wM.cell? ⟨w.heap.size, 3, none⟩ = some (.int .i64 L.a) ∧ wM.cell? ⟨w.heap.size, 4, none⟩ = some (.int .i64 L.b) ∧ wM.cell? ⟨w.heap.size, 5, none⟩ = some (.int .i64 L.c) ∧ wM.cell? ⟨w.heap.size, 6, none⟩ = some (.int .i64 L.d) ∧ wM.cell? ⟨w.heap.size, 7, none⟩ = some (.string L.s) ∧ wM.cell? ⟨w.heap.size, 8, none⟩ = some (.string L.t) ∧ wM.cell? ⟨w.heap.size, 9, none⟩ = some (.slice Ap np cp) ∧ wM.cell? ⟨w.heap.size, 10, none⟩ = some (.slice Ai ni ci) ∧ wM.cell? ⟨w.heap.size, 11, none⟩ = some (.int .i64 L.code) ∧ wM.cell? ⟨w.heap.size, 12, none⟩ = some (.bool L.yes) ∧ wM.cell? ⟨w.heap.size, 13, none⟩ = some (.string L.body)))) := Lib.hid fun wM a b =>
      ⟨⟨a.cell 0, a.cell 1⟩, b.cell 0, b.cell 1, b.cell 2, b.cell 3, b.cell 4, b.cell 5, b.cell 6, b.cell 7, b.cell 8, b.cell 9, b.cell 10, b.cell 11, b.cell 12, b.cell 13⟩
    have HC : Hid (∀ wx, Below w2.heap.size w2 wx → Calls Try.prog 59 #[.agg #[.int .i64 L.kind, .int .i64 L.frm, .int .i64 L.to, .int .i64 L.a, .int .i64 L.b, .int .i64 L.c, .int .i64 L.d, .string L.s, .string L.t, .slice Ap np cp, .slice Ai ni ci, .int .i64 L.code, .bool L.yes, .string L.body]] wx (CopyPost L wx)) := Lib.hid fun wx hx => by
      obtain ⟨a, b⟩ := hR wx (k2.trans (Kept2.of hx))
      obtain ⟨-, n1, n2, n3⟩ := err_zero.1 hL
      obtain ⟨s1, s2, s3⟩ := let_small n3
      have e1 := a.1
      have e2 := b.1
      exact copy_any L Ap np cp Ai ni ci wx.heap.size wx a b (Nat.le_refl _) ⟨by omega, by omega⟩ (fun s hs => Nat.le_trans (s1 s hs) (by omega)) (fun p hp => ⟨Nat.le_trans (s2 p hp).1 (by omega), Nat.le_trans (s2 p hp).2 (by omega)⟩) (fun p hp => Nat.le_trans (s3 p hp) (by omega))
    have Hkey := Lib.hid (Maps.keyOf_int_mk (P := Try.prog) Try.underlying3 (wf_nat (d + 1) (by omega)))
    have HM2 := Lib.hid (And.intro m2 (And.intro k2 bx2))
    have HH := Lib.hid (And.intro h (And.intro hB hL))
    have HEl := Lib.hid hE
    have hs2 : w.heap.size ≤ w2.heap.size := k2.size
    clear m2 k2 bx2 x2 g2 h1 x1 b1 h hE hR hL hB
    unfold AddPost
    go_enter Try.func75, Try.ntmps75
    go_wp2
    go_region_held3 (fun wx => ((wx.cell? ⟨sb, 0, none⟩ = some (.map (some mb)) ∧ wx.cell? ⟨sb, 1, none⟩ = some (.int .i64 ((d : Int) + 1))) ∧ (wx.cell? ⟨w.heap.size, 0, none⟩ = some (.int .i64 L.kind) ∧ wx.cell? ⟨w.heap.size, 1, none⟩ = some (.int .i64 L.frm) ∧ wx.cell? ⟨w.heap.size, 2, none⟩ = some (.int .i64 L.to) ∧ wx.cell? ⟨w.heap.size, 3, none⟩ = some (.int .i64 L.a) ∧ wx.cell? ⟨w.heap.size, 4, none⟩ = some (.int .i64 L.b) ∧ wx.cell? ⟨w.heap.size, 5, none⟩ = some (.int .i64 L.c) ∧ wx.cell? ⟨w.heap.size, 6, none⟩ = some (.int .i64 L.d) ∧ wx.cell? ⟨w.heap.size, 7, none⟩ = some (.string L.s) ∧ wx.cell? ⟨w.heap.size, 8, none⟩ = some (.string L.t) ∧ wx.cell? ⟨w.heap.size, 9, none⟩ = some (.slice Ap np cp) ∧ wx.cell? ⟨w.heap.size, 10, none⟩ = some (.slice Ai ni ci) ∧ wx.cell? ⟨w.heap.size, 11, none⟩ = some (.int .i64 L.code) ∧ wx.cell? ⟨w.heap.size, 12, none⟩ = some (.bool L.yes) ∧ wx.cell? ⟨w.heap.size, 13, none⟩ = some (.string L.body))))
      (first | exact (HS2.out _ (Below.refl _ _).drew).1 | exact (HS2.out _ cR).1 | exact HSM.out)
      (first
        | (go_at_call 59; refine (HC.out _ (Below.refl _ _).drew).mono ?_; rintro e wR ⟨Av, cv, Iv, dv, rfl, oP, oI, bR⟩; have cR : Below w2.heap.size w2 wR := (Below.refl w2.heap.size w2).drew.trans bR; have mR := mapN_keep HM2.out.1 (cR.block mb HM2.out.1.lt); obtain ⟨wM, hrM, mM, tM⟩ := mR.store intKeyed Try.underlying122 (by simp only [maxLen]; omega) Hkey.out (R := Rn) (val := .agg #[.int .i64 L.kind, .int .i64 L.frm, .int .i64 L.to, .int .i64 L.a, .int .i64 L.b, .int .i64 L.c, .int .i64 L.d, .string L.s, .string L.t, .slice Av L.ps.length cv, .slice Iv L.is.length dv, .int .i64 L.code, .bool L.yes, .string L.body]) (d := .held (.agg #[.int .i64 L.kind, .int .i64 L.frm, .int .i64 L.to, .int .i64 L.a, .int .i64 L.b, .int .i64 L.c, .int .i64 L.d, .string L.s, .string L.t, .slice Av L.ps.length cv, .slice Iv L.is.length dv, .int .i64 L.code, .bool L.yes, .string L.body])) (ps := []) rfl; have hrN : (Instr.mapUpdate 122 (.map (some mb)) (.int .i64 ((d : Int) + 1)) (.agg #[.int .i64 L.kind, .int .i64 L.frm, .int .i64 L.to, .int .i64 L.a, .int .i64 L.b, .int .i64 L.c, .int .i64 L.d, .string L.s, .string L.t, .slice Av L.ps.length cv, .slice Iv L.is.length dv, .int .i64 L.code, .bool L.yes, .string L.body])).run Try.prog wR = .ok () wM := hrM; have HSM := Lib.hid (HR.out wM (turnedN_box tM (HS2.out wR cR).2.1) (turnedN_box tM (HS2.out wR cR).2.2))))
    have HE := Lib.hid (add_end HH.out.1 HH.out.2.1 HM2.out.2.1 HM2.out.2.2 cR (own_baseN oP (by have : w.heap.size ≤ w2.heap.size := hs2; simp; omega)) (own_baseN oI (by have : w.heap.size ≤ w2.heap.size := hs2; simp; omega)) tM mM HH.out.2.2)
    have z1 : wM.cell? ⟨sb, 1, none⟩ = some (.int .i64 ((d : Int) + 1)) := HSM.out.1.2
    clear mM tM mR cR oP oI bR
    go_wp2
    go_ret2
    exact .inr ⟨by omega, _, rfl, rfl, rfl, HE.out.1, HE.out.2.1, HE.out.2.2⟩
end
end Go.Proofs.Ytaljojjpgkmiiaa
