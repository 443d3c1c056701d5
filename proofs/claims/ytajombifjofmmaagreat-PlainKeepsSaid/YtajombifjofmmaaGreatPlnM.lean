/- Shown: the entries of all records that show an index something, rising. -/
import Derived.Test.YtajombifjofmmaaGreatPlnL
import Derived.Test.YtajombifjofmmaaGreatRecE
import Derived.Test.YtajombifjofmmaaGreatRecH
namespace Go.Proofs.YtajombifjofmmaaGreat
open Go.RowKit
open Go.Lib (strCells compareBytes)

section
variable {W : World}
/-- slices.Sort on a row of texts of the call's own -/
theorem sort_any (B : Nat) (v : Value) (ss : List (List UInt8)) (h : W.ownsRow B 9 1 v ss.length (strRow ss)) (hn : ss.length ≤ 100000) :
    Calls Tryz.prog 42 #[v] W fun e w' => e = .returned (.tuple #[]) ∧ w'.ownsRow B 9 1 v ss.length (strRow (ss.mergeSort leB)) ∧ W.grownBy w' v.ownBlock := by
  rcases h.2 with ⟨rfl, hz⟩ | ⟨gb, cap, cur, rfl, hbase, hgb, r1, r2, r3, r4⟩
  · have hss : ss = [] := List.eq_nil_of_length_eq_zero hz
    subst hss
    refine (AnyM.slices_Sort_string_none Tryz.sort42 none 0 W).mono ?_
    rintro e w' ⟨rfl, rfl⟩
    exact ⟨rfl, by simpa using h, World.grownBy.refl _ _⟩
  · have hH : Sort.Holds encStr W gb 0 ss.toArray := holds_of_block hgb (by simpa [strRow] using r4)
    have hgl : gb < W.heap.size := (Array.getElem?_eq_some_iff.1 hgb).1
    refine (AnyM.slices_Sort_string Tryz.sort42 gb 0 cap ss W hH hgl (by omega)).mono ?_
    rintro e w' ⟨rfl, n, os, rfl⟩
    exact ⟨rfl, ownsRow_sorted (by simp) hbase hgb r1 r2 r3, grownBy_sorted _⟩
end

/-- the entry that a record shows an index -/
def entE (id : Int) (fs : List Int) (k : List UInt8) (r : List TVal) : Option (List UInt8) := (showT id fs r).map fun l => entryT id l k
def entsOf (id : Int) (fs : List Int) (M : Kv (List TVal)) : List (List UInt8) := M.filterMap fun p => entE id fs p.1 p.2
theorem filterMap_keys (f : List UInt8 → List TVal → Option (List UInt8)) : ∀ (E : Kv (Value × List TVal)), Rise E → (E.map (·.1)).filterMap (fun k => f k (recOf k E)) = (mapK (·.2) E).filterMap fun p => f p.1 p.2 := by
  intro E hr
  have h : ∀ (L : Kv (Value × List TVal)), (∀ p ∈ L, p ∈ E) → (L.map (·.1)).filterMap (fun k => f k (recOf k E)) = (mapK (·.2) L).filterMap fun p => f p.1 p.2 := by
    intro L
    induction L with
    | nil => intro _; rfl
    | cons p L ih =>
      intro hL
      have h1 : recOf p.1 E = p.2.2 := by
        unfold recOf
        rw [getK_of_mem hr (hL p (by simp))]
      have := ih (fun q hq => hL q (by simp [hq]))
      simp only [mapK, List.map_cons, List.filterMap_cons, h1] at this ⊢
      rw [this]
  exact h E (fun _ h => h)

section
variable {B sb mb d : Nat} {ix : Value} {E : Kv (Value × List TVal)} {X : List Ix} {w : World}
theorem Store.range (h : Store w B sb mb ix E X d) : ∃ w', (Instr.range 59 (.map (some mb))).run Tryz.prog w = .ok (.pointer (some ⟨w.heap.size, 0, none⟩)) w' ∧ w'.ranges Tryz.prog 9 Rv mb w.heap.size E.length (dmap (·.1) E) (Maps.has (dmap (·.1) E)) (Maps.size (dmap (·.1) E)) ∧ Below w.heap.size w w' := by
  obtain ⟨w', h1, h2, h3, _⟩ := h.own.range strKeyed Tryz.underlying59
  exact ⟨w', h1, h2, ⟨h3.os, h3.tape, h3.output, h3.size, fun i hi => h3.block i hi (by simp)⟩⟩
end

/-- THE STEP of a range over the store's map -/
theorem wpList_next_store {ops : Array Oper} {rest : List Oper} {o : Oper} {a : Act} {Q : Exit → Act → World → Prop} (w : World) (hg : o.guard = none) (it : Operand) (hop : o.op = Op.next it false) {mb r n cnt : Nat} {E : Kv (Value × List TVal)} {left : Lit → Bool}
    (hit : a.eval it = .pointer (some ⟨r, 0, none⟩)) (h : w.ranges Tryz.prog 9 Rv mb r n (dmap (·.1) E) left cnt) (hs : ∀ p ∈ E, ∃ A n c, p.2.1 = .slice A n c)
    (hDone : cnt = 0 → (∀ kl, left kl = false) → wpList Tryz.prog ops Q rest (a.put o.dst (.tuple #[.bool false])) w)
    (hMore : ∀ (s : ByteArray) (A : Option Addr) (n' c : Nat) (l : List TVal) (w' : World) (cnt' : Nat), getK s.data.toList E = some (.slice A n' c, l) → left (.string s.data.toList) = true → w'.ranges Tryz.prog 9 Rv mb r n (dmap (·.1) E) (fun z => left z && !z.sameKey (.string s.data.toList)) cnt' → cnt' < cnt →
      w.grownBy w' (some r) → w'.heap.size = w.heap.size → (Instr.entry (.pointer (some ⟨r, 0, none⟩))).run Tryz.prog w' = .ok (.tuple #[.string s, .slice A n' c]) w' → wpList Tryz.prog ops Q rest (a.put o.dst (.tuple #[.bool true, .string s, .slice A n' c])) w') :
    wpList Tryz.prog ops Q (o :: rest) a w := by
  refine wpList_plain hg fun K' hK' => ?_
  unfold Oper.wp
  rcases h.next strKeyed o.type with ⟨h0, hl, hrun⟩ | ⟨key, v, kl, y, w', cnt', hkey, hlk, hv, hat, hrun, hrg, hlt, hgr, hsz, hen⟩
  · simp [execOp, hop, hit, hrun, Result.andThen]
    exact hK' _ _ (hDone h0 hl)
  · obtain ⟨x, rfl, rfl, _⟩ := Maps.keyOf_str Tryz.underlying9 hkey
    have hy : y.1 = .held v := by
      simp only [Rv, Option.some.injEq] at hv
      rw [← hv]
    have h1 := hat (.nil)
    rw [dmap_at] at h1
    cases hgk : getK x E with
    | none => rw [hgk, hy] at h1; cases h1
    | some p =>
      rw [hgk, hy] at h1
      simp only [DataW.held.injEq] at h1
      obtain ⟨p1, p2⟩ := p
      obtain ⟨A, n', c, hp⟩ := hs _ (getK_mem hgk)
      simp only at h1 hp
      subst h1
      subst hp
      simp [execOp, hop, hit, hrun, Result.andThen]
      have e : (⟨x.toArray⟩ : ByteArray).data.toList = x := by simp
      exact hK' _ _ (hMore ⟨x.toArray⟩ A n' c p2 w' cnt' (by rw [e]; exact hgk) (by rw [e]; exact hlk) (by rw [e]; exact hrg) hlt hgr hsz hen)

theorem str_elem : Elem Tryz.prog 9 16 (.string ⟨#[]⟩) := ⟨by kernel_rfl, rfl⟩
theorem showL_mem {r : List TVal} : ∀ {l : List Int} {m : List TVal}, showL r l = some m → ∀ u ∈ m, u ∈ r
  | [], m, h, u, hu => by
    simp [showL] at h
    subst h
    simp at hu
  | x :: l, m, h, u, hu => by
    unfold showL at h
    cases hx : r[x.toNat]? with
    | none => rw [hx] at h; cases h
    | some v =>
      rw [hx] at h
      simp only at h
      by_cases hv : v.k = 0
      · simp [hv] at h
      · simp only [hv, if_false] at h
        cases hl : showL r l with
        | none => rw [hl] at h; cases h
        | some m' =>
          rw [hl] at h
          simp only [Option.map_some, Option.some.injEq] at h
          subst h
          rcases List.mem_cons.1 hu with rfl | hu
          · exact List.mem_of_getElem? hx
          · exact showL_mem hl u hu
theorem showT_mem {id : Int} {fs : List Int} {r m : List TVal} (h : showT id fs r = some m) : ∀ u ∈ m, u ∈ r := by
  unfold showT at h
  split at h
  · exact showL_mem h
  · cases h
theorem Below.grown0 {w w' : World} (h : Below w.heap.size w w') : w.grownBy w' none := ⟨h.os, h.tape, h.output, h.size, fun i hi _ => h.block i hi⟩
def esOf (id : Int) (fs : List Int) (E : Kv (Value × List TVal)) (ss : List (List UInt8)) : List (List UInt8) := ss.filterMap fun k => entE id fs k (recOf k E)
theorem esOf_snoc {id : Int} {fs : List Int} {E : Kv (Value × List TVal)} {ss : List (List UInt8)} {k : List UInt8} : esOf id fs E (ss ++ [k]) = esOf id fs E ss ++ (entE id fs k (recOf k E)).toList := by
  simp only [esOf, List.filterMap_append, List.filterMap_cons, List.filterMap_nil]
  cases entE id fs k (recOf k E) <;> rfl
theorem esOf_len (id : Int) (fs : List Int) (E : Kv (Value × List TVal)) (ss : List (List UInt8)) : (esOf id fs E ss).length ≤ ss.length := List.length_filterMap_le _ _

section
variable {B sb mb d : Nat} {ix : Value} {E : Kv (Value × List TVal)} {X : List Ix} {w : World}
/-- what Shown tells -/
def shownT (id : Int) (X : List Ix) (M : Kv (List TVal)) : List (List UInt8) :=
  match X[posI id X]? with
  | some x => (entsOf id x.fs M).mergeSort leB
  | none => []
set_option maxRecDepth 100000 in
set_option maxHeartbeats 3200000 in
theorem shown_any (h : Store w B sb mb ix E X d) (id : Int) (hE : E.length ≤ 1000) :
    Calls Tryz.prog 13 #[.pointer (some ⟨sb, 0, none⟩), .int .i64 id] w fun e w' => ∃ v, e = .returned v ∧ w'.ownsRow w.heap.size 9 1 v (shownT id X (mapK (·.2) E)).length (strRow (shownT id X (mapK (·.2) E))) ∧ Below w.heap.size w w' := by
  by_cases hp : posI id X < X.length
  · obtain ⟨x, hx, hnum⟩ := posI_some hp
    have Efind : Hid (findT id X = (posI id X : Int)) := Lib.hid (by unfold findT; rw [if_pos hp])
    have Hsh : Hid (shownT id X (mapK (·.2) E) = (entsOf id x.fs (mapK (·.2) E)).mergeSort leB) := Lib.hid (by unfold shownT; rw [hx])
    generalize posI id X = p at hp hx Efind
    have H := Lib.hid h
    have Hx := Lib.hid hx
    have Hnum := Lib.hid hnum
    have HE := Lib.hid hE
    have hss : Hid (∀ q ∈ E, ∃ A n c, q.2.1 = .slice A n c) := Lib.hid (fun q hq => by obtain ⟨A, c, e, _⟩ := own_sliceN (h.recs q hq); exact ⟨A, _, c, e⟩)
    obtain ⟨Ai, ci, rfl, hci1, hci2, -⟩ := own_sliceN h.irow
    have Hci := Lib.hid (And.intro hci1 hci2)
    have hp1 : (0 : Int) ≤ (p : Int) := by omega
    have hp2 : (p : Int) < (X.length : Int) := by omega
    clear h hx hnum hE hci1 hci2
    go_enter Tryz.func13, Tryz.ntmps13
    go_wp2_with fail
    refine (find_any id H.out).mono ?_
    rintro e w1 ⟨rfl, hb1⟩
    rw [Efind.out]
    have H1 := Lib.hid (H.out.below hb1)
    obtain ⟨q0, -, -, -, -, -⟩ := H1.out.cells
    obtain ⟨w2, hrun, hrg, hb2⟩ := H1.out.range
    have Hb2 := Lib.hid (Below.then hb1 hb2)
    have H2 := Lib.hid (H1.out.below hb2)
    have hsz1 := hb1.size
    have Hw1 := Lib.hid hb1
    have hsz2 : w1.heap.size + 1 ≤ w2.heap.size := hrg.lt
    clear hb1
    have hrg0 := Lib.hid hrg
    clear hrg
    go_wp2
    go_loopw [6] (fun lv wr => ∃ (left : Lit → Bool) (cnt : Nat) (ss : List (List UInt8)), wr.ranges Tryz.prog 9 Rv mb w1.heap.size E.length (dmap (·.1) E) left cnt ∧ Hid (Collected (dmap (fun a : Value × List TVal => a.1) E) left ss) ∧ Hid (ss.length + cnt ≤ E.length) ∧ Hid (wr.ownsRow (w1.heap.size + 1) 9 1 lv (esOf id x.fs E ss).length (strRow (esOf id x.fs E ss))) ∧ Hid (Below w1.heap.size w1 wr) ∧ Hid (w1.heap.size + 1 ≤ wr.heap.size)) (fun _ wr => wr.rangeLeft mb w1.heap.size)
    case atStart => exact ⟨_, _, [], hrg0.out, Lib.hid (Collected.start _), Lib.hid (by rw [dmap_size]; simp), Lib.hid (World.ownsRow_nil _ _ _ _), Lib.hid hb2, Lib.hid hsz2⟩
    case round =>
      obtain ⟨left, cnt, ss, hrg, HC, Hcnt, Hrow, Hb, Hsz⟩ := hrel
      go_wp2_with (first
        | (at_next; refine wpList_next_store _ rfl _ rfl rfl hrg hss.out ?_ ?_)
        | go_in)
      · intro hc0 hl0
        have hperm : (esOf id x.fs E ss).Perm (entsOf id x.fs (mapK (·.2) E)) := by
          have h1 := HC.out.perm hrg.owns strKeyed Tryz.underlying9 hl0
          rw [dmap_keys] at h1
          rw [entsOf, ← filterMap_keys (fun k r => entE id x.fs k r) E H.out.rise]
          exact h1.filterMap _
        have Hs : Hid (shownT id X (mapK (·.2) E) = (esOf id x.fs E ss).mergeSort leB) := Lib.hid (by rw [Hsh.out, mergeSort_of_perm hperm])
        clear hperm hc0 hl0 HC hrg
        go_wp2_with fail
        refine (sort_any _ _ _ Hrow.out (by have := esOf_len id x.fs E ss; have := Hcnt.out; have := HE.out; omega)).mono ?_
        rintro e w5 ⟨rfl, ho5, hg5⟩
        have Ho5 := Lib.hid ho5
        have Hb5 : Hid (Below w.heap.size w w5) := Lib.hid (((show Below w.heap.size w w1 from Hw1.out).trans (Hb.out.mono hsz1)).grown hg5 (by have := Hsz.out; omega) (fun k hk => by have := (Hrow.out.lt k hk).1; omega))
        clear ho5 hg5
        go_wp2
        go_ret
        refine ⟨_, rfl, ?_, Hb5.out⟩
        rw [Hs.out, List.length_mergeSort]
        exact own_base Ho5.out (by omega)
      · intro s A n c l w3 cnt3 hget hlk hrg3 hlt hg3 hs3 hen
        have Hmem := Lib.hid (getK_mem hget)
        have HC3 := Lib.hid (HC.out.step hlk (y := .held (.slice A n c)) (fun zd => by rw [dmap_at, hget]))
        have hrec : recOf s.data.toList E = l := by unfold recOf; rw [hget]
        have Hb3 : Hid (Below w1.heap.size w1 w3) := Lib.hid (Hb.out.grown hg3 Hb.out.size (fun k hk => by injection hk with hk; omega))
        have H3 := Lib.hid (H1.out.below Hb3.out)
        have Hrow3 : Hid (w3.ownsRow (w1.heap.size + 1) 9 1 u6 (esOf id x.fs E ss).length (strRow (esOf id x.fs E ss))) := Lib.hid (Hrow.out.kept hg3 (.inr (fun e => by have := (Hrow.out.lt _ e).1; omega)))
        have Hsz3 : Hid (w1.heap.size + 1 ≤ w3.heap.size) := Lib.hid (by rw [hs3]; exact Hsz.out)
        have Hrg3 := Lib.hid hrg3
        have Hlt : Hid (cnt3 < wr.rangeLeft mb w1.heap.size) := Lib.hid (by rw [hrg.left_eq]; exact hlt)
        have Hcnt3 : Hid ((ss ++ [s.data.toList]).length + cnt3 ≤ E.length) := Lib.hid (by have := Hcnt.out; rw [List.length_append]; simp; omega)
        obtain ⟨-, c1, -, -, -, -⟩ := H3.out.cells
        obtain ⟨a, x', rfl, -, hx', i0, i1⟩ := ix_at (Has.of_ownN H3.out.irow) rfl hp
        rw [Hx.out] at hx'
        injection hx' with hx'
        subst hx'
        rw [Hnum.out] at i0
        obtain ⟨Af, cf, ef, hf1, hf2, hf⟩ := intcells_slice (H3.out.flds x (List.mem_of_getElem? Hx.out))
        rw [ef] at i1
        obtain ⟨A', c', e', hn1, hn2, hvals⟩ := own_sliceN (H3.out.recs _ Hmem.out)
        have e2' : (Value.slice A n c) = .slice A' l.length c' := e'
        injection e2' with e1 e2 e3
        subst e1
        subst e2
        subst e3
        have hgood := (H3.out.good _ Hmem.out).1
        have Hcall := Lib.hid (shows_any id Af A x.fs.length cf l.length c _ x.fs l w3 hf ⟨rfl, hvals⟩ (by omega) (Nat.le_trans hn1 hn2) (Nat.le_refl _) hgood.2)
        clear e' hlk hrg hrg3 hlt hg3 hs3 hget hf hf1 hf2 hn1 hn2 hvals hgood ef HC Hrow Hcnt Hb Hsz
        cases hsh : showT id x.fs l with
        | none =>
          have Hes : Hid (esOf id x.fs E (ss ++ [s.data.toList]) = esOf id x.fs E ss) := Lib.hid (by rw [esOf_snoc, hrec, entE, hsh]; simp)
          rw [hsh] at Hcall
          clear hsh hrec
          go_wp2_with fail
          refine Hcall.out.mono ?_
          rintro e w4 ⟨rfl, hb4⟩
          have Hb4 := Lib.hid hb4
          have Hrg4 := Lib.hid (Hrg3.out.kept (Below.grown0 hb4) (by simp) (by simp))
          have Hrow4 := Lib.hid (own_below Hrow3.out hb4)
          clear hb4
          go_wp2
          go_roundw
          case rel => exact ⟨_, cnt3, ss ++ [s.data.toList], Hrg4.out, HC3, Hcnt3, Lib.hid (by rw [Hes.out]; exact Hrow4.out), Lib.hid (Hb3.out.trans (Hb4.out.mono Hb3.out.size)), Lib.hid (Nat.le_trans Hsz3.out Hb4.out.size)⟩
          case measure => rw [Hrg4.out.left_eq]; exact Hlt.out
        | some m =>
          have Hes : Hid (esOf id x.fs E (ss ++ [s.data.toList]) = esOf id x.fs E ss ++ [entryT id m s.data.toList]) := Lib.hid (by rw [esOf_snoc, hrec, entE, hsh]; rfl)
          have Hmi := Lib.hid (fun u hu => (H3.out.good _ Hmem.out).1.2 u (showT_mem hsh u hu))
          rw [hsh] at Hcall
          clear hsh hrec
          go_wp2_with fail
          refine Hcall.out.mono ?_
          rintro e w4 ⟨v, rfl, ho4, hb4⟩
          obtain ⟨Av, cv, rfl, hv1, hv2, hv3⟩ := own_sliceN ho4
          have Hent := Lib.hid (entry_any id Av m.length cv _ m s w4 ⟨rfl, hv3⟩ (by omega) (Nat.le_refl _) Hmi.out)
          unfold textErr at Hent
          have Hb4 := Lib.hid hb4
          clear hb4 hv1 hv2 hv3 ho4
          go_wp2_with fail
          refine Hent.out.mono ?_
          rintro e w5 ⟨rfl, hb5⟩
          have Hb5 := Lib.hid (Below.then Hb4.out hb5)
          have Hrg5 := Lib.hid (Hrg3.out.kept (Below.grown0 Hb5.out) (by simp) (by simp))
          have Hrow5 := Lib.hid (own_below Hrow3.out Hb5.out)
          have Hsz5 : Hid (w1.heap.size + 1 ≤ w5.heap.size) := Lib.hid (Nat.le_trans Hsz3.out Hb5.out.size)
          have Hlen : Hid ((esOf id x.fs E ss).length ≤ 1000) := Lib.hid (by have := esOf_len id x.fs E ss; have h1 := Hcnt3.out; rw [List.length_append] at h1; have := HE.out; omega)
          clear hb5
          go_wp2_with (at_builtin; refine wpList_append_has rfl (.tmp 48) (.tmp 50) _ rfl 9 str_elem Tryz.underlying41 rfl (Hrow5.out.alloc _) rfl (Has.lit w5 #[encStr (entryT id m s.data.toList)] _) (one_string _) (by have := Hlen.out; simp only [maxLen]; simp; omega) (by have := Hlen.out; simp; omega) (by have := Hsz5.out; simp; omega) ?_; intro v6 w6 hown6 hg6 hz6)
          have Hrg6 := Lib.hid ((Hrg5.out.alloc _).kept hg6 (fun e => by have := (Hrow5.out.lt _ e.symm).1; have := H1.out.lt.2; omega) (fun e => by have := (Hrow5.out.lt _ e.symm).1; omega))
          have Hb6 : Hid (Below w1.heap.size w1 w6) := Lib.hid (below_own ((Hb3.out.trans (Hb5.out.mono Hb3.out.size)).alloc (by have := Hsz5.out; omega) _) (own_base (Hrow5.out.alloc _) (by omega : w1.heap.size ≤ _)) hg6 (by have := Hsz5.out; simp; omega))
          have Hsz6 : Hid (w1.heap.size + 1 ≤ w6.heap.size) := Lib.hid (Nat.le_trans (Nat.le_trans Hsz5.out (le_alloc (Nat.le_refl _) _)) hg6.size)
          have Hown6 := Lib.hid hown6
          clear hg6 hz6 hown6
          go_roundw
          case rel =>
            refine ⟨_, cnt3, ss ++ [s.data.toList], Hrg6.out, HC3, Hcnt3, Lib.hid ?_, Hb6, Hsz6⟩
            rw [Hes.out, strRow, List.map_append, List.length_append]
            exact Hown6.out
          case measure => rw [Hrg6.out.left_eq]; exact Hlt.out
  · have Efind : Hid (findT id X = -1) := Lib.hid (by unfold findT; rw [if_neg hp])
    have Hsh : Hid (shownT id X (mapK (·.2) E) = []) := Lib.hid (by unfold shownT; rw [List.getElem?_eq_none (by omega)])
    have H := Lib.hid h
    clear h hp
    go_enter Tryz.func13, Tryz.ntmps13
    go_wp2_with fail
    refine (find_any id H.out).mono ?_
    rintro e w1 ⟨rfl, hb1⟩
    rw [Efind.out]
    go_wp2
    go_ret
    exact ⟨_, rfl, by rw [Hsh.out]; exact World.ownsRow_nil _ _ _ _, hb1⟩
end
end Go.Proofs.YtajombifjofmmaaGreat
