/- Package once in memory: answers in a map, a client's past in a box, the table: its map of pasts. No condition. -/
import Derived.Test.YtdfhnjocpfjagaaSpecOnce
import Derived.Test.YtdfhnjocpfjagaaBoxes
namespace Go.Proofs.Ytdfhnjocpfjagaa
open Go.RowKit

def OwnVals (w : World) (B : Nat) (v : Value) (l : List TVal) : Prop := w.ownsRow B 47 3 v l.length (valCells l)
theorem OwnVals.has {w : World} {B : Nat} {A : Option Addr} {n c : Nat} {l : List TVal} (h : OwnVals w B (.slice A n c) l) : n = l.length ∧ HasVals w w.heap.size A l.length l := by
  obtain ⟨A', c', e, -, -, hh⟩ := own_sliceN h
  injection e with e1 e2 e3
  subst e1 e2
  exact ⟨rfl, rfl, hh⟩
theorem OwnVals.nil (w : World) (B : Nat) : OwnVals w B (.slice none 0 0) [] := World.ownsRow_nil _ _ _ _
/-- an answer in a map: what it is, where its record lies -/
structure AV where
  p : Rp
  A : Option Addr
  c : Nat
def AV.row (e : AV) : Value := .slice e.A e.p.rc.length e.c
def AV.v (e : AV) : Value := .agg #[.int .i64 e.p.code, .bool e.p.there, .slice e.A e.p.rc.length e.c, .slice none 0 0, .int .i64 e.p.id]
/-- The map in block ab holds the answers E; all of it lies in blocks of F. -/
structure AnsAt (w : World) (F : Nat → Prop) (ab : Nat) (E : List (Int × AV)) : Prop where
  aF : F ab
  rF : ∀ n e, getG n E = some e → ∀ g, e.row.ownBlock = some g → F g
  own : w.ownsMap Try.prog 3 Rn ab E.length (gmap AV.v E)
  rise : RiseG E
  rows : ∀ n e, getG n E = some e → OwnVals w 0 e.row e.p.rc
section
variable {F G : Nat → Prop} {w w' : World} {ab : Nat} {E : List (Int × AV)}
theorem AnsAt.mono (h : AnsAt w F ab E) (hG : ∀ i, i < w.heap.size → F i → G i) : AnsAt w G ab E :=
  { h with
    aF := hG _ h.own.lt h.aF
    rF := fun n e he g hg => hG _ (World.ownsRow.lt (h.rows n e he) g hg).2 (h.rF n e he g hg) }
theorem AnsAt.same (h : AnsAt w F ab E) (hk : ∀ i, i < w.heap.size → F i → w'.heap[i]? = w.heap[i]?) : AnsAt w' F ab E :=
  { h with
    own := mapL_keep h.own (hk _ h.own.lt h.aF)
    rows := fun n e he => ownL_keep (h.rows n e he) fun g hg => hk g (World.ownsRow.lt (h.rows n e he) g hg).2 (h.rF n e he g hg) }
theorem AnsAt.below (h : AnsAt w F ab E) (hb : Below w.heap.size w w') : AnsAt w' F ab E := h.same fun i hi _ => hb.block i hi
theorem AnsAt.other (h : AnsAt w F ab E) (k : KeptF G w w') (hd : ∀ i, F i → ¬ G i) : AnsAt w' F ab E := h.same fun i hi hF => k.block i hi (hd i hF)
/-- nothing but a map has turned, and it isn't this one -/
theorem AnsAt.turned (h : AnsAt w F ab E) {b : Nat} (hT : w.mapTurned w' b) (hne : ab ≠ b) : AnsAt w' F ab E :=
  { h with
    own := mapL_keep h.own (mapTurned_block hT h.own.lt hne)
    rows := fun n e he => mapTurned_own hT (h.rows n e he) }
/-- nothing but an iterator has turned -/
theorem AnsAt.iter (h : AnsAt w F ab E) {r : Nat} (hr : ∃ a s x y, w.heap[r]? = some (.mapIter a s x y)) (hg : w.grownBy w' (some r)) : AnsAt w' F ab E := by
  obtain ⟨a, s, x, y, hr⟩ := hr
  have kk : ∀ (i : Nat) (o : Obj), w.heap[i]? = some o → (∀ a s x y, o ≠ .mapIter a s x y) → w'.heap[i]? = w.heap[i]? := fun i o ho hn => by
    refine hg.block i (Array.getElem?_eq_some_iff.1 ho).1 fun e => ?_
    injection e with e
    subst e
    rw [hr] at ho
    exact hn _ _ _ _ (by injection ho with ho; exact ho.symm)
  obtain ⟨es, c, hm⟩ := mapL_block h.own
  exact { h with
    own := mapL_keep h.own (kk _ _ hm (by intro a s x y e; cases e))
    rows := fun n e he => ownL_keep (h.rows n e he) fun g hg' => by
      obtain ⟨cs, h1⟩ := ownL_type (h.rows n e he) hg'
      exact kk _ _ h1 (by intro a s x y e; cases e) }
/-- a box's cell has turned -/
theorem AnsAt.set (h : AnsAt w F ab E) {g : Nat} {t : TypeId} {cs : Array Value} (hb : Box w g t cs) (ht : 47 ≠ t) (i : Nat) (u : Value) : AnsAt (w.setCell ⟨g, i, none⟩ u) F ab E := by
  have hk : ∀ k, k ≠ g → (w.setCell ⟨g, i, none⟩ u).heap[k]? = w.heap[k]? := fun k hk => Below.heap_setCell w ⟨g, i, none⟩ u k hk
  obtain ⟨es, c, hm⟩ := mapL_block h.own
  exact { h with
    own := mapL_keep h.own (hk _ fun e => map_ne hb hm e.symm)
    rows := fun n e he => ownL_keep (h.rows n e he) fun g' hg' => by
      obtain ⟨cs', h1⟩ := ownL_type (h.rows n e he) hg'
      exact hk _ (types_ne h1 hb ht) }
theorem AnsAt.del (h : AnsAt w F ab E) {k : Int} {n : Nat} (hM : w'.ownsMap Try.prog 3 Rn ab n ((gmap AV.v E).del (.int .i64 k))) (hT : w.mapTurned w' ab) : AnsAt w' F ab (delG k E) := by
  rw [gmap_del] at hM
  have hM2 := mapL_size hM
  rw [gmap_size] at hM2
  have sub : ∀ n e, getG n (delG k E) = some e → getG n E = some e := fun n e he => by
    rw [getG_del] at he
    split at he
    · cases he
    · exact he
  exact ⟨h.aF, fun n e he => h.rF n e (sub n e he), hM2, riseG_del h.rise k, fun n e he => mapTurned_own hT (h.rows n e (sub n e he))⟩
theorem AnsAt.put (h : AnsAt w F ab E) {k : Int} {x : AV} {n : Nat} (hr : OwnVals w 0 x.row x.p.rc) (hF : ∀ g, x.row.ownBlock = some g → F g) (hM : w'.ownsMap Try.prog 3 Rn ab n ((gmap AV.v E).put (.int .i64 k) (.held x.v))) (hT : w.mapTurned w' ab) : AnsAt w' F ab (putG k x E) := by
  rw [gmap_put] at hM
  have hM2 := mapL_size hM
  rw [gmap_size] at hM2
  have sub : ∀ n e, getG n (putG k x E) = some e → e = x ∨ getG n E = some e := fun n e he => by
    rw [getG_put] at he
    split at he
    · injection he with he; exact .inl he.symm
    · exact .inr he
  refine ⟨h.aF, fun n e he => ?_, hM2, riseG_put h.rise, fun n e he => ?_⟩
  · rcases sub n e he with rfl | he
    · exact hF
    · exact h.rF n e he
  · rcases sub n e he with rfl | he
    · exact mapTurned_own hT hr
    · exact mapTurned_own hT (h.rows n e he)
theorem AnsAt.made (w : World) (hF : F w.heap.size) : AnsAt (w.alloc (.map #[] 0)) F w.heap.size [] :=
  ⟨hF, (fun n e he => by cases he), World.ownsMap_made w Try.prog 3 Rn, List.Pairwise.nil, (fun n e he => by cases he)⟩
/-- 'reply, ok := answers[number]' -/
theorem AnsAt.look (h : AnsAt w F ab E) (k : Int) (hk : (Lit.int .i64 k).wf = true) :
    (getG k E = none → (Instr.lookup 126 (.map (some ab)) (.int .i64 k) true).run Try.prog w = .ok (.tuple #[.agg #[.int .i64 0, .bool false, .slice none 0 0, .slice none 0 0, .int .i64 0], .bool false]) w) ∧
    (∀ e, getG k E = some e → (Instr.lookup 126 (.map (some ab)) (.int .i64 k) true).run Try.prog w = .ok (.tuple #[.agg #[.int .i64 e.p.code, .bool e.p.there, .slice e.A e.p.rc.length e.c, .slice none 0 0, .int .i64 e.p.id], .bool true]) w) := by
  have hz : (zeroValue 82).run Try.prog w = .ok (.agg #[.int .i64 0, .bool false, .slice none 0 0, .slice none 0 0, .int .i64 0]) w := Try.zeroValue82 w
  have hkey := Maps.keyOf_int_mk Try.underlying3 hk
  obtain ⟨v, ps, hrun, hv⟩ := h.own.look_ok intKeyed Try.underlying126 hz (zd := .held (.agg #[.int .i64 0, .bool false, .slice none 0 0, .slice none 0 0, .int .i64 0])) rfl hkey
  rw [gmap_has] at hrun
  rw [gmap_at] at hv
  simp only [Rn, Option.some.injEq, Prod.mk.injEq] at hv
  refine ⟨fun hg => ?_, fun e hg => ?_⟩
  · rw [hg] at hv hrun
    simp only [DataW.held.injEq] at hv
    rw [hv.1] at hrun
    exact hrun
  · rw [hg] at hv hrun
    simp only [DataW.held.injEq] at hv
    rw [hv.1] at hrun
    exact hrun
theorem AnsAt.has (h : AnsAt w F ab E) {n : Int} {e : AV} (he : getG n E = some e) : HasVals w w.heap.size e.A e.p.rc.length e.p.rc := ((h.rows n e he).has).2
end

/-- a client's past in the table's map -/
structure PV where
  fl : Int
  ab : Nat
  E : List (Int × AV)
def PV.v (p : PV) : Value := .agg #[.int .i64 p.fl, .map (some p.ab)]
def plE (E : List (Int × AV)) : List (Int × Rp) := mapG AV.p E
def PV.p (p : PV) : Pa := ⟨p.fl, plE p.E⟩
/-- The pointer to block sb is a table: its map in block mb, the pasts M; all of it lies in blocks of F. -/
structure TabM (w : World) (F : Nat → Prop) (sb mb : Nat) (M : List (Int × PV)) : Prop where
  sF : F sb
  mF : F mb
  lt : ∀ i, F i → i < w.heap.size
  box : Box w sb 125 #[.map (some mb)]
  own : w.ownsMap Try.prog 3 Rn mb M.length (gmap PV.v M)
  rise : RiseG M
  ans : ∀ k p, getG k M = some p → AnsAt w F p.ab p.E
  apart : ∀ k p k' p', getG k M = some p → getG k' M = some p' → k ≠ k' → p.ab ≠ p'.ab
  ne : ∀ k p, getG k M = some p → p.ab ≠ mb
theorem types17 : (47 : TypeId) ≠ 125 ∧ (47 : TypeId) ≠ 128 ∧ (47 : TypeId) ≠ 82 ∧ (47 : TypeId) ≠ 3 := by decide
section
variable {F G : Nat → Prop} {w w' : World} {sb mb : Nat} {M : List (Int × PV)}
theorem TabM.mono (h : TabM w F sb mb M) (hG : ∀ i, F i → G i) (hl : ∀ i, G i → i < w.heap.size) : TabM w G sb mb M :=
  { h with
    sF := hG _ h.sF
    mF := hG _ h.mF
    lt := hl
    ans := fun k p hp => (h.ans k p hp).mono fun i _ hi => hG i hi }
theorem TabM.same (h : TabM w F sb mb M) (hs : w.heap.size ≤ w'.heap.size) (hk : ∀ i, F i → w'.heap[i]? = w.heap[i]?) : TabM w' F sb mb M :=
  { h with
    lt := fun i hi => Nat.lt_of_lt_of_le (h.lt i hi) hs
    box := (hk sb h.sF).trans h.box
    own := mapL_keep h.own (hk mb h.mF)
    ans := fun k p hp => (h.ans k p hp).same fun i _ hi => hk i hi }
theorem TabM.below (h : TabM w F sb mb M) (hb : Below w.heap.size w w') : TabM w' F sb mb M := h.same hb.size fun i hi => hb.block i (h.lt i hi)
theorem TabM.other (h : TabM w F sb mb M) (k : KeptF G w w') (hd : ∀ i, F i → ¬ G i) : TabM w' F sb mb M := h.same k.size fun i hi => k.block i (h.lt i hi) (hd i hi)
theorem TabM.add (h : TabM w' F sb mb M) : TabM w' (addF F w w') sb mb M := h.mono (fun _ hi => .inl hi) fun i hi => hi.elim (h.lt i) (fun hi => hi.2)
theorem TabM.cell (h : TabM w F sb mb M) : w.cell? ⟨sb, 0, none⟩ = some (.map (some mb)) := h.box.cell 0
theorem TabM.smNe (h : TabM w F sb mb M) : sb ≠ mb := by
  obtain ⟨es, c, hm⟩ := mapL_block h.own
  exact map_ne h.box hm
theorem TabM.look (h : TabM w F sb mb M) (k : Int) (hk : (Lit.int .i64 k).wf = true) :
    (getG k M = none → (Instr.lookup 123 (.map (some mb)) (.int .i64 k) true).run Try.prog w = .ok (.tuple #[.agg #[.int .i64 0, .map none], .bool false]) w ∧ (Instr.lookup 123 (.map (some mb)) (.int .i64 k) false).run Try.prog w = .ok (.agg #[.int .i64 0, .map none]) w) ∧
    (∀ p, getG k M = some p → (Instr.lookup 123 (.map (some mb)) (.int .i64 k) true).run Try.prog w = .ok (.tuple #[.agg #[.int .i64 p.fl, .map (some p.ab)], .bool true]) w ∧ (Instr.lookup 123 (.map (some mb)) (.int .i64 k) false).run Try.prog w = .ok (.agg #[.int .i64 p.fl, .map (some p.ab)]) w) := by
  have hz : (zeroValue 128).run Try.prog w = .ok (.agg #[.int .i64 0, .map none]) w := Try.zeroValue128 w
  have hkey := Maps.keyOf_int_mk Try.underlying3 hk
  obtain ⟨v, ps, hrun, hv⟩ := h.own.look_ok intKeyed Try.underlying123 hz (zd := .held (.agg #[.int .i64 0, .map none])) rfl hkey
  obtain ⟨v2, ps2, hrun2, hv2⟩ := h.own.lookup intKeyed Try.underlying123 hz (zd := .held (.agg #[.int .i64 0, .map none])) rfl hkey
  rw [gmap_has] at hrun
  rw [gmap_at] at hv hv2
  simp only [Rn, Option.some.injEq, Prod.mk.injEq] at hv hv2
  refine ⟨fun hg => ?_, fun e hg => ?_⟩
  · rw [hg] at hv hrun hv2
    simp only [DataW.held.injEq] at hv hv2
    rw [hv.1] at hrun
    rw [hv2.1] at hrun2
    exact ⟨hrun, hrun2⟩
  · rw [hg] at hv hrun hv2
    simp only [DataW.held.injEq] at hv hv2
    rw [hv.1] at hrun
    rw [hv2.1] at hrun2
    exact ⟨hrun, hrun2⟩
end
/-- The pointer to block sb is the table T. -/
def TabAt (w : World) (F : Nat → Prop) (sb : Nat) (T : Tb) : Prop := ∃ mb M, TabM w F sb mb M ∧ mapG PV.p M = T
section
variable {F G : Nat → Prop} {w w' : World} {sb : Nat} {T : Tb}
theorem TabAt.below (h : TabAt w F sb T) (hb : Below w.heap.size w w') : TabAt w' F sb T := by
  obtain ⟨mb, M, h1, h2⟩ := h
  exact ⟨mb, M, h1.below hb, h2⟩
theorem TabAt.other (h : TabAt w F sb T) (k : KeptF G w w') (hd : ∀ i, F i → ¬ G i) : TabAt w' F sb T := by
  obtain ⟨mb, M, h1, h2⟩ := h
  exact ⟨mb, M, h1.other k hd, h2⟩
theorem TabAt.mono (h : TabAt w F sb T) (hG : ∀ i, F i → G i) (hl : ∀ i, G i → i < w.heap.size) : TabAt w G sb T := by
  obtain ⟨mb, M, h1, h2⟩ := h
  exact ⟨mb, M, h1.mono hG hl, h2⟩
theorem TabAt.lt (h : TabAt w F sb T) : ∀ i, F i → i < w.heap.size := by
  obtain ⟨mb, M, h1, -⟩ := h
  exact h1.lt
theorem TabAt.add (h : TabAt w' F sb T) : TabAt w' (addF F w w') sb T := h.mono (fun _ hi => .inl hi) fun i hi => hi.elim (h.lt i) (fun hi => hi.2)
end
theorem getT_pl (k : Int) (M : List (Int × PV)) : getT k (mapG PV.p M) = match getG k M with | some p => p.p | none => Pa.zero := by
  unfold getT
  rw [getG_map]
  cases getG k M <;> rfl
end Go.Proofs.Ytdfhnjocpfjagaa
