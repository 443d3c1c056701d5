/- Layer 17: the document's table in memory; tables of both kinds side by side. No condition. -/
import Derived.Test.YtdfhnjocpfjagaaOnG
import Derived.Test.YtdfhnjocpfjagaaSepA
import Derived.Test.YtdfhnjocpfjagaaRowG
import Derived.Test.YtdfhnjocpfjagaaOpenOnce
namespace Go.Proofs.Ytdfhnjocpfjagaa
open Go.RowKit

/-- an answer in the document's table -/
structure OE where
  c : Int
  n : Int
  p : Rp
  A : Option Addr
  d : Nat
  X : Option Addr
  y : Nat
def OE.cells (e : OE) : List Value := [.int .i64 e.c, .int .i64 e.n, .int .i64 e.p.code, .bool e.p.there, .slice e.A e.p.rc.length e.d, .slice e.X 0 e.y, .int .i64 e.p.id]
def OE.one (e : OE) : Int × Int × Rp := (e.c, e.n, e.p)
def flCells (e : Int × Int) : List Value := [.int .i64 e.1, .int .i64 e.2]
theorem oe_cells : CellsOf OE.cells 7 := ⟨fun _ => rfl, fun a u hu => by
  simp only [OE.cells, List.mem_cons, List.not_mem_nil, or_false] at hu
  rcases hu with rfl | rfl | rfl | rfl | rfl | rfl | rfl <;> rfl⟩
theorem fl_cells : CellsOf flCells 2 := ⟨fun _ => rfl, fun a u hu => by
  simp only [flCells, List.mem_cons, List.not_mem_nil, or_false] at hu
  rcases hu with rfl | rfl <;> rfl⟩
theorem oe_elem : ElemN Try.prog 133 7 88 (.agg #[.int .i64 0, .int .i64 0, .int .i64 0, .bool false, .slice none 0 0, .slice none 0 0, .int .i64 0]) := ⟨by kernel_rfl, by kernel_rfl⟩
theorem fl_elem : ElemN Try.prog 142 2 16 (.agg #[.int .i64 0, .int .i64 0]) := ⟨by kernel_rfl, by kernel_rfl⟩
abbrev OwnOE := OwnG OE.cells 7 133
abbrev OwnFl := OwnG flCells 2 142
/-- the document's table in plain words: answers, floors -/
structure Rf where
  L : List (Int × Int × Rp)
  Q : List (Int × Int)
/-- The pointer to block rb is the document's table: its answers in the row v, its floors in the row u. The records' rows are not among its blocks: no row of values ever turns. -/
structure RefM (w : World) (F : Nat → Prop) (rb : Nat) (v u : Value) (L : List OE) (Q : List (Int × Int)) : Prop where
  rF : F rb
  vF : ∀ g, v.ownBlock = some g → F g
  uF : ∀ g, u.ownBlock = some g → F g
  lt : ∀ i, F i → i < w.heap.size
  box : Box w rb 78 #[v, u]
  ones : OwnOE w 0 v L
  fls : OwnFl w 0 u Q
  rows : ∀ e ∈ L, OwnVals w 0 (.slice e.A e.p.rc.length e.d) e.p.rc
def RefAt (w : World) (F : Nat → Prop) (rb : Nat) (R : Rf) : Prop := ∃ v u L, RefM w F rb v u L R.Q ∧ L.map OE.one = R.L
theorem typesR : (133 : TypeId) ≠ 78 ∧ (142 : TypeId) ≠ 78 ∧ (47 : TypeId) ≠ 78 ∧ (133 : TypeId) ≠ 142 ∧ (47 : TypeId) ≠ 133 ∧ (47 : TypeId) ≠ 142 := by decide
section
variable {F G : Nat → Prop} {w w' : World} {rb : Nat} {v u : Value} {L : List OE} {Q : List (Int × Int)} {R : Rf}
theorem RefM.mono (h : RefM w F rb v u L Q) (hG : ∀ i, F i → G i) (hl : ∀ i, G i → i < w.heap.size) : RefM w G rb v u L Q :=
  { h with
    rF := hG _ h.rF
    vF := fun g hg => hG _ (h.vF g hg)
    uF := fun g hg => hG _ (h.uF g hg)
    lt := hl }
theorem RefM.same (h : RefM w F rb v u L Q) (hs : w.heap.size ≤ w'.heap.size) (hk : ∀ i, F i → w'.heap[i]? = w.heap[i]?) (kv : KV w w') : RefM w' F rb v u L Q :=
  { h with
    lt := fun i hi => Nat.lt_of_lt_of_le (h.lt i hi) hs
    box := (hk rb h.rF).trans h.box
    ones := ownL_keep h.ones fun g hg => hk g (h.vF g hg)
    fls := ownL_keep h.fls fun g hg => hk g (h.uF g hg)
    rows := fun e he => kv.own (h.rows e he) }
theorem RefM.below (h : RefM w F rb v u L Q) (hb : Below w.heap.size w w') : RefM w' F rb v u L Q := h.same hb.size (fun i hi => hb.block i (h.lt i hi)) (KV.of hb)
theorem RefM.cells (h : RefM w F rb v u L Q) : (w.cell? ⟨rb, 0, none⟩ = some v ∧ w.cell? ⟨rb, 1, none⟩ = some u) ∧ w.frozen? ⟨rb, 0, none⟩ = false ∧ w.frozen? ⟨rb, 1, none⟩ = false := ⟨⟨h.box.cell 0, h.box.cell 1⟩, h.box.frozen 0, h.box.frozen 1⟩
theorem RefM.has (h : RefM w F rb v u L Q) {e : OE} (he : e ∈ L) : HasVals w w.heap.size e.A e.p.rc.length e.p.rc := ((h.rows e he).has).2
end
theorem oa_cells : CellsOf ActO.cells 8 := ⟨fun _ => rfl, fun a u hu => by
  simp only [ActO.cells, List.mem_cons, List.not_mem_nil, or_false] at hu
  rcases hu with rfl | rfl | rfl | rfl | rfl | rfl | rfl | rfl <;> rfl⟩
theorem oa_elem : ElemN Try.prog 84 8 96 (.agg #[.int .i64 0, .int .i64 0, .int .i64 0, .int .i64 0, .bool false, .slice none 0 0, .slice none 0 0, .int .i64 0]) := ⟨by kernel_rfl, by kernel_rfl⟩
abbrev OwnOA := OwnG ActO.cells 8 84
/-- a table of either kind -/
inductive Ob where
  | tab (sb : Nat) (T : Tb)
  | ref (rb : Nat) (R : Rf)
  | box (g : Nat) (t : TypeId) (cs : Array Value)
  | acts (v : Value) (K : List ActO)
def ObAt (w : World) (F : Nat → Prop) : Ob → Prop
  | .tab sb T => TabAt w F sb T ∧ TGood T
  | .ref rb R => RefAt w F rb R
  | .box g t cs => Box w g t cs ∧ F g ∧ ∀ i, F i → i < w.heap.size
  | .acts v K => OwnOA w 0 v K ∧ (∀ g, v.ownBlock = some g → F g) ∧ ∀ i, F i → i < w.heap.size
theorem sepOb : Sepable KV ObAt := by
  refine ⟨fun {w F o} h => ?_, fun {w w' F o} h hs hk kv => ?_, fun hb => KV.of hb⟩
  · cases o with
    | tab sb T => exact h.1.lt
    | ref rb R => obtain ⟨v, u, L, h1, -⟩ := h; exact h1.lt
    | box g t cs => exact h.2.2
    | acts v K => exact h.2.2
  · cases o with
    | tab sb T =>
      obtain ⟨⟨mb, M, h1, h2⟩, h3⟩ := h
      exact ⟨⟨mb, M, h1.same hs hk, h2⟩, h3⟩
    | ref rb R =>
      obtain ⟨v, u, L, h1, h2⟩ := h
      exact ⟨v, u, L, h1.same hs hk kv, h2⟩
    | box g t cs => exact ⟨(hk g h.2.1).trans h.1, h.2.1, fun i hi => Nat.lt_of_lt_of_le (h.2.2 i hi) hs⟩
    | acts v K => exact ⟨ownL_keep h.1 fun g hg => hk g (h.2.1 g hg), h.2.1, fun i hi => Nat.lt_of_lt_of_le (h.2.2 i hi) hs⟩
abbrev SepO := Sep ObAt
section
variable {B : Nat} {w : World} {l : List Ob} {k sb : Nat} {T : Tb}
theorem s_below {w' : World} (h : SepO B w l) (hb : Below w.heap.size w w') : SepO B w' l := h.below sepOb hb
theorem s_new (h : SepO B w l) (hB : B ≤ w.heap.size) : Calls Try.prog 49 #[] w fun e w' => ∃ sb, e = .returned (.pointer (some ⟨sb, 0, none⟩)) ∧ SepO B w' (l ++ [.tab sb []]) ∧ Below w.heap.size w w' := by
  refine (onceNew_any w).mono ?_
  rintro e w' ⟨sb, rfl, h1, h2⟩
  exact ⟨sb, rfl, h.new sepOb hB h2 (o := .tab sb []) ⟨h1, TGood.nil⟩, h2⟩
theorem s_keep (h : SepO B w l) (hB : B ≤ w.heap.size) (hk : l[k]? = some (.tab sb T)) (hT : T.length ≤ 100000) (c n : Int) (hc : (Lit.int .i64 c).wf = true) (hn : (Lit.int .i64 n).wf = true) (r : Rp) (A : Option Addr) (rn d m : Nat) (X : Option Addr) (y C : Nat) (hr : HasVals w C A rn r.rc) (hrn : rn ≤ maxLen) (hC : C ≤ w.heap.size) (hi : ∀ v ∈ r.rc, InI64 v.n) :
    Calls Try.prog 53 #[.pointer (some ⟨sb, 0, none⟩), .int .i64 c, .int .i64 n, .agg #[.int .i64 r.code, .bool r.there, .slice A rn d, .slice X m y, .int .i64 r.id]] w fun e w' =>
      e = .returned (.int .i64 (keepE c n r m T)) ∧ SepO B w' (l.set k (.tab sb (keepT c n r m T))) ∧ Below B w w' := by
  obtain ⟨F, ⟨h1, h2⟩, h3, h4⟩ := h.step sepOb hB hk
  refine (onceKeep_any h1 h2 hT c n hc hn r A rn d m X y C hr hrn hC hi).mono ?_
  rintro e w' ⟨rfl, g1, g2, g3⟩
  obtain ⟨g4, g5⟩ := h4 w' (.tab sb (keepT c n r m T)) g2 g3 ⟨g1, keepT_good h2⟩
  exact ⟨rfl, g4, g5⟩
theorem s_look (h : SepO B w l) (hk : l[k]? = some (.tab sb T)) (c n : Int) (hc : (Lit.int .i64 c).wf = true) (hn : (Lit.int .i64 n).wf = true) :
    Calls Try.prog 50 #[.pointer (some ⟨sb, 0, none⟩), .int .i64 c, .int .i64 n] w fun e w' => LookPost (lookT c n T) w e w' ∧ SepO B w' l := by
  obtain ⟨F, ⟨h1, h2⟩, -⟩ := h.at_ hk
  refine (onceLook_any h1 h2 c n hc hn).mono ?_
  rintro e w' hp
  obtain ⟨v, h5, h6, h7⟩ := hp
  exact ⟨⟨v, h5, h6, h7⟩, s_below h h7⟩
theorem s_floor (h : SepO B w l) (hk : l[k]? = some (.tab sb T)) (c : Int) (hc : (Lit.int .i64 c).wf = true) : Calls Try.prog 63 #[.pointer (some ⟨sb, 0, none⟩), .int .i64 c] w fun e w' => e = .returned (.int .i64 (getT c T).fl) ∧ w' = w := by
  obtain ⟨F, ⟨h1, h2⟩, -⟩ := h.at_ hk
  exact onceFloor_any h1 c hc
theorem s_known (h : SepO B w l) (hk : l[k]? = some (.tab sb T)) (c : Int) (hc : (Lit.int .i64 c).wf = true) : Calls Try.prog 59 #[.pointer (some ⟨sb, 0, none⟩), .int .i64 c] w fun e w' =>
    ∃ v, e = .returned v ∧ w'.ownsRow w.heap.size 3 1 v (getT c T).E.length ((numsG (getT c T).E).map encZ) ∧ Below w.heap.size w w' ∧ SepO B w' l := by
  obtain ⟨F, ⟨h1, h2⟩, -⟩ := h.at_ hk
  refine (onceKnown_any h1 h2 c hc).mono ?_
  rintro e w' ⟨v, g1, g2, g3⟩
  exact ⟨v, g1, g2, g3, s_below h g3⟩
theorem s_good (h : SepO B w l) (hk : l[k]? = some (.tab sb T)) : TGood T := by
  obtain ⟨F, ⟨h1, h2⟩, -⟩ := h.at_ hk
  exact h2
end
section
variable {B : Nat} {w w' : World} {l : List Ob} {k g : Nat} {t : TypeId} {cs : Array Value}
/-- a box of the caller's has come -/
theorem s_box (h : SepO B w l) (hB : B ≤ w.heap.size) (hb : Below w.heap.size w w') (hx : Box w' g t cs) (hg : w.heap.size ≤ g) : SepO B w' (l ++ [.box g t cs]) :=
  h.new sepOb hB hb (o := .box g t cs) ⟨hx, .inr ⟨hg, hx.lt⟩, fun _ hi => hi.elim False.elim fun hi => hi.2⟩
theorem s_bx (h : SepO B w l) (hk : l[k]? = some (.box g t cs)) : Box w g t cs := by
  obtain ⟨F, h1, -⟩ := h.at_ hk
  exact h1.1
/-- a cell of a box has turned -/
theorem s_set (h : SepO B w l) (hB : B ≤ w.heap.size) (hk : l[k]? = some (.box g t cs)) (ht : 47 ≠ t) (i : Nat) (u : Value) : SepO B (w.setCell ⟨g, i, none⟩ u) (l.set k (.box g t (cs.setIfInBounds i u))) ∧ Below B w (w.setCell ⟨g, i, none⟩ u) := by
  obtain ⟨F, h1, h2, h3⟩ := h.step sepOb hB hk
  have hs : (w.setCell ⟨g, i, none⟩ u).heap.size = w.heap.size := by simp
  refine h3 _ (.box g t (cs.setIfInBounds i u)) (KeptF.grown (grown_set w g i u) h1.2.1) (fun j ds hj => Below.heap_setCell w ⟨g, i, none⟩ u j (types_ne hj h1.1 ht)) ⟨h1.1.set_ i u, .inl h1.2.1, fun j hj => hj.elim (fun hj => by rw [hs]; exact h1.2.2 j hj) fun hj => hj.2⟩
end
section
variable {B : Nat} {w w' : World} {l : List Ob} {k : Nat} {v v' : Value} {K : List ActO}
/-- an empty row of acts -/
theorem s_acts0 (h : SepO B w l) (hB : B ≤ w.heap.size) : SepO B w (l ++ [.acts (.slice none 0 0) []]) :=
  h.new sepOb hB (Below.refl _ w) (o := .acts (.slice none 0 0) []) ⟨OwnG.nil _ _, (fun g hg => by cases hg), fun _ hi => hi.elim False.elim fun hi => hi.2⟩
theorem s_acts (h : SepO B w l) (hk : l[k]? = some (.acts v K)) : OwnOA w 0 v K := by
  obtain ⟨F, h1, -⟩ := h.at_ hk
  exact h1.1
/-- an act has come behind the others -/
theorem s_app (h : SepO B w l) (hB : B ≤ w.heap.size) (hk : l[k]? = some (.acts v K)) {o : ActO} (ho : w'.ownsRow 0 84 8 v' (K.length + 1) (gCells ActO.cells K ++ gCells ActO.cells [o])) (hg : w.grownBy w' v.ownBlock) (hz : v'.ownBlock = v.ownBlock ∨ v'.ownBlock = some w.heap.size) :
    SepO B w' (l.set k (.acts v' (K ++ [o]))) ∧ Below B w w' := by
  obtain ⟨F, h1, h2, h3⟩ := h.step sepOb hB hk
  have kk : KeptF F w w' := ⟨hg.os, hg.tape, hg.output, hg.size, fun i hi hF => hg.block i hi fun e => hF (h1.2.1 i e.symm)⟩
  refine h3 w' (.acts v' (K ++ [o])) kk (fun i cs hi => hg.block i (Array.getElem?_eq_some_iff.1 hi).1 fun e => ?_) ⟨?_, fun g hg' => ?_, fun i hi => hi.elim (fun hi => Nat.lt_of_lt_of_le (h1.2.2 i hi) hg.size) fun hi => hi.2⟩
  · obtain ⟨ds, hd⟩ := ownL_type h1.1 e.symm
    exact types_ne hi hd (by decide) rfl
  · show w'.ownsRow 0 _ 8 v' (K ++ [o]).length (gCells ActO.cells (K ++ [o]))
    rw [List.length_append, List.length_singleton, gCells_app]
    exact ho
  · rcases hz with e | e
    · exact .inl (h1.2.1 g (e ▸ hg'))
    · have := (World.ownsRow.lt ho g hg').2
      rw [e] at hg'
      injection hg' with hg'
      exact .inr ⟨by omega, this⟩
end
/-! ### what the document tells -/
def t0 : Tb := keepT 1 5 ⟨0, true, [], 0⟩ 0 []
def tk : Nat → Tb
  | 0 => t0
  | k + 1 => keepT 1 (6 + k) Rp.zero 0 (tk k)
theorem tk_len : ∀ k, (tk k).length ≤ k + 1
  | 0 => by have := keepT_len 1 5 ⟨0, true, [], 0⟩ 0 []; simpa [tk, t0] using this
  | k + 1 => by
    have := keepT_len 1 (6 + k) Rp.zero 0 (tk k)
    have := tk_len k
    show (keepT 1 (6 + k) Rp.zero 0 (tk k)).length ≤ k + 2
    omega
set_option maxRecDepth 100000 in
theorem awake_plain : keepE 1 5 ⟨0, true, [], 0⟩ 0 [] = 0 ∧ ((lookT 1 5 t0).2 = 0 ∧ (lookT 1 5 t0).1.there = true) ∧ (lookT 1 4 t0).2 = 7 ∧ (lookT 1 4 (tk 4)).2 = 12 ∧ (getT 1 (tk 4)).fl = 5 := by decide
set_option maxRecDepth 100000 in
set_option maxHeartbeats 6400000 in
theorem awake17_any (w : World) : Calls Try.prog 47 #[] w fun e w' => e = .returned (.bool true) ∧ Below w.heap.size w w' := by
  have Hn := Lib.hid (s_new (Sep.nil : SepO w.heap.size w []) (Nat.le_refl _))
  obtain ⟨a1, ⟨a2, a3⟩, a4, a5, a6⟩ := awake_plain
  have HA2 := Lib.hid a2
  have HA3 := Lib.hid a3
  have HA4 := Lib.hid a4
  have HA5 := Lib.hid a5
  have HA6 := Lib.hid a6
  have HA1 := Lib.hid a1
  clear a1 a2 a3 a4 a5 a6
  go_enter Try.func47, Try.ntmps47
  go_wp2_with fail
  refine Hn.out.mono ?_
  rintro e w1 ⟨sb, rfl, S1, b1⟩
  have HS1 := Lib.hid S1
  have HB1 := Lib.hid b1
  have Hk1 := Lib.hid (s_keep (k := 0) (r := ⟨0, true, [], 0⟩) HS1.out HB1.out.size rfl (by simp) 1 5 (by decide) (by decide) none 0 0 0 none 0 0 (HasVals.nil _ _ _) (by simp [maxLen]) (Nat.zero_le _) (by simp))
  rw [HA1.out] at Hk1
  clear S1 b1
  go_wp2_with fail
  refine Hk1.out.mono ?_
  rintro e w2 ⟨rfl, S2, b2⟩
  have HS2 : Hid (SepO w.heap.size w2 [.tab sb (tk 0)]) := Lib.hid S2
  have HB2 := Lib.hid (HB1.out.trans b2)
  clear S2 b2
  go_wp2_with fail
  refine (s_look (k := 0) HS2.out rfl 1 5 (by decide) (by decide)).mono ?_
  rintro e w3 ⟨⟨v3, rfl, ⟨A3, c3, rfl, -⟩, b3⟩, S3⟩
  have hq : (lookT 1 5 (tk 0)).2 = 0 ∧ (lookT 1 5 (tk 0)).1.there = true := ⟨HA2.out, HA3.out⟩
  obtain ⟨R3, hR3⟩ : ∃ R3, lookT 1 5 (tk 0) = R3 := ⟨_, rfl⟩
  rw [hR3] at hq ⊢
  clear hR3
  obtain ⟨⟨code3, there3, rc3, id3⟩, z3⟩ := R3
  obtain ⟨rfl, rfl⟩ := hq
  have HS3 := Lib.hid S3
  have HB3 := Lib.hid (HB2.out.trans (b3.mono HB2.out.size))
  clear S3 b3
  obtain ⟨w4a, hw4a⟩ : ∃ wx, w3.alloc (.cells #[.int .i64 0, .bool false, .slice none 0 0, .slice none 0 0, .int .i64 0] 82) = wx := ⟨_, rfl⟩
  have xw4a : Box w4a w3.heap.size 82 #[.int .i64 0, .bool false, .slice none 0 0, .slice none 0 0, .int .i64 0] := hw4a ▸ Box.made _ _ _
  have uw4a : Below w3.heap.size w3 w4a := hw4a ▸ below_box _
  obtain ⟨w4, hw4⟩ : ∃ wx, (((((w4a.setCell ⟨w3.heap.size, 0, none⟩ (.int .i64 code3)).setCell ⟨w3.heap.size, 1, none⟩ (.bool true)).setCell ⟨w3.heap.size, 2, none⟩ (.slice A3 rc3.length c3)).setCell ⟨w3.heap.size, 3, none⟩ (.slice none 0 0)).setCell ⟨w3.heap.size, 4, none⟩ (.int .i64 id3)) = wx := ⟨_, rfl⟩
  obtain ⟨xw4, gw4, sw4⟩ := store5 xw4a hw4
  have uw4 : Below w3.heap.size w3 w4 := uw4a.grown gw4 uw4a.size (fun g hg => by injection hg with hg; omega)
  have da0 : w4a.cell? ⟨w3.heap.size, 0, none⟩ = some (.int .i64 0) := xw4a.cell 0
  have da1 : w4a.cell? ⟨w3.heap.size, 1, none⟩ = some (.bool false) := xw4a.cell 1
  have da2 : w4a.cell? ⟨w3.heap.size, 2, none⟩ = some (.slice none 0 0) := xw4a.cell 2
  have da3 : w4a.cell? ⟨w3.heap.size, 3, none⟩ = some (.slice none 0 0) := xw4a.cell 3
  have da4 : w4a.cell? ⟨w3.heap.size, 4, none⟩ = some (.int .i64 0) := xw4a.cell 4
  have fa0 : w4a.frozen? ⟨w3.heap.size, 0, none⟩ = false := xw4a.frozen 0
  have fa1 : w4a.frozen? ⟨w3.heap.size, 1, none⟩ = false := xw4a.frozen 1
  have fa2 : w4a.frozen? ⟨w3.heap.size, 2, none⟩ = false := xw4a.frozen 2
  have fa3 : w4a.frozen? ⟨w3.heap.size, 3, none⟩ = false := xw4a.frozen 3
  have fa4 : w4a.frozen? ⟨w3.heap.size, 4, none⟩ = false := xw4a.frozen 4
  have HS4 := Lib.hid (s_box HS3.out HB3.out.size uw4 xw4 (Nat.le_refl _))
  have HB4 := Lib.hid (HB3.out.trans (uw4.mono HB3.out.size))
  clear xw4a uw4a xw4 gw4 sw4 uw4
  go_wp2_with fail
  refine (s_look (k := 0) HS4.out rfl 1 4 (by decide) (by decide)).mono ?_
  rintro e w5 ⟨⟨v5, rfl, ⟨A5, c5, rfl, -⟩, b5⟩, S5⟩
  have hq5 : (lookT 1 4 (tk 0)).2 = 7 := HA4.out
  obtain ⟨R5, hR5⟩ : ∃ R5, lookT 1 4 (tk 0) = R5 := ⟨_, rfl⟩
  rw [hR5] at hq5 ⊢
  clear hR5
  obtain ⟨⟨code5, there5, rc5, id5⟩, z5⟩ := R5
  obtain rfl := hq5
  have HS5 := Lib.hid S5
  have HB5 := Lib.hid (HB4.out.trans (b5.mono HB4.out.size))
  clear S5 b5
  obtain ⟨w6a, hw6a⟩ : ∃ wx, w5.alloc (.cells #[.int .i64 0, .bool false, .slice none 0 0, .slice none 0 0, .int .i64 0] 82) = wx := ⟨_, rfl⟩
  have xw6a : Box w6a w5.heap.size 82 #[.int .i64 0, .bool false, .slice none 0 0, .slice none 0 0, .int .i64 0] := hw6a ▸ Box.made _ _ _
  have uw6a : Below w5.heap.size w5 w6a := hw6a ▸ below_box _
  obtain ⟨w6, hw6⟩ : ∃ wx, (((((w6a.setCell ⟨w5.heap.size, 0, none⟩ (.int .i64 code5)).setCell ⟨w5.heap.size, 1, none⟩ (.bool there5)).setCell ⟨w5.heap.size, 2, none⟩ (.slice A5 rc5.length c5)).setCell ⟨w5.heap.size, 3, none⟩ (.slice none 0 0)).setCell ⟨w5.heap.size, 4, none⟩ (.int .i64 id5)) = wx := ⟨_, rfl⟩
  obtain ⟨xw6, gw6, sw6⟩ := store5 xw6a hw6
  have uw6 : Below w5.heap.size w5 w6 := uw6a.grown gw6 uw6a.size (fun g hg => by injection hg with hg; omega)
  have db0 : w6a.cell? ⟨w5.heap.size, 0, none⟩ = some (.int .i64 0) := xw6a.cell 0
  have db1 : w6a.cell? ⟨w5.heap.size, 1, none⟩ = some (.bool false) := xw6a.cell 1
  have db2 : w6a.cell? ⟨w5.heap.size, 2, none⟩ = some (.slice none 0 0) := xw6a.cell 2
  have db3 : w6a.cell? ⟨w5.heap.size, 3, none⟩ = some (.slice none 0 0) := xw6a.cell 3
  have db4 : w6a.cell? ⟨w5.heap.size, 4, none⟩ = some (.int .i64 0) := xw6a.cell 4
  have fb0 : w6a.frozen? ⟨w5.heap.size, 0, none⟩ = false := xw6a.frozen 0
  have fb1 : w6a.frozen? ⟨w5.heap.size, 1, none⟩ = false := xw6a.frozen 1
  have fb2 : w6a.frozen? ⟨w5.heap.size, 2, none⟩ = false := xw6a.frozen 2
  have fb3 : w6a.frozen? ⟨w5.heap.size, 3, none⟩ = false := xw6a.frozen 3
  have fb4 : w6a.frozen? ⟨w5.heap.size, 4, none⟩ = false := xw6a.frozen 4
  have HS6 := Lib.hid (s_below HS5.out uw6)
  have HB6 := Lib.hid (HB5.out.trans (uw6.mono HB5.out.size))
  clear xw6a uw6a xw6 gw6 sw6 uw6
  obtain ⟨g3, hg3⟩ : ∃ g3, w3.heap.size = g3 := ⟨_, rfl⟩
  rw [hg3] at HS6
  go_wp2
  go_loopw [6] (fun iv wr => ∃ k : Nat, k ≤ 4 ∧ iv = .int .i64 (6 + k : Int) ∧ Hid (SepO w.heap.size wr [.tab sb (tk k), .box g3 82 #[.int .i64 code3, .bool true, .slice A3 rc3.length c3, .slice none 0 0, .int .i64 id3]] ∧ Below w.heap.size w wr)) (fun iv _ => 10 - (intOf iv).toNat)
  case atStart => exact ⟨0, by omega, rfl, Lib.hid ⟨HS6.out, HB6.out⟩⟩
  case round =>
    obtain ⟨k, hk, rfl, HR⟩ := hrel
    clear HA1 HA2 HA3 HA4 HS1 HS2 HS3 HS4 HS5 HS6 HB1 HB2 HB3 HB4 HB5 HB6
    by_cases hlt : k < 4
    · have hk1 : (6 + (k : Int)) < 10 := by omega
      have Hke := Lib.hid (s_keep (k := 0) (r := Rp.zero) HR.out.1 HR.out.2.size rfl (by have := tk_len k; omega) 1 (6 + k) (by decide) (wf_of (by omega)) none 0 0 0 none 0 0 (HasVals.nil _ _ _) (by simp [maxLen]) (Nat.zero_le _) (by simp [Rp.zero]))
      go_wp2_with fail
      refine Hke.out.mono ?_
      rintro e w7 ⟨rfl, S7, b7⟩
      have HE : Hid (SepO w.heap.size w7 [.tab sb (tk (k + 1)), .box g3 82 #[.int .i64 code3, .bool true, .slice A3 rc3.length c3, .slice none 0 0, .int .i64 id3]] ∧ Below w.heap.size w w7) := Lib.hid ⟨S7, HR.out.2.trans b7⟩
      clear S7 b7
      have hwr : IntKind.i64.wrap (6 + (k : Int) + 1) = 6 + ((k + 1 : Nat) : Int) := by rw [IntWalk.i64_in _ (by omega)]; omega
      go_wp2
      go_roundw
      case rel => exact ⟨k + 1, by omega, by congr 1, HE⟩
      case measure => simp [intOf]; omega
    · obtain rfl : k = 4 := by omega
      go_wp2_with fail
      refine (s_look (k := 0) HR.out.1 rfl 1 4 (by decide) (by decide)).mono ?_
      rintro e w7 ⟨⟨v7, rfl, ⟨A7, c7, rfl, -⟩, b7⟩, S7⟩
      have hq7 : (lookT 1 4 (tk 4)).2 = 12 := HA5.out
      obtain ⟨R7, hR7⟩ : ∃ R7, lookT 1 4 (tk 4) = R7 := ⟨_, rfl⟩
      rw [hR7] at hq7 ⊢
      clear hR7
      obtain ⟨⟨code7, there7, rc7, id7⟩, z7⟩ := R7
      obtain rfl := hq7
      have HS7 := Lib.hid S7
      have HB7 := Lib.hid (HR.out.2.trans (b7.mono HR.out.2.size))
      clear S7 b7
      obtain ⟨w8a, hw8a⟩ : ∃ wx, w7.alloc (.cells #[.int .i64 0, .bool false, .slice none 0 0, .slice none 0 0, .int .i64 0] 82) = wx := ⟨_, rfl⟩
      have xw8a : Box w8a w7.heap.size 82 #[.int .i64 0, .bool false, .slice none 0 0, .slice none 0 0, .int .i64 0] := hw8a ▸ Box.made _ _ _
      have uw8a : Below w7.heap.size w7 w8a := hw8a ▸ below_box _
      obtain ⟨w8, hw8⟩ : ∃ wx, (((((w8a.setCell ⟨w7.heap.size, 0, none⟩ (.int .i64 code7)).setCell ⟨w7.heap.size, 1, none⟩ (.bool there7)).setCell ⟨w7.heap.size, 2, none⟩ (.slice A7 rc7.length c7)).setCell ⟨w7.heap.size, 3, none⟩ (.slice none 0 0)).setCell ⟨w7.heap.size, 4, none⟩ (.int .i64 id7)) = wx := ⟨_, rfl⟩
      obtain ⟨xw8, gw8, sw8⟩ := store5 xw8a hw8
      have uw8 : Below w7.heap.size w7 w8 := uw8a.grown gw8 uw8a.size (fun g hg => by injection hg with hg; omega)
      have dc0 : w8a.cell? ⟨w7.heap.size, 0, none⟩ = some (.int .i64 0) := xw8a.cell 0
      have dc1 : w8a.cell? ⟨w7.heap.size, 1, none⟩ = some (.bool false) := xw8a.cell 1
      have dc2 : w8a.cell? ⟨w7.heap.size, 2, none⟩ = some (.slice none 0 0) := xw8a.cell 2
      have dc3 : w8a.cell? ⟨w7.heap.size, 3, none⟩ = some (.slice none 0 0) := xw8a.cell 3
      have dc4 : w8a.cell? ⟨w7.heap.size, 4, none⟩ = some (.int .i64 0) := xw8a.cell 4
      have fc0 : w8a.frozen? ⟨w7.heap.size, 0, none⟩ = false := xw8a.frozen 0
      have fc1 : w8a.frozen? ⟨w7.heap.size, 1, none⟩ = false := xw8a.frozen 1
      have fc2 : w8a.frozen? ⟨w7.heap.size, 2, none⟩ = false := xw8a.frozen 2
      have fc3 : w8a.frozen? ⟨w7.heap.size, 3, none⟩ = false := xw8a.frozen 3
      have fc4 : w8a.frozen? ⟨w7.heap.size, 4, none⟩ = false := xw8a.frozen 4
      have HS8 := Lib.hid (s_below HS7.out uw8)
      have HB8 := Lib.hid (HB7.out.trans (uw8.mono HB7.out.size))
      have x3 := s_bx (k := 1) HS8.out rfl
      have y1 : w8.cell? ⟨g3, 1, none⟩ = some (.bool true) := x3.cell 1
      have Hfl := Lib.hid (s_floor (k := 0) HS8.out rfl 1 (by decide))
      rw [HA6.out] at Hfl
      clear xw8a uw8a xw8 gw8 sw8 uw8 x3
      go_wp2_with fail
      refine Hfl.out.mono ?_
      rintro e w9 ⟨rfl, rfl⟩
      go_wp2
      go_ret
      exact ⟨rfl, HB8.out⟩
end Go.Proofs.Ytdfhnjocpfjagaa
