/- The checks of an operation as a row of function values. Condition: the operation is in memory. -/
import Derived.Test.YtknfjajmnlpfjaaGreatPlnA
import Derived.Deep.RegionHeld3
namespace Go.Proofs.YtknfjajmnlpfjaaGreat
open Go.RowKit
open Go.Lib (strCells compareBytes)

structure TOp where
  k : Int
  key : ByteArray
  to : ByteArray
  rc : List TVal
  old : List TVal
  id : Int
  fs : List Int
  low : List TVal
  high : List TVal
  lim : Int
  sp : Int
  nd : Int
def opCells (o : TOp) (rv ov fv lv hv : Value) : Array Value := #[.int .i64 o.k, .string o.key, .string o.to, rv, ov, .int .i64 o.id, fv, lv, hv, .int .i64 o.lim, .int .i64 o.sp, .int .i64 o.nd]
/-- a value that is this operation -/
def OpIs (w : World) (B : Nat) (v : Value) (o : TOp) : Prop :=
  ∃ rv ov fv lv hv, v = .agg (opCells o rv ov fv lv hv) ∧ IsVals w B rv o.rc ∧ IsVals w B ov o.old ∧ IsInts w B fv o.fs ∧ IsVals w B lv o.low ∧ IsVals w B hv o.high
theorem OpIs.belowOf {w w' : World} {B C : Nat} {v : Value} {o : TOp} (h : OpIs w B v o) (hb : Below C w w') (hC : B ≤ C) : OpIs w' B v o := by
  obtain ⟨rv, ov, fv, lv, hv, e, h1, h2, h3, h4, h5⟩ := h
  exact ⟨rv, ov, fv, lv, hv, e, h1.belowOf hb hC, h2.belowOf hb hC, h3.belowOf hb hC, h4.belowOf hb hC, h5.belowOf hb hC⟩

/-- the errors that are looked at, in their order -/
def errsT (o : TOp) : List Nat :=
  if o.k = 1 then [keyE o.key, recErr o.rc]
  else if o.k = 2 ∨ o.k = 3 then [keyE o.key]
  else if o.k = 4 then [keyE o.key, recErr o.rc, oldE o.old]
  else if o.k = 5 then [inE o.key.size 0 16, inE o.to.size 0 16, inE o.lim 1 64]
  else if o.k = 6 then [inE o.id 1 6, rowErr o.low, rowErr o.high, inE o.lim 1 64]
  else if o.k = 7 then [idxErr 1 o.fs]
  else if o.k = 8 then [inE o.id 1 6]
  else if o.k = 9 ∨ o.k = 10 then [inE o.sp 0 1, inE o.key.size 1 100]
  else if o.k = 11 then [inE o.sp 0 1, inE o.key.size 0 100, inE o.nd 1 4]
  else if o.k = 12 then []
  else [1]
/-- a row of function values, and what each tells -/
def Checks (w : World) (v : Value) (cs : List Nat) : Prop :=
  ∃ A n c fs, v = .slice A n c ∧ n = cs.length ∧ n ≤ 4 ∧ Has w w.heap.size A n fs ∧ ∀ (k : Nat) (f : Value), fs[k]? = some f → ∃ x, cs[k]? = some x ∧ Told w f (x : Int)
def ChecksPost (cs : List Nat) (w : World) (e : Ending) (w' : World) : Prop := ∃ v, e = .returned v ∧ Checks w' v cs ∧ Below w.heap.size w w'

theorem keepcell {w w' : World} {p : Addr} {u : Value} (h : Below w.heap.size w w') (hc : w.cell? p = some u) : w'.cell? p = some u := (h.cell (World.block_lt_of_cell? w p hc)).trans hc
theorem below_drew (w : World) : Below w.heap.size w w.drew := (Below.refl _ _).drew
theorem Below.then {w w1 w2 : World} (h : Below w.heap.size w w1) (h2 : Below w1.heap.size w1 w2) : Below w.heap.size w w2 := h.trans (h2.mono h.size)
theorem checks_post {w w' : World} {cs : List Nat} (fs : Array Value) (hn : fs.size = cs.length) (h4 : fs.size ≤ 4) (hb : Below w.heap.size w w') (ht : ∀ (k : Nat) (f : Value), fs[k]? = some f → ∃ x, cs[k]? = some x ∧ Told w' f (x : Int)) (g c : Nat) (hg : w'.heap.size = g) :
    ChecksPost cs w (.returned (.slice (some ⟨g, 0, none⟩) fs.size c)) (w'.alloc (.cells fs 94)) := by
  subst hg
  refine ⟨_, rfl, ⟨_, _, _, fs.toList, rfl, hn, h4, by simpa using Has.lit w' fs _, fun k f hf => ?_⟩, hb.alloc hb.size _⟩
  obtain ⟨x, h1, h2⟩ := ht k f (by simpa using hf)
  exact ⟨x, h1, h2.alloc _⟩
theorem checks1 {w w' : World} {f0 : Value} {c0 : Nat} (hb : Below w.heap.size w w') (h0 : Told w' f0 c0) (g : Nat) (hg : w'.heap.size = g) : ChecksPost [c0] w (.returned (.slice (some ⟨g, 0, none⟩) 1 1)) (w'.alloc (.cells #[f0] 94)) :=
  checks_post #[f0] rfl (by simp) hb (fun k f hf => by
    match k, hf with
    | 0, hf => cases hf; exact ⟨c0, rfl, h0⟩
    | k + 1, hf => simp at hf) g 1 hg
theorem checks2 {w w' : World} {f0 f1 : Value} {c0 c1 : Nat} (hb : Below w.heap.size w w') (h0 : Told w' f0 c0) (h1 : Told w' f1 c1) (g : Nat) (hg : w'.heap.size = g) : ChecksPost [c0, c1] w (.returned (.slice (some ⟨g, 0, none⟩) 2 2)) (w'.alloc (.cells #[f0, f1] 94)) :=
  checks_post #[f0, f1] rfl (by simp) hb (fun k f hf => by
    match k, hf with
    | 0, hf => cases hf; exact ⟨c0, rfl, h0⟩
    | 1, hf => cases hf; exact ⟨c1, rfl, h1⟩
    | k + 2, hf => simp at hf) g 2 hg
theorem checks3 {w w' : World} {f0 f1 f2 : Value} {c0 c1 c2 : Nat} (hb : Below w.heap.size w w') (h0 : Told w' f0 c0) (h1 : Told w' f1 c1) (h2 : Told w' f2 c2) (g : Nat) (hg : w'.heap.size = g) : ChecksPost [c0, c1, c2] w (.returned (.slice (some ⟨g, 0, none⟩) 3 3)) (w'.alloc (.cells #[f0, f1, f2] 94)) :=
  checks_post #[f0, f1, f2] rfl (by simp) hb (fun k f hf => by
    match k, hf with
    | 0, hf => cases hf; exact ⟨c0, rfl, h0⟩
    | 1, hf => cases hf; exact ⟨c1, rfl, h1⟩
    | 2, hf => cases hf; exact ⟨c2, rfl, h2⟩
    | k + 3, hf => simp at hf) g 3 hg
theorem checks4 {w w' : World} {f0 f1 f2 f3 : Value} {c0 c1 c2 c3 : Nat} (hb : Below w.heap.size w w') (h0 : Told w' f0 c0) (h1 : Told w' f1 c1) (h2 : Told w' f2 c2) (h3 : Told w' f3 c3) (g : Nat) (hg : w'.heap.size = g) : ChecksPost [c0, c1, c2, c3] w (.returned (.slice (some ⟨g, 0, none⟩) 4 4)) (w'.alloc (.cells #[f0, f1, f2, f3] 94)) :=
  checks_post #[f0, f1, f2, f3] rfl (by simp) hb (fun k f hf => by
    match k, hf with
    | 0, hf => cases hf; exact ⟨c0, rfl, h0⟩
    | 1, hf => cases hf; exact ⟨c1, rfl, h1⟩
    | 2, hf => cases hf; exact ⟨c2, rfl, h2⟩
    | 3, hf => cases hf; exact ⟨c3, rfl, h3⟩
    | k + 4, hf => simp at hf) g 4 hg

theorem sb1 {X : Prop} {w a : World} (h : X ∧ Below w.heap.size w a) : Below w.heap.size w a := h.2
theorem sb2 {X Y : Prop} {w a : World} (h : X ∧ Y ∧ Below w.heap.size w a) : Below w.heap.size w a := h.2.2
theorem sb3 {X Y Z : Prop} {w a : World} (h : X ∧ Y ∧ Z ∧ Below w.heap.size w a) : Below w.heap.size w a := h.2.2.2
theorem sb4 {X Y Z U : Prop} {w a : World} (h : X ∧ Y ∧ Z ∧ U ∧ Below w.heap.size w a) : Below w.heap.size w a := h.2.2.2.2
theorem sk2 {w a b : World} {p q : Addr} {x y : Value} (hb : Below a.heap.size a b) (h : a.cell? p = some x ∧ a.cell? q = some y ∧ Below w.heap.size w a) : b.cell? p = some x ∧ b.cell? q = some y ∧ Below w.heap.size w b :=
  ⟨keepcell hb h.1, keepcell hb h.2.1, Below.then h.2.2 hb⟩
theorem sk3 {w a b : World} {p q r : Addr} {x y z : Value} (hb : Below a.heap.size a b) (h : a.cell? p = some x ∧ a.cell? q = some y ∧ a.cell? r = some z ∧ Below w.heap.size w a) : b.cell? p = some x ∧ b.cell? q = some y ∧ b.cell? r = some z ∧ Below w.heap.size w b :=
  ⟨keepcell hb h.1, keepcell hb h.2.1, keepcell hb h.2.2.1, Below.then h.2.2.2 hb⟩
theorem sk4 {w a b : World} {p q r s : Addr} {x y z u : Value} (hb : Below a.heap.size a b) (h : a.cell? p = some x ∧ a.cell? q = some y ∧ a.cell? r = some z ∧ a.cell? s = some u ∧ Below w.heap.size w a) : b.cell? p = some x ∧ b.cell? q = some y ∧ b.cell? r = some z ∧ b.cell? s = some u ∧ Below w.heap.size w b :=
  ⟨keepcell hb h.1, keepcell hb h.2.1, keepcell hb h.2.2.1, keepcell hb h.2.2.2.1, Below.then h.2.2.2.2 hb⟩

set_option maxRecDepth 100000 in
set_option maxHeartbeats 3200000 in
theorem checks_k1 (key to : ByteArray) (rc old low high : List TVal) (id lim sp nd : Int) (fs : List Int) (rv ov fv lv hv : Value) (B : Nat) (w : World) (hB : B ≤ w.heap.size) (h1 : IsVals w B rv rc) :
    Calls Tryz.prog 44 #[.agg (opCells ⟨1, key, to, rc, old, id, fs, low, high, lim, sp, nd⟩ rv ov fv lv hv)] w (ChecksPost [keyE key, recErr rc] w) := by
  have H1 := Lib.hid h1
  obtain ⟨A1, n1, c1, rfl, -⟩ := h1
  unfold opCells
  go_enter Tryz.func44, Tryz.ntmps44
  go_wp2
  go_region_held3 (fun wx => wx.cell? ⟨w.heap.size, 1, none⟩ = some (.string key) ∧ wx.cell? ⟨w.heap.size, 3, none⟩ = some (.slice A1 n1 c1) ∧ Below w.heap.size w wx)
    (first | assumption | exact ⟨by simp, by simp, (below_alloc _ _).drew⟩ | exact sk2 (below_alloc _ _) (by assumption))
    (first
      | (go_at_call 77; refine (key0_any _ _).mono ?_; rintro e wa ⟨ga, la, rfl, ta, ba⟩; have sa := sk2 ba (by assumption))
      | (go_at_call 78; refine (rec0_any _ rc B _ ?_ ?_).mono ?_; exact H1.out.belowOf (sb2 (by assumption)) hB; exact Nat.le_trans hB (sb2 (by assumption)).size; rintro e wa ⟨ga, la, rfl, ta, ba⟩; have sa := sk2 ba (by assumption)))
  all_goals go_wp2
  all_goals go_ret
  all_goals exact checks2 (sb2 (by assumption)) (by repeat (first | assumption | refine Told.up ?_ (by assumption))) (by repeat (first | assumption | refine Told.up ?_ (by assumption))) _ rfl

set_option maxRecDepth 100000 in
set_option maxHeartbeats 3200000 in
theorem checks_k4 (key to : ByteArray) (rc old low high : List TVal) (id lim sp nd : Int) (fs : List Int) (rv ov fv lv hv : Value) (B : Nat) (w : World) (hB : B ≤ w.heap.size) (h1 : IsVals w B rv rc) (h2 : IsVals w B ov old) :
    Calls Tryz.prog 44 #[.agg (opCells ⟨4, key, to, rc, old, id, fs, low, high, lim, sp, nd⟩ rv ov fv lv hv)] w (ChecksPost [keyE key, recErr rc, oldE old] w) := by
  have H1 := Lib.hid h1
  obtain ⟨A1, n1, c1, rfl, -⟩ := h1
  have H2 := Lib.hid h2
  obtain ⟨A2, n2, c2, rfl, -⟩ := h2
  unfold opCells
  go_enter Tryz.func44, Tryz.ntmps44
  go_wp2
  go_region_held3 (fun wx => wx.cell? ⟨w.heap.size, 1, none⟩ = some (.string key) ∧ wx.cell? ⟨w.heap.size, 3, none⟩ = some (.slice A1 n1 c1) ∧ wx.cell? ⟨w.heap.size, 4, none⟩ = some (.slice A2 n2 c2) ∧ Below w.heap.size w wx)
    (first | assumption | exact ⟨by simp, by simp, by simp, (below_alloc _ _).drew⟩ | exact sk3 (below_alloc _ _) (by assumption))
    (first
      | (go_at_call 77; refine (key0_any _ _).mono ?_; rintro e wa ⟨ga, la, rfl, ta, ba⟩; have sa := sk3 ba (by assumption))
      | (go_at_call 78; refine (rec0_any _ rc B _ ?_ ?_).mono ?_; exact H1.out.belowOf (sb3 (by assumption)) hB; exact Nat.le_trans hB (sb3 (by assumption)).size; rintro e wa ⟨ga, la, rfl, ta, ba⟩; have sa := sk3 ba (by assumption))
      | (go_at_call 79; refine (old0_any _ old B _ ?_ ?_).mono ?_; exact H2.out.belowOf (sb3 (by assumption)) hB; exact Nat.le_trans hB (sb3 (by assumption)).size; rintro e wa ⟨ga, la, rfl, ta, ba⟩; have sa := sk3 ba (by assumption)))
  all_goals go_wp2
  all_goals go_ret
  all_goals exact checks3 (sb3 (by assumption)) (by repeat (first | assumption | refine Told.up ?_ (by assumption))) (by repeat (first | assumption | refine Told.up ?_ (by assumption))) (by repeat (first | assumption | refine Told.up ?_ (by assumption))) _ rfl

set_option maxRecDepth 100000 in
set_option maxHeartbeats 6400000 in
theorem checks_k5 (key to : ByteArray) (rc old low high : List TVal) (id lim sp nd : Int) (fs : List Int) (rv ov fv lv hv : Value) (w : World) :
    Calls Tryz.prog 44 #[.agg (opCells ⟨5, key, to, rc, old, id, fs, low, high, lim, sp, nd⟩ rv ov fv lv hv)] w (ChecksPost [inE key.size 0 16, inE to.size 0 16, inE lim 1 64] w) := by
  unfold opCells
  go_enter Tryz.func44, Tryz.ntmps44
  go_wp2
  go_region_held3 (fun wx => wx.cell? ⟨w.heap.size, 1, none⟩ = some (.string key) ∧ wx.cell? ⟨w.heap.size, 2, none⟩ = some (.string to) ∧ wx.cell? ⟨w.heap.size, 9, none⟩ = some (.int .i64 lim) ∧ Below w.heap.size w wx)
    (first | assumption | exact ⟨by simp, by simp, by simp, (below_alloc _ _).drew⟩ | exact sk3 (below_alloc _ _) (by assumption))
    (first
      | (go_at_call 81; refine (within0_any _ _ _ _).mono ?_; rintro e wa ⟨ga, la, rfl, ta, ba⟩; have sa := sk3 ba (by assumption))
      | (go_at_call 80; refine (size0_any _ _ _ _).mono ?_; rintro e wa ⟨ga, la, rfl, ta, ba⟩; have sa := sk3 ba (by assumption)))
  all_goals go_wp2
  all_goals go_ret
  all_goals exact checks3 (sb3 (by assumption)) (by repeat (first | assumption | refine Told.up ?_ (by assumption))) (by repeat (first | assumption | refine Told.up ?_ (by assumption))) (by repeat (first | assumption | refine Told.up ?_ (by assumption))) _ rfl

set_option maxRecDepth 100000 in
set_option maxHeartbeats 6400000 in
theorem checks_k6 (key to : ByteArray) (rc old low high : List TVal) (id lim sp nd : Int) (fs : List Int) (rv ov fv lv hv : Value) (B : Nat) (w : World) (hB : B ≤ w.heap.size) (h1 : IsVals w B lv low) (h2 : IsVals w B hv high) :
    Calls Tryz.prog 44 #[.agg (opCells ⟨6, key, to, rc, old, id, fs, low, high, lim, sp, nd⟩ rv ov fv lv hv)] w (ChecksPost [inE id 1 6, rowErr low, rowErr high, inE lim 1 64] w) := by
  have H1 := Lib.hid h1
  obtain ⟨A1, n1, c1, rfl, -⟩ := h1
  have H2 := Lib.hid h2
  obtain ⟨A2, n2, c2, rfl, -⟩ := h2
  unfold opCells
  go_enter Tryz.func44, Tryz.ntmps44
  go_wp2
  go_region_held3 (fun wx => wx.cell? ⟨w.heap.size, 5, none⟩ = some (.int .i64 id) ∧ wx.cell? ⟨w.heap.size, 7, none⟩ = some (.slice A1 n1 c1) ∧ wx.cell? ⟨w.heap.size, 8, none⟩ = some (.slice A2 n2 c2) ∧ wx.cell? ⟨w.heap.size, 9, none⟩ = some (.int .i64 lim) ∧ Below w.heap.size w wx)
    (first | assumption | exact ⟨by simp, by simp, by simp, by simp, (below_alloc _ _).drew⟩ | exact sk4 (below_alloc _ _) (by assumption))
    (first
      | (go_at_call 81; refine (within0_any _ _ _ _).mono ?_; rintro e wa ⟨ga, la, rfl, ta, ba⟩; have sa := sk4 ba (by assumption))
      | (go_at_call 82; refine (row0_any (.slice A1 n1 c1) low B _ ?_ ?_).mono ?_; exact H1.out.belowOf (sb4 (by assumption)) hB; exact Nat.le_trans hB (sb4 (by assumption)).size; rintro e wa ⟨ga, la, rfl, ta, ba⟩; have sa := sk4 ba (by assumption))
      | (go_at_call 82; refine (row0_any (.slice A2 n2 c2) high B _ ?_ ?_).mono ?_; exact H2.out.belowOf (sb4 (by assumption)) hB; exact Nat.le_trans hB (sb4 (by assumption)).size; rintro e wa ⟨ga, la, rfl, ta, ba⟩; have sa := sk4 ba (by assumption)))
  all_goals go_wp2
  all_goals go_ret
  all_goals exact checks4 (sb4 (by assumption)) (by repeat (first | assumption | refine Told.up ?_ (by assumption))) (by repeat (first | assumption | refine Told.up ?_ (by assumption))) (by repeat (first | assumption | refine Told.up ?_ (by assumption))) (by repeat (first | assumption | refine Told.up ?_ (by assumption))) _ rfl

set_option maxRecDepth 100000 in
set_option maxHeartbeats 6400000 in
theorem checks_k9 (key to : ByteArray) (rc old low high : List TVal) (id lim sp nd : Int) (fs : List Int) (rv ov fv lv hv : Value) (w : World) :
    Calls Tryz.prog 44 #[.agg (opCells ⟨9, key, to, rc, old, id, fs, low, high, lim, sp, nd⟩ rv ov fv lv hv)] w (ChecksPost [inE sp 0 1, inE key.size 1 100] w) := by
  unfold opCells
  go_enter Tryz.func44, Tryz.ntmps44
  go_wp2
  go_region_held3 (fun wx => wx.cell? ⟨w.heap.size, 10, none⟩ = some (.int .i64 sp) ∧ wx.cell? ⟨w.heap.size, 1, none⟩ = some (.string key) ∧ Below w.heap.size w wx)
    (first | assumption | exact ⟨by simp, by simp, (below_alloc _ _).drew⟩ | exact sk2 (below_alloc _ _) (by assumption))
    (first
      | (go_at_call 81; refine (within0_any _ _ _ _).mono ?_; rintro e wa ⟨ga, la, rfl, ta, ba⟩; have sa := sk2 ba (by assumption))
      | (go_at_call 80; refine (size0_any _ _ _ _).mono ?_; rintro e wa ⟨ga, la, rfl, ta, ba⟩; have sa := sk2 ba (by assumption)))
  all_goals go_wp2
  all_goals go_ret
  all_goals exact checks2 (sb2 (by assumption)) (by repeat (first | assumption | refine Told.up ?_ (by assumption))) (by repeat (first | assumption | refine Told.up ?_ (by assumption))) _ rfl

set_option maxRecDepth 100000 in
set_option maxHeartbeats 6400000 in
theorem checks_k10 (key to : ByteArray) (rc old low high : List TVal) (id lim sp nd : Int) (fs : List Int) (rv ov fv lv hv : Value) (w : World) :
    Calls Tryz.prog 44 #[.agg (opCells ⟨10, key, to, rc, old, id, fs, low, high, lim, sp, nd⟩ rv ov fv lv hv)] w (ChecksPost [inE sp 0 1, inE key.size 1 100] w) := by
  unfold opCells
  go_enter Tryz.func44, Tryz.ntmps44
  go_wp2
  go_region_held3 (fun wx => wx.cell? ⟨w.heap.size, 10, none⟩ = some (.int .i64 sp) ∧ wx.cell? ⟨w.heap.size, 1, none⟩ = some (.string key) ∧ Below w.heap.size w wx)
    (first | assumption | exact ⟨by simp, by simp, (below_alloc _ _).drew⟩ | exact sk2 (below_alloc _ _) (by assumption))
    (first
      | (go_at_call 81; refine (within0_any _ _ _ _).mono ?_; rintro e wa ⟨ga, la, rfl, ta, ba⟩; have sa := sk2 ba (by assumption))
      | (go_at_call 80; refine (size0_any _ _ _ _).mono ?_; rintro e wa ⟨ga, la, rfl, ta, ba⟩; have sa := sk2 ba (by assumption)))
  all_goals go_wp2
  all_goals go_ret
  all_goals exact checks2 (sb2 (by assumption)) (by repeat (first | assumption | refine Told.up ?_ (by assumption))) (by repeat (first | assumption | refine Told.up ?_ (by assumption))) _ rfl

set_option maxRecDepth 100000 in
set_option maxHeartbeats 6400000 in
theorem checks_k11 (key to : ByteArray) (rc old low high : List TVal) (id lim sp nd : Int) (fs : List Int) (rv ov fv lv hv : Value) (w : World) :
    Calls Tryz.prog 44 #[.agg (opCells ⟨11, key, to, rc, old, id, fs, low, high, lim, sp, nd⟩ rv ov fv lv hv)] w (ChecksPost [inE sp 0 1, inE key.size 0 100, inE nd 1 4] w) := by
  unfold opCells
  go_enter Tryz.func44, Tryz.ntmps44
  go_wp2
  go_region_held3 (fun wx => wx.cell? ⟨w.heap.size, 10, none⟩ = some (.int .i64 sp) ∧ wx.cell? ⟨w.heap.size, 1, none⟩ = some (.string key) ∧ wx.cell? ⟨w.heap.size, 11, none⟩ = some (.int .i64 nd) ∧ Below w.heap.size w wx)
    (first | assumption | exact ⟨by simp, by simp, by simp, (below_alloc _ _).drew⟩ | exact sk3 (below_alloc _ _) (by assumption))
    (first
      | (go_at_call 81; refine (within0_any _ _ _ _).mono ?_; rintro e wa ⟨ga, la, rfl, ta, ba⟩; have sa := sk3 ba (by assumption))
      | (go_at_call 80; refine (size0_any _ _ _ _).mono ?_; rintro e wa ⟨ga, la, rfl, ta, ba⟩; have sa := sk3 ba (by assumption)))
  all_goals go_wp2
  all_goals go_ret
  all_goals exact checks3 (sb3 (by assumption)) (by repeat (first | assumption | refine Told.up ?_ (by assumption))) (by repeat (first | assumption | refine Told.up ?_ (by assumption))) (by repeat (first | assumption | refine Told.up ?_ (by assumption))) _ rfl

set_option maxRecDepth 100000 in
set_option maxHeartbeats 6400000 in
theorem checks_k2 (key to : ByteArray) (rc old low high : List TVal) (id lim sp nd : Int) (fs : List Int) (rv ov fv lv hv : Value) (w : World) :
    Calls Tryz.prog 44 #[.agg (opCells ⟨2, key, to, rc, old, id, fs, low, high, lim, sp, nd⟩ rv ov fv lv hv)] w (ChecksPost [keyE key] w) := by
  unfold opCells
  go_enter Tryz.func44, Tryz.ntmps44
  go_wp2_with fail
  refine (key0_any _ _).mono ?_
  rintro e wa ⟨ga, la, rfl, ta, ba⟩
  have hb := Below.then (below_alloc _ _) ba
  clear ba
  go_wp2
  go_ret
  exact checks1 hb ta _ rfl

set_option maxRecDepth 100000 in
set_option maxHeartbeats 6400000 in
theorem checks_k3 (key to : ByteArray) (rc old low high : List TVal) (id lim sp nd : Int) (fs : List Int) (rv ov fv lv hv : Value) (w : World) :
    Calls Tryz.prog 44 #[.agg (opCells ⟨3, key, to, rc, old, id, fs, low, high, lim, sp, nd⟩ rv ov fv lv hv)] w (ChecksPost [keyE key] w) := by
  unfold opCells
  go_enter Tryz.func44, Tryz.ntmps44
  go_wp2_with fail
  refine (key0_any _ _).mono ?_
  rintro e wa ⟨ga, la, rfl, ta, ba⟩
  have hb := Below.then (below_alloc _ _) ba
  clear ba
  go_wp2
  go_ret
  exact checks1 hb ta _ rfl

set_option maxRecDepth 100000 in
set_option maxHeartbeats 6400000 in
theorem checks_k7 (key to : ByteArray) (rc old low high : List TVal) (id lim sp nd : Int) (fs : List Int) (rv ov fv lv hv : Value) (B : Nat) (w : World) (hB : B ≤ w.heap.size) (h1 : IsInts w B fv fs) :
    Calls Tryz.prog 44 #[.agg (opCells ⟨7, key, to, rc, old, id, fs, low, high, lim, sp, nd⟩ rv ov fv lv hv)] w (ChecksPost [idxErr 1 fs] w) := by
  have H1 := Lib.hid h1
  obtain ⟨A1, n1, c1, rfl, -⟩ := h1
  unfold opCells
  go_enter Tryz.func44, Tryz.ntmps44
  go_wp2_with fail
  refine (fields0_any _ fs B _ (H1.out.belowOf (below_alloc _ _) hB) (Nat.le_trans hB (below_alloc _ _).size)).mono ?_
  rintro e wa ⟨ga, la, rfl, ta, ba⟩
  have hb := Below.then (below_alloc _ _) ba
  clear ba
  go_wp2
  go_ret
  exact checks1 hb ta _ rfl

set_option maxRecDepth 100000 in
set_option maxHeartbeats 6400000 in
theorem checks_k8 (key to : ByteArray) (rc old low high : List TVal) (id lim sp nd : Int) (fs : List Int) (rv ov fv lv hv : Value) (w : World) :
    Calls Tryz.prog 44 #[.agg (opCells ⟨8, key, to, rc, old, id, fs, low, high, lim, sp, nd⟩ rv ov fv lv hv)] w (ChecksPost [inE id 1 6] w) := by
  unfold opCells
  go_enter Tryz.func44, Tryz.ntmps44
  go_wp2_with fail
  refine (within0_any _ _ _ _).mono ?_
  rintro e wa ⟨ga, la, rfl, ta, ba⟩
  have hb := Below.then (below_alloc _ _) ba
  clear ba
  go_wp2
  go_ret
  exact checks1 hb ta _ rfl

set_option maxRecDepth 100000 in
set_option maxHeartbeats 6400000 in
theorem checks_k12 (key to : ByteArray) (rc old low high : List TVal) (id lim sp nd : Int) (fs : List Int) (rv ov fv lv hv : Value) (w : World) :
    Calls Tryz.prog 44 #[.agg (opCells ⟨12, key, to, rc, old, id, fs, low, high, lim, sp, nd⟩ rv ov fv lv hv)] w (ChecksPost [] w) := by
  unfold opCells
  go_enter Tryz.func44, Tryz.ntmps44
  go_wp2
  go_ret
  exact ⟨_, rfl, ⟨_, _, _, [], rfl, rfl, by omega, Has.nil _ _ _, by simp⟩, below_alloc _ _⟩

set_option maxRecDepth 100000 in
set_option maxHeartbeats 6400000 in
theorem checks_k0 (key to : ByteArray) (rc old low high : List TVal) (id lim sp nd : Int) (fs : List Int) (rv ov fv lv hv : Value) (K : Int) (w : World) (h1 : ¬ K = 1) (h2 : ¬ K = 2) (h3 : ¬ K = 3) (h4 : ¬ K = 4) (h5 : ¬ K = 5) (h6 : ¬ K = 6) (h7 : ¬ K = 7) (h8 : ¬ K = 8) (h9 : ¬ K = 9) (h10 : ¬ K = 10) (h11 : ¬ K = 11) (h12 : ¬ K = 12) :
    Calls Tryz.prog 44 #[.agg (opCells ⟨K, key, to, rc, old, id, fs, low, high, lim, sp, nd⟩ rv ov fv lv hv)] w (ChecksPost [1] w) := by
  unfold opCells
  go_enter Tryz.func44, Tryz.ntmps44
  have e1 : (K == 1) = false := by simpa using h1
  have e2 : (K == 2) = false := by simpa using h2
  have e3 : (K == 3) = false := by simpa using h3
  have e4 : (K == 4) = false := by simpa using h4
  have e5 : (K == 5) = false := by simpa using h5
  have e6 : (K == 6) = false := by simpa using h6
  have e7 : (K == 7) = false := by simpa using h7
  have e8 : (K == 8) = false := by simpa using h8
  have e9 : (K == 9) = false := by simpa using h9
  have e10 : (K == 10) = false := by simpa using h10
  have e11 : (K == 11) = false := by simpa using h11
  have e12 : (K == 12) = false := by simpa using h12
  clear h1 h2 h3 h4 h5 h6 h7 h8 h9 h10 h11 h12
  go_wp2
  go_ret
  exact checks1 (below_alloc _ _) (arg_told _) _ (by simp)

set_option maxRecDepth 100000 in
theorem checks_any (v : Value) (o : TOp) (B : Nat) (w : World) (hB : B ≤ w.heap.size) (ho : OpIs w B v o) : Calls Tryz.prog 44 #[v] w (ChecksPost (errsT o) w) := by
  obtain ⟨rv, ov, fv, lv, hv, rfl, h1, h2, h3, h4, h5⟩ := ho
  obtain ⟨k, key, to, rc, old, id, fs, low, high, lim, sp, nd⟩ := o
  by_cases k1 : k = 1
  · subst k1; exact checks_k1 key to rc old low high id lim sp nd fs rv ov fv lv hv B w hB h1
  by_cases k2 : k = 2
  · subst k2; exact checks_k2 key to rc old low high id lim sp nd fs rv ov fv lv hv w
  by_cases k3 : k = 3
  · subst k3; exact checks_k3 key to rc old low high id lim sp nd fs rv ov fv lv hv w
  by_cases k4 : k = 4
  · subst k4; exact checks_k4 key to rc old low high id lim sp nd fs rv ov fv lv hv B w hB h1 h2
  by_cases k5 : k = 5
  · subst k5; exact checks_k5 key to rc old low high id lim sp nd fs rv ov fv lv hv w
  by_cases k6 : k = 6
  · subst k6; exact checks_k6 key to rc old low high id lim sp nd fs rv ov fv lv hv B w hB h4 h5
  by_cases k7 : k = 7
  · subst k7; exact checks_k7 key to rc old low high id lim sp nd fs rv ov fv lv hv B w hB h3
  by_cases k8 : k = 8
  · subst k8; exact checks_k8 key to rc old low high id lim sp nd fs rv ov fv lv hv w
  by_cases k9 : k = 9
  · subst k9; exact checks_k9 key to rc old low high id lim sp nd fs rv ov fv lv hv w
  by_cases k10 : k = 10
  · subst k10; exact checks_k10 key to rc old low high id lim sp nd fs rv ov fv lv hv w
  by_cases k11 : k = 11
  · subst k11; exact checks_k11 key to rc old low high id lim sp nd fs rv ov fv lv hv w
  by_cases k12 : k = 12
  · subst k12; exact checks_k12 key to rc old low high id lim sp nd fs rv ov fv lv hv w
  have e : errsT ⟨k, key, to, rc, old, id, fs, low, high, lim, sp, nd⟩ = [1] := by
    unfold errsT
    simp only [k1, k2, k3, k4, k5, k6, k7, k8, k9, k10, k11, k12, if_false, or_self]
  rw [e]
  exact checks_k0 key to rc old low high id lim sp nd fs rv ov fv lv hv k w k1 k2 k3 k4 k5 k6 k7 k8 k9 k10 k11 k12
end Go.Proofs.YtknfjajmnlpfjaaGreat
