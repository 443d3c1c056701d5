/- Do, kind by kind, over what its method does. Condition: the operation is in memory. -/
import Derived.Test.YtfaenejcgmnmdaaGreatPlnO
import Derived.Test.YtfaenejcgmnmdaaGreatPlnK
import Derived.Test.YtfaenejcgmnmdaaGreatPlnC
namespace Go.Proofs.YtfaenejcgmnmdaaGreat
open Go.RowKit
open Go.Lib (strCells compareBytes)

/-- an answer in plain words -/
structure Ans where
  code : Int
  there : Bool
  rc : List TVal
  rows : Kv (List TVal)
  num : Int
def AnsIs (w : World) (base : Nat) (v : Value) (a : Ans) : Prop :=
  ∃ rv sv, v = replyV a.code a.there rv sv a.num ∧ w.ownsRow base 67 3 rv a.rc.length (valCells a.rc) ∧ RowsIs w base sv a.rows
theorem AnsIs.base {w : World} {b b' : Nat} {v : Value} {a : Ans} (h : AnsIs w b v a) (hb : b' ≤ b) : AnsIs w b' v a := by
  obtain ⟨rv, sv, h1, h2, h3⟩ := h
  exact ⟨rv, sv, h1, own_baseN h2 hb, h3.base hb⟩
def xi (x : Ix) : Int × List Int := (x.num, x.fs)
theorem RowsIs.nil (w : World) (b : Nat) : RowsIs w b (.slice none 0 0) [] := ⟨[], OwnRows.nil w b, rfl⟩
theorem ans_plain (w : World) (base : Nat) (code : Int) (there : Bool) (num : Int) : AnsIs w base (replyV code there (.slice none 0 0) (.slice none 0 0) num) ⟨code, there, [], [], num⟩ :=
  ⟨_, _, rfl, World.ownsRow_nil _ _ _ _, RowsIs.nil _ _⟩
/-- what an operation leaves: the answer a, the records M, the indexes I, of which n were declared -/
def DoPost (B sb mb : Nat) (ix : Value) (E : Kv (Value × List TVal)) (M : Kv (List TVal)) (I : List (Int × List Int)) (n : Nat) (a : Ans) (w : World) (e : Ending) (w' : World) : Prop :=
  ∃ v ix' E' X', e = .returned v ∧ AnsIs w' w.heap.size v a ∧ Store w' B sb mb ix' E' X' n ∧ mapK (·.2) E' = M ∧ X'.map xi = I ∧ Kept3 sb mb ix w w' ∧ (∀ g, ix'.ownBlock = some g → ix.ownBlock = some g ∨ w.heap.size ≤ g) ∧
    ∀ p ∈ E', p ∈ E ∨ w'.ownsRow w.heap.size 67 3 p.2.1 p.2.2.length (valCells p.2.2)
/-- an operation that leaves the store as it was -/
theorem do_same {B sb mb d : Nat} {ix : Value} {E : Kv (Value × List TVal)} {X : List Ix} {w w' : World} {v : Value} {a : Ans} (h : Store w B sb mb ix E X d) (ha : AnsIs w' w.heap.size v a) (hb : Below w.heap.size w w') :
    DoPost B sb mb ix E (mapK (·.2) E) (X.map xi) d a w (.returned v) w' :=
  ⟨v, ix, E, X, rfl, ha, h.below hb, rfl, rfl, Kept3.of hb, fun _ hg => .inl hg, fun _ hp => .inl hp⟩

theorem store5 {B sb mb d g : Nat} {ix : Value} {E : Kv (Value × List TVal)} {X : List Ix} {w W : World} {cs : Array Value} {x' y' z' u' v' : Value} (h : Store w B sb mb ix E X d) (hg : Box w g 40 cs)
    (hW : ((((w.setCell ⟨g, 0, none⟩ x').setCell ⟨g, 1, none⟩ y').setCell ⟨g, 2, none⟩ z').setCell ⟨g, 3, none⟩ u').setCell ⟨g, 4, none⟩ v' = W) : Store W B sb mb ix E X d :=
  h.frame fun i o hi ho _ => heap5 (fun e => by
    subst e
    unfold Box at hg
    rw [hg] at hi
    injection hi with hi
    subst hi
    simp only at ho
    rcases ho with ho | ho | ho | ho <;> exact absurd ho (by decide)) hW
theorem do_end {B sb mb d n g : Nat} {ix : Value} {E : Kv (Value × List TVal)} {X : List Ix} {w w1 w5 W3 : World} {M : Kv (List TVal)} {I : List (Int × List Int)} {a : Ans} {rv sv : Value} {cs : Array Value} (h : Store w B sb mb ix E X d) (hb : Below w.heap.size w w1) (hg : w.heap.size + 1 = g) (h1 : g < w1.heap.size) (hbx : Box w1 g 40 cs)
    (hp : DoPost B sb mb ix E M I n a w1 (.returned (replyV a.code a.there rv sv a.num)) w5) (hW : ((((w5.setCell ⟨g, 0, none⟩ (.int .i64 a.code)).setCell ⟨g, 1, none⟩ (.bool a.there)).setCell ⟨g, 2, none⟩ rv).setCell ⟨g, 3, none⟩ sv).setCell ⟨g, 4, none⟩ (.int .i64 a.num) = W3) :
    DoPost B sb mb ix E M I n a w (.returned (replyV a.code a.there rv sv a.num)) W3 := by
  obtain ⟨v, ix', E', X', e, ha, hs, hM, hI, hk, hx, hnew⟩ := hp
  injection e with e
  subst e
  have hlt := h.lt
  have hbx5 : Box w5 g 40 cs := (hk.block g h1 (by omega) (by omega) (fun e => by have := (h.irow.lt g e.symm).2; omega)).trans hbx
  have hsame := same5 hW
  have hsz := hb.size
  refine ⟨_, ix', E', X', rfl, ?_, store5 hs hbx5 hW, hM, hI, ?_, fun g' hg' => (hx g' hg').imp id (fun h => by omega), fun p hp => (hnew p hp).imp id fun ho => ?_⟩
  · obtain ⟨rv', sv', e, hr, hR⟩ := ha
    exact AnsIs.base ⟨rv', sv', e, own5 hr h1 hW, rows5 hR h1 hW⟩ hsz
  · refine ⟨hsame.1.trans (hk.os.trans hb.os), hsame.2.1.trans (hk.tape.trans hb.tape), hsame.2.2.1.trans (hk.output.trans hb.output), ?_, fun i hi c1 c2 c3 => ?_⟩
    · have := hk.size; omega
    · rw [heap5 (by omega) hW, hk.block i (by omega) c1 c2 c3, hb.block i hi]
  · exact own_baseN (own5 ho h1 hW) hsz

section
variable {B sb mb d : Nat} {ix : Value} {E : Kv (Value × List TVal)} {X : List Ix} {w : World}
set_option maxRecDepth 100000 in
set_option maxHeartbeats 3200000 in
theorem do_k1 (h : Store w B sb mb ix E X d) (C : Nat) (hC : C ≤ w.heap.size) (key to : ByteArray) (rc old low high : List TVal) (id lim sp nd : Int) (fs : List Int) (Ar Ao Af Al Ah : Option Addr) (nr cr no co nf cf nl cl nh ch : Nat)
    (ho : OpIs w C (.agg #[.int .i64 1, .string key, .string to, .slice Ar nr cr, .slice Ao no co, .int .i64 id, .slice Af nf cf, .slice Al nl cl, .slice Ah nh ch, .int .i64 lim, .int .i64 sp, .int .i64 nd]) ⟨1, key, to, rc, old, id, fs, low, high, lim, sp, nd⟩) (hz : checkT ⟨1, key, to, rc, old, id, fs, low, high, lim, sp, nd⟩ = 0) {M : Kv (List TVal)} {I : List (Int × List Int)} {n : Nat} {a : Ans}
    (hm : ∀ w1, Below w.heap.size w w1 → Calls Tryz.prog 38 #[.pointer (some ⟨sb, 0, none⟩), .string key, .slice Ar nr cr] w1 (DoPost B sb mb ix E M I n a w1)) :
    Calls Tryz.prog 17 #[.pointer (some ⟨sb, 0, none⟩), .agg #[.int .i64 1, .string key, .string to, .slice Ar nr cr, .slice Ao no co, .int .i64 id, .slice Af nf cf, .slice Al nl cl, .slice Ah nh ch, .int .i64 lim, .int .i64 sp, .int .i64 nd]] w (DoPost B sb mb ix E M I n a w) := by
  obtain ⟨w00, hw00⟩ : ∃ w00, w.alloc (.cells #[.int .i64 1, .string key, .string to, .slice Ar nr cr, .slice Ao no co, .int .i64 id, .slice Af nf cf, .slice Al nl cl, .slice Ah nh ch, .int .i64 lim, .int .i64 sp, .int .i64 nd] 26) = w00 := ⟨_, rfl⟩
  have hb00 : Below w.heap.size w w00 := hw00 ▸ below_alloc _ _
  have hbo0 : Box w00 w.heap.size 26 #[.int .i64 1, .string key, .string to, .slice Ar nr cr, .slice Ao no co, .int .i64 id, .slice Af nf cf, .slice Al nl cl, .slice Ah nh ch, .int .i64 lim, .int .i64 sp, .int .i64 nd] := hw00 ▸ Box.made _ _ _
  have hs00 : w00.heap.size = w.heap.size + 1 := by rw [← hw00]; simp
  obtain ⟨w0, hw0⟩ : ∃ w0, w00.alloc (.cells #[.int .i64 0, .bool false, .slice none 0 0, .slice none 0 0, .int .i64 0] 40) = w0 := ⟨_, rfl⟩
  have hb0 : Below w.heap.size w w0 := Below.then hb00 (hw0 ▸ below_alloc _ _)
  have hbx : Box w0 (w.heap.size + 1) 40 #[.int .i64 0, .bool false, .slice none 0 0, .slice none 0 0, .int .i64 0] := hw0 ▸ made_at hs00 _ _
  have hbo : Box w0 w.heap.size 26 #[.int .i64 1, .string key, .string to, .slice Ar nr cr, .slice Ao no co, .int .i64 id, .slice Af nf cf, .slice Al nl cl, .slice Ah nh ch, .int .i64 lim, .int .i64 sp, .int .i64 nd] := hw0 ▸ hbo0.alloc _
  have hsz : w0.heap.size = w.heap.size + 1 + 1 := by rw [← hw0]; simp [hs00]
  have hchk := plainCheck_any _ _ C w0 (Nat.le_trans hC hb0.size) (ho.belowOf hb0 hC)
  have e0 := hbo.cell 0; have e1 := hbo.cell 1; have e2 := hbo.cell 2; have e3 := hbo.cell 3; have e4 := hbo.cell 4; have e5 := hbo.cell 5
  have e6 := hbo.cell 6; have e7 := hbo.cell 7; have e8 := hbo.cell 8; have e9 := hbo.cell 9; have e10 := hbo.cell 10; have e11 := hbo.cell 11
  have H := Lib.hid h
  have Hbx := Lib.hid hbx
  have Hbo := Lib.hid hbo
  have Hb0 := Lib.hid hb0
  have Hsz := Lib.hid hsz
  have Hchk := Lib.hid hchk
  clear hbo hbo0 hb00 hb0 hbx hsz hchk h ho
  have Hm := Lib.hid hm
  clear hm
  rw [hz] at Hchk
  go_enter Tryz.func17, Tryz.ntmps17
  go_wp2_with fail
  refine Hchk.out.mono ?_
  rintro e w1 ⟨rfl, hb1⟩
  have hbo1 := Hbo.out.below hb1 Hbo.out.lt
  have a0 := hbo1.cell 0
  have a1 := hbo1.cell 1
  have a3 := hbo1.cell 3
  have Hb1 := Lib.hid hb1
  have Hbw := Lib.hid (Below.trans Hb0.out (hb1.mono (by rw [Hsz.out]; omega)))
  have Hbx1 := Lib.hid (Hbx.out.below hb1 Hbx.out.lt)
  have Hlt1 : Hid (w.heap.size + 1 < w1.heap.size) := Lib.hid (by have := hb1.size; have := Hsz.out; omega)
  clear hbo1 hb1
  go_wp2_with fail
  refine (Hm.out _ Hbw.out).mono ?_
  rintro e w5 hp
  have hp0 := hp
  obtain ⟨v, ix', E', X', rfl, ⟨rv, sv, rfl, hr, hR⟩, -, -, -, hk, -, -⟩ := hp0
  obtain ⟨Ax, cx, rfl, -⟩ := own_sliceN hr
  obtain ⟨Ay, cy, rfl⟩ := hR.slice
  obtain ⟨ac, at', ar, as', an⟩ := a
  have hbx5 := (show Box w5 _ _ _ from (hk.block _ Hlt1.out (by have := H.out.lt.1; omega) (by have := H.out.lt.2; omega) (fun e => by have := (H.out.irow.lt _ e.symm).2; omega)).trans Hbx1.out)
  have Hp := Lib.hid hp
  clear hp hr hR hk
  unfold replyV
  obtain ⟨r0, r1, r2, r3, r4, k0, k1, k2, k3, k4⟩ := box5 hbx5
  obtain ⟨W3, hW3⟩ : ∃ W3, ((((w5.setCell ⟨w.heap.size + 1, 0, none⟩ (.int .i64 ac)).setCell ⟨w.heap.size + 1, 1, none⟩ (.bool at')).setCell ⟨w.heap.size + 1, 2, none⟩ (.slice Ax ar.length cx)).setCell ⟨w.heap.size + 1, 3, none⟩ (.slice Ay as'.length cy)).setCell ⟨w.heap.size + 1, 4, none⟩ (.int .i64 an) = W3 := ⟨_, rfl⟩
  obtain ⟨p0, p1, p2, p3, p4, -⟩ := box5 (box5_store hbx5 hW3)
  have Hend := Lib.hid (do_end H.out Hbw.out rfl Hlt1.out Hbx1.out Hp.out hW3)
  clear hbx5
  go_wp2
  refine bodyPost_ret (v := replyV ac at' (.slice Ax ar.length cx) (.slice Ay as'.length cy) an) ?_ rfl Hend.out
  simp [results, Tryz.results17, go_sem, replyV, p0, p1, p2, p3, p4]
set_option maxRecDepth 100000 in
set_option maxHeartbeats 3200000 in
theorem do_k2 (h : Store w B sb mb ix E X d) (C : Nat) (hC : C ≤ w.heap.size) (key to : ByteArray) (rc old low high : List TVal) (id lim sp nd : Int) (fs : List Int) (Ar Ao Af Al Ah : Option Addr) (nr cr no co nf cf nl cl nh ch : Nat)
    (ho : OpIs w C (.agg #[.int .i64 2, .string key, .string to, .slice Ar nr cr, .slice Ao no co, .int .i64 id, .slice Af nf cf, .slice Al nl cl, .slice Ah nh ch, .int .i64 lim, .int .i64 sp, .int .i64 nd]) ⟨2, key, to, rc, old, id, fs, low, high, lim, sp, nd⟩) (hz : checkT ⟨2, key, to, rc, old, id, fs, low, high, lim, sp, nd⟩ = 0) {M : Kv (List TVal)} {I : List (Int × List Int)} {n : Nat} {a : Ans}
    (hm : ∀ w1, Below w.heap.size w w1 → Calls Tryz.prog 39 #[.pointer (some ⟨sb, 0, none⟩), .string key] w1 (DoPost B sb mb ix E M I n a w1)) :
    Calls Tryz.prog 17 #[.pointer (some ⟨sb, 0, none⟩), .agg #[.int .i64 2, .string key, .string to, .slice Ar nr cr, .slice Ao no co, .int .i64 id, .slice Af nf cf, .slice Al nl cl, .slice Ah nh ch, .int .i64 lim, .int .i64 sp, .int .i64 nd]] w (DoPost B sb mb ix E M I n a w) := by
  obtain ⟨w00, hw00⟩ : ∃ w00, w.alloc (.cells #[.int .i64 2, .string key, .string to, .slice Ar nr cr, .slice Ao no co, .int .i64 id, .slice Af nf cf, .slice Al nl cl, .slice Ah nh ch, .int .i64 lim, .int .i64 sp, .int .i64 nd] 26) = w00 := ⟨_, rfl⟩
  have hb00 : Below w.heap.size w w00 := hw00 ▸ below_alloc _ _
  have hbo0 : Box w00 w.heap.size 26 #[.int .i64 2, .string key, .string to, .slice Ar nr cr, .slice Ao no co, .int .i64 id, .slice Af nf cf, .slice Al nl cl, .slice Ah nh ch, .int .i64 lim, .int .i64 sp, .int .i64 nd] := hw00 ▸ Box.made _ _ _
  have hs00 : w00.heap.size = w.heap.size + 1 := by rw [← hw00]; simp
  obtain ⟨w0, hw0⟩ : ∃ w0, w00.alloc (.cells #[.int .i64 0, .bool false, .slice none 0 0, .slice none 0 0, .int .i64 0] 40) = w0 := ⟨_, rfl⟩
  have hb0 : Below w.heap.size w w0 := Below.then hb00 (hw0 ▸ below_alloc _ _)
  have hbx : Box w0 (w.heap.size + 1) 40 #[.int .i64 0, .bool false, .slice none 0 0, .slice none 0 0, .int .i64 0] := hw0 ▸ made_at hs00 _ _
  have hbo : Box w0 w.heap.size 26 #[.int .i64 2, .string key, .string to, .slice Ar nr cr, .slice Ao no co, .int .i64 id, .slice Af nf cf, .slice Al nl cl, .slice Ah nh ch, .int .i64 lim, .int .i64 sp, .int .i64 nd] := hw0 ▸ hbo0.alloc _
  have hsz : w0.heap.size = w.heap.size + 1 + 1 := by rw [← hw0]; simp [hs00]
  have hchk := plainCheck_any _ _ C w0 (Nat.le_trans hC hb0.size) (ho.belowOf hb0 hC)
  have e0 := hbo.cell 0; have e1 := hbo.cell 1; have e2 := hbo.cell 2; have e3 := hbo.cell 3; have e4 := hbo.cell 4; have e5 := hbo.cell 5
  have e6 := hbo.cell 6; have e7 := hbo.cell 7; have e8 := hbo.cell 8; have e9 := hbo.cell 9; have e10 := hbo.cell 10; have e11 := hbo.cell 11
  have H := Lib.hid h
  have Hbx := Lib.hid hbx
  have Hbo := Lib.hid hbo
  have Hb0 := Lib.hid hb0
  have Hsz := Lib.hid hsz
  have Hchk := Lib.hid hchk
  clear hbo hbo0 hb00 hb0 hbx hsz hchk h ho
  have Hm := Lib.hid hm
  clear hm
  rw [hz] at Hchk
  go_enter Tryz.func17, Tryz.ntmps17
  go_wp2_with fail
  refine Hchk.out.mono ?_
  rintro e w1 ⟨rfl, hb1⟩
  have hbo1 := Hbo.out.below hb1 Hbo.out.lt
  have a0 := hbo1.cell 0
  have a1 := hbo1.cell 1
  have Hb1 := Lib.hid hb1
  have Hbw := Lib.hid (Below.trans Hb0.out (hb1.mono (by rw [Hsz.out]; omega)))
  have Hbx1 := Lib.hid (Hbx.out.below hb1 Hbx.out.lt)
  have Hlt1 : Hid (w.heap.size + 1 < w1.heap.size) := Lib.hid (by have := hb1.size; have := Hsz.out; omega)
  clear hbo1 hb1
  go_wp2_with fail
  refine (Hm.out _ Hbw.out).mono ?_
  rintro e w5 hp
  have hp0 := hp
  obtain ⟨v, ix', E', X', rfl, ⟨rv, sv, rfl, hr, hR⟩, -, -, -, hk, -, -⟩ := hp0
  obtain ⟨Ax, cx, rfl, -⟩ := own_sliceN hr
  obtain ⟨Ay, cy, rfl⟩ := hR.slice
  obtain ⟨ac, at', ar, as', an⟩ := a
  have hbx5 := (show Box w5 _ _ _ from (hk.block _ Hlt1.out (by have := H.out.lt.1; omega) (by have := H.out.lt.2; omega) (fun e => by have := (H.out.irow.lt _ e.symm).2; omega)).trans Hbx1.out)
  have Hp := Lib.hid hp
  clear hp hr hR hk
  unfold replyV
  obtain ⟨r0, r1, r2, r3, r4, k0, k1, k2, k3, k4⟩ := box5 hbx5
  obtain ⟨W3, hW3⟩ : ∃ W3, ((((w5.setCell ⟨w.heap.size + 1, 0, none⟩ (.int .i64 ac)).setCell ⟨w.heap.size + 1, 1, none⟩ (.bool at')).setCell ⟨w.heap.size + 1, 2, none⟩ (.slice Ax ar.length cx)).setCell ⟨w.heap.size + 1, 3, none⟩ (.slice Ay as'.length cy)).setCell ⟨w.heap.size + 1, 4, none⟩ (.int .i64 an) = W3 := ⟨_, rfl⟩
  obtain ⟨p0, p1, p2, p3, p4, -⟩ := box5 (box5_store hbx5 hW3)
  have Hend := Lib.hid (do_end H.out Hbw.out rfl Hlt1.out Hbx1.out Hp.out hW3)
  clear hbx5
  go_wp2
  refine bodyPost_ret (v := replyV ac at' (.slice Ax ar.length cx) (.slice Ay as'.length cy) an) ?_ rfl Hend.out
  simp [results, Tryz.results17, go_sem, replyV, p0, p1, p2, p3, p4]
set_option maxRecDepth 100000 in
set_option maxHeartbeats 3200000 in
theorem do_k3 (h : Store w B sb mb ix E X d) (C : Nat) (hC : C ≤ w.heap.size) (key to : ByteArray) (rc old low high : List TVal) (id lim sp nd : Int) (fs : List Int) (Ar Ao Af Al Ah : Option Addr) (nr cr no co nf cf nl cl nh ch : Nat)
    (ho : OpIs w C (.agg #[.int .i64 3, .string key, .string to, .slice Ar nr cr, .slice Ao no co, .int .i64 id, .slice Af nf cf, .slice Al nl cl, .slice Ah nh ch, .int .i64 lim, .int .i64 sp, .int .i64 nd]) ⟨3, key, to, rc, old, id, fs, low, high, lim, sp, nd⟩) (hz : checkT ⟨3, key, to, rc, old, id, fs, low, high, lim, sp, nd⟩ = 0) {M : Kv (List TVal)} {I : List (Int × List Int)} {n : Nat} {a : Ans}
    (hm : ∀ w1, Below w.heap.size w w1 → Calls Tryz.prog 40 #[.pointer (some ⟨sb, 0, none⟩), .string key] w1 (DoPost B sb mb ix E M I n a w1)) :
    Calls Tryz.prog 17 #[.pointer (some ⟨sb, 0, none⟩), .agg #[.int .i64 3, .string key, .string to, .slice Ar nr cr, .slice Ao no co, .int .i64 id, .slice Af nf cf, .slice Al nl cl, .slice Ah nh ch, .int .i64 lim, .int .i64 sp, .int .i64 nd]] w (DoPost B sb mb ix E M I n a w) := by
  obtain ⟨w00, hw00⟩ : ∃ w00, w.alloc (.cells #[.int .i64 3, .string key, .string to, .slice Ar nr cr, .slice Ao no co, .int .i64 id, .slice Af nf cf, .slice Al nl cl, .slice Ah nh ch, .int .i64 lim, .int .i64 sp, .int .i64 nd] 26) = w00 := ⟨_, rfl⟩
  have hb00 : Below w.heap.size w w00 := hw00 ▸ below_alloc _ _
  have hbo0 : Box w00 w.heap.size 26 #[.int .i64 3, .string key, .string to, .slice Ar nr cr, .slice Ao no co, .int .i64 id, .slice Af nf cf, .slice Al nl cl, .slice Ah nh ch, .int .i64 lim, .int .i64 sp, .int .i64 nd] := hw00 ▸ Box.made _ _ _
  have hs00 : w00.heap.size = w.heap.size + 1 := by rw [← hw00]; simp
  obtain ⟨w0, hw0⟩ : ∃ w0, w00.alloc (.cells #[.int .i64 0, .bool false, .slice none 0 0, .slice none 0 0, .int .i64 0] 40) = w0 := ⟨_, rfl⟩
  have hb0 : Below w.heap.size w w0 := Below.then hb00 (hw0 ▸ below_alloc _ _)
  have hbx : Box w0 (w.heap.size + 1) 40 #[.int .i64 0, .bool false, .slice none 0 0, .slice none 0 0, .int .i64 0] := hw0 ▸ made_at hs00 _ _
  have hbo : Box w0 w.heap.size 26 #[.int .i64 3, .string key, .string to, .slice Ar nr cr, .slice Ao no co, .int .i64 id, .slice Af nf cf, .slice Al nl cl, .slice Ah nh ch, .int .i64 lim, .int .i64 sp, .int .i64 nd] := hw0 ▸ hbo0.alloc _
  have hsz : w0.heap.size = w.heap.size + 1 + 1 := by rw [← hw0]; simp [hs00]
  have hchk := plainCheck_any _ _ C w0 (Nat.le_trans hC hb0.size) (ho.belowOf hb0 hC)
  have e0 := hbo.cell 0; have e1 := hbo.cell 1; have e2 := hbo.cell 2; have e3 := hbo.cell 3; have e4 := hbo.cell 4; have e5 := hbo.cell 5
  have e6 := hbo.cell 6; have e7 := hbo.cell 7; have e8 := hbo.cell 8; have e9 := hbo.cell 9; have e10 := hbo.cell 10; have e11 := hbo.cell 11
  have H := Lib.hid h
  have Hbx := Lib.hid hbx
  have Hbo := Lib.hid hbo
  have Hb0 := Lib.hid hb0
  have Hsz := Lib.hid hsz
  have Hchk := Lib.hid hchk
  clear hbo hbo0 hb00 hb0 hbx hsz hchk h ho
  have Hm := Lib.hid hm
  clear hm
  rw [hz] at Hchk
  go_enter Tryz.func17, Tryz.ntmps17
  go_wp2_with fail
  refine Hchk.out.mono ?_
  rintro e w1 ⟨rfl, hb1⟩
  have hbo1 := Hbo.out.below hb1 Hbo.out.lt
  have a0 := hbo1.cell 0
  have a1 := hbo1.cell 1
  have Hb1 := Lib.hid hb1
  have Hbw := Lib.hid (Below.trans Hb0.out (hb1.mono (by rw [Hsz.out]; omega)))
  have Hbx1 := Lib.hid (Hbx.out.below hb1 Hbx.out.lt)
  have Hlt1 : Hid (w.heap.size + 1 < w1.heap.size) := Lib.hid (by have := hb1.size; have := Hsz.out; omega)
  clear hbo1 hb1
  go_wp2_with fail
  refine (Hm.out _ Hbw.out).mono ?_
  rintro e w5 hp
  have hp0 := hp
  obtain ⟨v, ix', E', X', rfl, ⟨rv, sv, rfl, hr, hR⟩, -, -, -, hk, -, -⟩ := hp0
  obtain ⟨Ax, cx, rfl, -⟩ := own_sliceN hr
  obtain ⟨Ay, cy, rfl⟩ := hR.slice
  obtain ⟨ac, at', ar, as', an⟩ := a
  have hbx5 := (show Box w5 _ _ _ from (hk.block _ Hlt1.out (by have := H.out.lt.1; omega) (by have := H.out.lt.2; omega) (fun e => by have := (H.out.irow.lt _ e.symm).2; omega)).trans Hbx1.out)
  have Hp := Lib.hid hp
  clear hp hr hR hk
  unfold replyV
  obtain ⟨r0, r1, r2, r3, r4, k0, k1, k2, k3, k4⟩ := box5 hbx5
  obtain ⟨W3, hW3⟩ : ∃ W3, ((((w5.setCell ⟨w.heap.size + 1, 0, none⟩ (.int .i64 ac)).setCell ⟨w.heap.size + 1, 1, none⟩ (.bool at')).setCell ⟨w.heap.size + 1, 2, none⟩ (.slice Ax ar.length cx)).setCell ⟨w.heap.size + 1, 3, none⟩ (.slice Ay as'.length cy)).setCell ⟨w.heap.size + 1, 4, none⟩ (.int .i64 an) = W3 := ⟨_, rfl⟩
  obtain ⟨p0, p1, p2, p3, p4, -⟩ := box5 (box5_store hbx5 hW3)
  have Hend := Lib.hid (do_end H.out Hbw.out rfl Hlt1.out Hbx1.out Hp.out hW3)
  clear hbx5
  go_wp2
  refine bodyPost_ret (v := replyV ac at' (.slice Ax ar.length cx) (.slice Ay as'.length cy) an) ?_ rfl Hend.out
  simp [results, Tryz.results17, go_sem, replyV, p0, p1, p2, p3, p4]
set_option maxRecDepth 100000 in
set_option maxHeartbeats 3200000 in
theorem do_k4 (h : Store w B sb mb ix E X d) (C : Nat) (hC : C ≤ w.heap.size) (key to : ByteArray) (rc old low high : List TVal) (id lim sp nd : Int) (fs : List Int) (Ar Ao Af Al Ah : Option Addr) (nr cr no co nf cf nl cl nh ch : Nat)
    (ho : OpIs w C (.agg #[.int .i64 4, .string key, .string to, .slice Ar nr cr, .slice Ao no co, .int .i64 id, .slice Af nf cf, .slice Al nl cl, .slice Ah nh ch, .int .i64 lim, .int .i64 sp, .int .i64 nd]) ⟨4, key, to, rc, old, id, fs, low, high, lim, sp, nd⟩) (hz : checkT ⟨4, key, to, rc, old, id, fs, low, high, lim, sp, nd⟩ = 0) {M : Kv (List TVal)} {I : List (Int × List Int)} {n : Nat} {a : Ans}
    (hm : ∀ w1, Below w.heap.size w w1 → Calls Tryz.prog 41 #[.pointer (some ⟨sb, 0, none⟩), .string key, .slice Ao no co, .slice Ar nr cr] w1 (DoPost B sb mb ix E M I n a w1)) :
    Calls Tryz.prog 17 #[.pointer (some ⟨sb, 0, none⟩), .agg #[.int .i64 4, .string key, .string to, .slice Ar nr cr, .slice Ao no co, .int .i64 id, .slice Af nf cf, .slice Al nl cl, .slice Ah nh ch, .int .i64 lim, .int .i64 sp, .int .i64 nd]] w (DoPost B sb mb ix E M I n a w) := by
  obtain ⟨w00, hw00⟩ : ∃ w00, w.alloc (.cells #[.int .i64 4, .string key, .string to, .slice Ar nr cr, .slice Ao no co, .int .i64 id, .slice Af nf cf, .slice Al nl cl, .slice Ah nh ch, .int .i64 lim, .int .i64 sp, .int .i64 nd] 26) = w00 := ⟨_, rfl⟩
  have hb00 : Below w.heap.size w w00 := hw00 ▸ below_alloc _ _
  have hbo0 : Box w00 w.heap.size 26 #[.int .i64 4, .string key, .string to, .slice Ar nr cr, .slice Ao no co, .int .i64 id, .slice Af nf cf, .slice Al nl cl, .slice Ah nh ch, .int .i64 lim, .int .i64 sp, .int .i64 nd] := hw00 ▸ Box.made _ _ _
  have hs00 : w00.heap.size = w.heap.size + 1 := by rw [← hw00]; simp
  obtain ⟨w0, hw0⟩ : ∃ w0, w00.alloc (.cells #[.int .i64 0, .bool false, .slice none 0 0, .slice none 0 0, .int .i64 0] 40) = w0 := ⟨_, rfl⟩
  have hb0 : Below w.heap.size w w0 := Below.then hb00 (hw0 ▸ below_alloc _ _)
  have hbx : Box w0 (w.heap.size + 1) 40 #[.int .i64 0, .bool false, .slice none 0 0, .slice none 0 0, .int .i64 0] := hw0 ▸ made_at hs00 _ _
  have hbo : Box w0 w.heap.size 26 #[.int .i64 4, .string key, .string to, .slice Ar nr cr, .slice Ao no co, .int .i64 id, .slice Af nf cf, .slice Al nl cl, .slice Ah nh ch, .int .i64 lim, .int .i64 sp, .int .i64 nd] := hw0 ▸ hbo0.alloc _
  have hsz : w0.heap.size = w.heap.size + 1 + 1 := by rw [← hw0]; simp [hs00]
  have hchk := plainCheck_any _ _ C w0 (Nat.le_trans hC hb0.size) (ho.belowOf hb0 hC)
  have e0 := hbo.cell 0; have e1 := hbo.cell 1; have e2 := hbo.cell 2; have e3 := hbo.cell 3; have e4 := hbo.cell 4; have e5 := hbo.cell 5
  have e6 := hbo.cell 6; have e7 := hbo.cell 7; have e8 := hbo.cell 8; have e9 := hbo.cell 9; have e10 := hbo.cell 10; have e11 := hbo.cell 11
  have H := Lib.hid h
  have Hbx := Lib.hid hbx
  have Hbo := Lib.hid hbo
  have Hb0 := Lib.hid hb0
  have Hsz := Lib.hid hsz
  have Hchk := Lib.hid hchk
  clear hbo hbo0 hb00 hb0 hbx hsz hchk h ho
  have Hm := Lib.hid hm
  clear hm
  rw [hz] at Hchk
  go_enter Tryz.func17, Tryz.ntmps17
  go_wp2_with fail
  refine Hchk.out.mono ?_
  rintro e w1 ⟨rfl, hb1⟩
  have hbo1 := Hbo.out.below hb1 Hbo.out.lt
  have a0 := hbo1.cell 0
  have a1 := hbo1.cell 1
  have a3 := hbo1.cell 3
  have a4 := hbo1.cell 4
  have Hb1 := Lib.hid hb1
  have Hbw := Lib.hid (Below.trans Hb0.out (hb1.mono (by rw [Hsz.out]; omega)))
  have Hbx1 := Lib.hid (Hbx.out.below hb1 Hbx.out.lt)
  have Hlt1 : Hid (w.heap.size + 1 < w1.heap.size) := Lib.hid (by have := hb1.size; have := Hsz.out; omega)
  clear hbo1 hb1
  go_wp2_with fail
  refine (Hm.out _ Hbw.out).mono ?_
  rintro e w5 hp
  have hp0 := hp
  obtain ⟨v, ix', E', X', rfl, ⟨rv, sv, rfl, hr, hR⟩, -, -, -, hk, -, -⟩ := hp0
  obtain ⟨Ax, cx, rfl, -⟩ := own_sliceN hr
  obtain ⟨Ay, cy, rfl⟩ := hR.slice
  obtain ⟨ac, at', ar, as', an⟩ := a
  have hbx5 := (show Box w5 _ _ _ from (hk.block _ Hlt1.out (by have := H.out.lt.1; omega) (by have := H.out.lt.2; omega) (fun e => by have := (H.out.irow.lt _ e.symm).2; omega)).trans Hbx1.out)
  have Hp := Lib.hid hp
  clear hp hr hR hk
  unfold replyV
  obtain ⟨r0, r1, r2, r3, r4, k0, k1, k2, k3, k4⟩ := box5 hbx5
  obtain ⟨W3, hW3⟩ : ∃ W3, ((((w5.setCell ⟨w.heap.size + 1, 0, none⟩ (.int .i64 ac)).setCell ⟨w.heap.size + 1, 1, none⟩ (.bool at')).setCell ⟨w.heap.size + 1, 2, none⟩ (.slice Ax ar.length cx)).setCell ⟨w.heap.size + 1, 3, none⟩ (.slice Ay as'.length cy)).setCell ⟨w.heap.size + 1, 4, none⟩ (.int .i64 an) = W3 := ⟨_, rfl⟩
  obtain ⟨p0, p1, p2, p3, p4, -⟩ := box5 (box5_store hbx5 hW3)
  have Hend := Lib.hid (do_end H.out Hbw.out rfl Hlt1.out Hbx1.out Hp.out hW3)
  clear hbx5
  go_wp2
  refine bodyPost_ret (v := replyV ac at' (.slice Ax ar.length cx) (.slice Ay as'.length cy) an) ?_ rfl Hend.out
  simp [results, Tryz.results17, go_sem, replyV, p0, p1, p2, p3, p4]
set_option maxRecDepth 100000 in
set_option maxHeartbeats 3200000 in
theorem do_k5 (h : Store w B sb mb ix E X d) (C : Nat) (hC : C ≤ w.heap.size) (key to : ByteArray) (rc old low high : List TVal) (id lim sp nd : Int) (fs : List Int) (Ar Ao Af Al Ah : Option Addr) (nr cr no co nf cf nl cl nh ch : Nat)
    (ho : OpIs w C (.agg #[.int .i64 5, .string key, .string to, .slice Ar nr cr, .slice Ao no co, .int .i64 id, .slice Af nf cf, .slice Al nl cl, .slice Ah nh ch, .int .i64 lim, .int .i64 sp, .int .i64 nd]) ⟨5, key, to, rc, old, id, fs, low, high, lim, sp, nd⟩) (hz : checkT ⟨5, key, to, rc, old, id, fs, low, high, lim, sp, nd⟩ = 0) {M : Kv (List TVal)} {I : List (Int × List Int)} {n : Nat} {a : Ans}
    (hm : ∀ w1, Below w.heap.size w w1 → Calls Tryz.prog 42 #[.pointer (some ⟨sb, 0, none⟩), .string key, .string to, .int .i64 lim] w1 (DoPost B sb mb ix E M I n a w1)) :
    Calls Tryz.prog 17 #[.pointer (some ⟨sb, 0, none⟩), .agg #[.int .i64 5, .string key, .string to, .slice Ar nr cr, .slice Ao no co, .int .i64 id, .slice Af nf cf, .slice Al nl cl, .slice Ah nh ch, .int .i64 lim, .int .i64 sp, .int .i64 nd]] w (DoPost B sb mb ix E M I n a w) := by
  obtain ⟨w00, hw00⟩ : ∃ w00, w.alloc (.cells #[.int .i64 5, .string key, .string to, .slice Ar nr cr, .slice Ao no co, .int .i64 id, .slice Af nf cf, .slice Al nl cl, .slice Ah nh ch, .int .i64 lim, .int .i64 sp, .int .i64 nd] 26) = w00 := ⟨_, rfl⟩
  have hb00 : Below w.heap.size w w00 := hw00 ▸ below_alloc _ _
  have hbo0 : Box w00 w.heap.size 26 #[.int .i64 5, .string key, .string to, .slice Ar nr cr, .slice Ao no co, .int .i64 id, .slice Af nf cf, .slice Al nl cl, .slice Ah nh ch, .int .i64 lim, .int .i64 sp, .int .i64 nd] := hw00 ▸ Box.made _ _ _
  have hs00 : w00.heap.size = w.heap.size + 1 := by rw [← hw00]; simp
  obtain ⟨w0, hw0⟩ : ∃ w0, w00.alloc (.cells #[.int .i64 0, .bool false, .slice none 0 0, .slice none 0 0, .int .i64 0] 40) = w0 := ⟨_, rfl⟩
  have hb0 : Below w.heap.size w w0 := Below.then hb00 (hw0 ▸ below_alloc _ _)
  have hbx : Box w0 (w.heap.size + 1) 40 #[.int .i64 0, .bool false, .slice none 0 0, .slice none 0 0, .int .i64 0] := hw0 ▸ made_at hs00 _ _
  have hbo : Box w0 w.heap.size 26 #[.int .i64 5, .string key, .string to, .slice Ar nr cr, .slice Ao no co, .int .i64 id, .slice Af nf cf, .slice Al nl cl, .slice Ah nh ch, .int .i64 lim, .int .i64 sp, .int .i64 nd] := hw0 ▸ hbo0.alloc _
  have hsz : w0.heap.size = w.heap.size + 1 + 1 := by rw [← hw0]; simp [hs00]
  have hchk := plainCheck_any _ _ C w0 (Nat.le_trans hC hb0.size) (ho.belowOf hb0 hC)
  have e0 := hbo.cell 0; have e1 := hbo.cell 1; have e2 := hbo.cell 2; have e3 := hbo.cell 3; have e4 := hbo.cell 4; have e5 := hbo.cell 5
  have e6 := hbo.cell 6; have e7 := hbo.cell 7; have e8 := hbo.cell 8; have e9 := hbo.cell 9; have e10 := hbo.cell 10; have e11 := hbo.cell 11
  have H := Lib.hid h
  have Hbx := Lib.hid hbx
  have Hbo := Lib.hid hbo
  have Hb0 := Lib.hid hb0
  have Hsz := Lib.hid hsz
  have Hchk := Lib.hid hchk
  clear hbo hbo0 hb00 hb0 hbx hsz hchk h ho
  have Hm := Lib.hid hm
  clear hm
  rw [hz] at Hchk
  go_enter Tryz.func17, Tryz.ntmps17
  go_wp2_with fail
  refine Hchk.out.mono ?_
  rintro e w1 ⟨rfl, hb1⟩
  have hbo1 := Hbo.out.below hb1 Hbo.out.lt
  have a0 := hbo1.cell 0
  have a1 := hbo1.cell 1
  have a2 := hbo1.cell 2
  have a9 := hbo1.cell 9
  have Hb1 := Lib.hid hb1
  have Hbw := Lib.hid (Below.trans Hb0.out (hb1.mono (by rw [Hsz.out]; omega)))
  have Hbx1 := Lib.hid (Hbx.out.below hb1 Hbx.out.lt)
  have Hlt1 : Hid (w.heap.size + 1 < w1.heap.size) := Lib.hid (by have := hb1.size; have := Hsz.out; omega)
  clear hbo1 hb1
  go_wp2_with fail
  refine (Hm.out _ Hbw.out).mono ?_
  rintro e w5 hp
  have hp0 := hp
  obtain ⟨v, ix', E', X', rfl, ⟨rv, sv, rfl, hr, hR⟩, -, -, -, hk, -, -⟩ := hp0
  obtain ⟨Ax, cx, rfl, -⟩ := own_sliceN hr
  obtain ⟨Ay, cy, rfl⟩ := hR.slice
  obtain ⟨ac, at', ar, as', an⟩ := a
  have hbx5 := (show Box w5 _ _ _ from (hk.block _ Hlt1.out (by have := H.out.lt.1; omega) (by have := H.out.lt.2; omega) (fun e => by have := (H.out.irow.lt _ e.symm).2; omega)).trans Hbx1.out)
  have Hp := Lib.hid hp
  clear hp hr hR hk
  unfold replyV
  obtain ⟨r0, r1, r2, r3, r4, k0, k1, k2, k3, k4⟩ := box5 hbx5
  obtain ⟨W3, hW3⟩ : ∃ W3, ((((w5.setCell ⟨w.heap.size + 1, 0, none⟩ (.int .i64 ac)).setCell ⟨w.heap.size + 1, 1, none⟩ (.bool at')).setCell ⟨w.heap.size + 1, 2, none⟩ (.slice Ax ar.length cx)).setCell ⟨w.heap.size + 1, 3, none⟩ (.slice Ay as'.length cy)).setCell ⟨w.heap.size + 1, 4, none⟩ (.int .i64 an) = W3 := ⟨_, rfl⟩
  obtain ⟨p0, p1, p2, p3, p4, -⟩ := box5 (box5_store hbx5 hW3)
  have Hend := Lib.hid (do_end H.out Hbw.out rfl Hlt1.out Hbx1.out Hp.out hW3)
  clear hbx5
  go_wp2
  refine bodyPost_ret (v := replyV ac at' (.slice Ax ar.length cx) (.slice Ay as'.length cy) an) ?_ rfl Hend.out
  simp [results, Tryz.results17, go_sem, replyV, p0, p1, p2, p3, p4]
set_option maxRecDepth 100000 in
set_option maxHeartbeats 3200000 in
theorem do_k6 (h : Store w B sb mb ix E X d) (C : Nat) (hC : C ≤ w.heap.size) (key to : ByteArray) (rc old low high : List TVal) (id lim sp nd : Int) (fs : List Int) (Ar Ao Af Al Ah : Option Addr) (nr cr no co nf cf nl cl nh ch : Nat)
    (ho : OpIs w C (.agg #[.int .i64 6, .string key, .string to, .slice Ar nr cr, .slice Ao no co, .int .i64 id, .slice Af nf cf, .slice Al nl cl, .slice Ah nh ch, .int .i64 lim, .int .i64 sp, .int .i64 nd]) ⟨6, key, to, rc, old, id, fs, low, high, lim, sp, nd⟩) (hz : checkT ⟨6, key, to, rc, old, id, fs, low, high, lim, sp, nd⟩ = 0) {M : Kv (List TVal)} {I : List (Int × List Int)} {n : Nat} {a : Ans}
    (hm : ∀ w1, Below w.heap.size w w1 → Calls Tryz.prog 43 #[.pointer (some ⟨sb, 0, none⟩), .int .i64 id, .slice Al nl cl, .slice Ah nh ch, .int .i64 lim] w1 (DoPost B sb mb ix E M I n a w1)) :
    Calls Tryz.prog 17 #[.pointer (some ⟨sb, 0, none⟩), .agg #[.int .i64 6, .string key, .string to, .slice Ar nr cr, .slice Ao no co, .int .i64 id, .slice Af nf cf, .slice Al nl cl, .slice Ah nh ch, .int .i64 lim, .int .i64 sp, .int .i64 nd]] w (DoPost B sb mb ix E M I n a w) := by
  obtain ⟨w00, hw00⟩ : ∃ w00, w.alloc (.cells #[.int .i64 6, .string key, .string to, .slice Ar nr cr, .slice Ao no co, .int .i64 id, .slice Af nf cf, .slice Al nl cl, .slice Ah nh ch, .int .i64 lim, .int .i64 sp, .int .i64 nd] 26) = w00 := ⟨_, rfl⟩
  have hb00 : Below w.heap.size w w00 := hw00 ▸ below_alloc _ _
  have hbo0 : Box w00 w.heap.size 26 #[.int .i64 6, .string key, .string to, .slice Ar nr cr, .slice Ao no co, .int .i64 id, .slice Af nf cf, .slice Al nl cl, .slice Ah nh ch, .int .i64 lim, .int .i64 sp, .int .i64 nd] := hw00 ▸ Box.made _ _ _
  have hs00 : w00.heap.size = w.heap.size + 1 := by rw [← hw00]; simp
  obtain ⟨w0, hw0⟩ : ∃ w0, w00.alloc (.cells #[.int .i64 0, .bool false, .slice none 0 0, .slice none 0 0, .int .i64 0] 40) = w0 := ⟨_, rfl⟩
  have hb0 : Below w.heap.size w w0 := Below.then hb00 (hw0 ▸ below_alloc _ _)
  have hbx : Box w0 (w.heap.size + 1) 40 #[.int .i64 0, .bool false, .slice none 0 0, .slice none 0 0, .int .i64 0] := hw0 ▸ made_at hs00 _ _
  have hbo : Box w0 w.heap.size 26 #[.int .i64 6, .string key, .string to, .slice Ar nr cr, .slice Ao no co, .int .i64 id, .slice Af nf cf, .slice Al nl cl, .slice Ah nh ch, .int .i64 lim, .int .i64 sp, .int .i64 nd] := hw0 ▸ hbo0.alloc _
  have hsz : w0.heap.size = w.heap.size + 1 + 1 := by rw [← hw0]; simp [hs00]
  have hchk := plainCheck_any _ _ C w0 (Nat.le_trans hC hb0.size) (ho.belowOf hb0 hC)
  have e0 := hbo.cell 0; have e1 := hbo.cell 1; have e2 := hbo.cell 2; have e3 := hbo.cell 3; have e4 := hbo.cell 4; have e5 := hbo.cell 5
  have e6 := hbo.cell 6; have e7 := hbo.cell 7; have e8 := hbo.cell 8; have e9 := hbo.cell 9; have e10 := hbo.cell 10; have e11 := hbo.cell 11
  have H := Lib.hid h
  have Hbx := Lib.hid hbx
  have Hbo := Lib.hid hbo
  have Hb0 := Lib.hid hb0
  have Hsz := Lib.hid hsz
  have Hchk := Lib.hid hchk
  clear hbo hbo0 hb00 hb0 hbx hsz hchk h ho
  have Hm := Lib.hid hm
  clear hm
  rw [hz] at Hchk
  go_enter Tryz.func17, Tryz.ntmps17
  go_wp2_with fail
  refine Hchk.out.mono ?_
  rintro e w1 ⟨rfl, hb1⟩
  have hbo1 := Hbo.out.below hb1 Hbo.out.lt
  have a0 := hbo1.cell 0
  have a5 := hbo1.cell 5
  have a7 := hbo1.cell 7
  have a8 := hbo1.cell 8
  have a9 := hbo1.cell 9
  have Hb1 := Lib.hid hb1
  have Hbw := Lib.hid (Below.trans Hb0.out (hb1.mono (by rw [Hsz.out]; omega)))
  have Hbx1 := Lib.hid (Hbx.out.below hb1 Hbx.out.lt)
  have Hlt1 : Hid (w.heap.size + 1 < w1.heap.size) := Lib.hid (by have := hb1.size; have := Hsz.out; omega)
  clear hbo1 hb1
  go_wp2_with fail
  refine (Hm.out _ Hbw.out).mono ?_
  rintro e w5 hp
  have hp0 := hp
  obtain ⟨v, ix', E', X', rfl, ⟨rv, sv, rfl, hr, hR⟩, -, -, -, hk, -, -⟩ := hp0
  obtain ⟨Ax, cx, rfl, -⟩ := own_sliceN hr
  obtain ⟨Ay, cy, rfl⟩ := hR.slice
  obtain ⟨ac, at', ar, as', an⟩ := a
  have hbx5 := (show Box w5 _ _ _ from (hk.block _ Hlt1.out (by have := H.out.lt.1; omega) (by have := H.out.lt.2; omega) (fun e => by have := (H.out.irow.lt _ e.symm).2; omega)).trans Hbx1.out)
  have Hp := Lib.hid hp
  clear hp hr hR hk
  unfold replyV
  obtain ⟨r0, r1, r2, r3, r4, k0, k1, k2, k3, k4⟩ := box5 hbx5
  obtain ⟨W3, hW3⟩ : ∃ W3, ((((w5.setCell ⟨w.heap.size + 1, 0, none⟩ (.int .i64 ac)).setCell ⟨w.heap.size + 1, 1, none⟩ (.bool at')).setCell ⟨w.heap.size + 1, 2, none⟩ (.slice Ax ar.length cx)).setCell ⟨w.heap.size + 1, 3, none⟩ (.slice Ay as'.length cy)).setCell ⟨w.heap.size + 1, 4, none⟩ (.int .i64 an) = W3 := ⟨_, rfl⟩
  obtain ⟨p0, p1, p2, p3, p4, -⟩ := box5 (box5_store hbx5 hW3)
  have Hend := Lib.hid (do_end H.out Hbw.out rfl Hlt1.out Hbx1.out Hp.out hW3)
  clear hbx5
  go_wp2
  refine bodyPost_ret (v := replyV ac at' (.slice Ax ar.length cx) (.slice Ay as'.length cy) an) ?_ rfl Hend.out
  simp [results, Tryz.results17, go_sem, replyV, p0, p1, p2, p3, p4]
set_option maxRecDepth 100000 in
set_option maxHeartbeats 3200000 in
theorem do_k7 (h : Store w B sb mb ix E X d) (C : Nat) (hC : C ≤ w.heap.size) (key to : ByteArray) (rc old low high : List TVal) (id lim sp nd : Int) (fs : List Int) (Ar Ao Af Al Ah : Option Addr) (nr cr no co nf cf nl cl nh ch : Nat)
    (ho : OpIs w C (.agg #[.int .i64 7, .string key, .string to, .slice Ar nr cr, .slice Ao no co, .int .i64 id, .slice Af nf cf, .slice Al nl cl, .slice Ah nh ch, .int .i64 lim, .int .i64 sp, .int .i64 nd]) ⟨7, key, to, rc, old, id, fs, low, high, lim, sp, nd⟩) (hz : checkT ⟨7, key, to, rc, old, id, fs, low, high, lim, sp, nd⟩ = 0) {M : Kv (List TVal)} {I : List (Int × List Int)} {n : Nat} {a : Ans}
    (hm : ∀ w1, Below w.heap.size w w1 → Calls Tryz.prog 44 #[.pointer (some ⟨sb, 0, none⟩), .slice Af nf cf] w1 (DoPost B sb mb ix E M I n a w1)) :
    Calls Tryz.prog 17 #[.pointer (some ⟨sb, 0, none⟩), .agg #[.int .i64 7, .string key, .string to, .slice Ar nr cr, .slice Ao no co, .int .i64 id, .slice Af nf cf, .slice Al nl cl, .slice Ah nh ch, .int .i64 lim, .int .i64 sp, .int .i64 nd]] w (DoPost B sb mb ix E M I n a w) := by
  obtain ⟨w00, hw00⟩ : ∃ w00, w.alloc (.cells #[.int .i64 7, .string key, .string to, .slice Ar nr cr, .slice Ao no co, .int .i64 id, .slice Af nf cf, .slice Al nl cl, .slice Ah nh ch, .int .i64 lim, .int .i64 sp, .int .i64 nd] 26) = w00 := ⟨_, rfl⟩
  have hb00 : Below w.heap.size w w00 := hw00 ▸ below_alloc _ _
  have hbo0 : Box w00 w.heap.size 26 #[.int .i64 7, .string key, .string to, .slice Ar nr cr, .slice Ao no co, .int .i64 id, .slice Af nf cf, .slice Al nl cl, .slice Ah nh ch, .int .i64 lim, .int .i64 sp, .int .i64 nd] := hw00 ▸ Box.made _ _ _
  have hs00 : w00.heap.size = w.heap.size + 1 := by rw [← hw00]; simp
  obtain ⟨w0, hw0⟩ : ∃ w0, w00.alloc (.cells #[.int .i64 0, .bool false, .slice none 0 0, .slice none 0 0, .int .i64 0] 40) = w0 := ⟨_, rfl⟩
  have hb0 : Below w.heap.size w w0 := Below.then hb00 (hw0 ▸ below_alloc _ _)
  have hbx : Box w0 (w.heap.size + 1) 40 #[.int .i64 0, .bool false, .slice none 0 0, .slice none 0 0, .int .i64 0] := hw0 ▸ made_at hs00 _ _
  have hbo : Box w0 w.heap.size 26 #[.int .i64 7, .string key, .string to, .slice Ar nr cr, .slice Ao no co, .int .i64 id, .slice Af nf cf, .slice Al nl cl, .slice Ah nh ch, .int .i64 lim, .int .i64 sp, .int .i64 nd] := hw0 ▸ hbo0.alloc _
  have hsz : w0.heap.size = w.heap.size + 1 + 1 := by rw [← hw0]; simp [hs00]
  have hchk := plainCheck_any _ _ C w0 (Nat.le_trans hC hb0.size) (ho.belowOf hb0 hC)
  have e0 := hbo.cell 0; have e1 := hbo.cell 1; have e2 := hbo.cell 2; have e3 := hbo.cell 3; have e4 := hbo.cell 4; have e5 := hbo.cell 5
  have e6 := hbo.cell 6; have e7 := hbo.cell 7; have e8 := hbo.cell 8; have e9 := hbo.cell 9; have e10 := hbo.cell 10; have e11 := hbo.cell 11
  have H := Lib.hid h
  have Hbx := Lib.hid hbx
  have Hbo := Lib.hid hbo
  have Hb0 := Lib.hid hb0
  have Hsz := Lib.hid hsz
  have Hchk := Lib.hid hchk
  clear hbo hbo0 hb00 hb0 hbx hsz hchk h ho
  have Hm := Lib.hid hm
  clear hm
  rw [hz] at Hchk
  go_enter Tryz.func17, Tryz.ntmps17
  go_wp2_with fail
  refine Hchk.out.mono ?_
  rintro e w1 ⟨rfl, hb1⟩
  have hbo1 := Hbo.out.below hb1 Hbo.out.lt
  have a0 := hbo1.cell 0
  have a6 := hbo1.cell 6
  have Hb1 := Lib.hid hb1
  have Hbw := Lib.hid (Below.trans Hb0.out (hb1.mono (by rw [Hsz.out]; omega)))
  have Hbx1 := Lib.hid (Hbx.out.below hb1 Hbx.out.lt)
  have Hlt1 : Hid (w.heap.size + 1 < w1.heap.size) := Lib.hid (by have := hb1.size; have := Hsz.out; omega)
  clear hbo1 hb1
  go_wp2_with fail
  refine (Hm.out _ Hbw.out).mono ?_
  rintro e w5 hp
  have hp0 := hp
  obtain ⟨v, ix', E', X', rfl, ⟨rv, sv, rfl, hr, hR⟩, -, -, -, hk, -, -⟩ := hp0
  obtain ⟨Ax, cx, rfl, -⟩ := own_sliceN hr
  obtain ⟨Ay, cy, rfl⟩ := hR.slice
  obtain ⟨ac, at', ar, as', an⟩ := a
  have hbx5 := (show Box w5 _ _ _ from (hk.block _ Hlt1.out (by have := H.out.lt.1; omega) (by have := H.out.lt.2; omega) (fun e => by have := (H.out.irow.lt _ e.symm).2; omega)).trans Hbx1.out)
  have Hp := Lib.hid hp
  clear hp hr hR hk
  unfold replyV
  obtain ⟨r0, r1, r2, r3, r4, k0, k1, k2, k3, k4⟩ := box5 hbx5
  obtain ⟨W3, hW3⟩ : ∃ W3, ((((w5.setCell ⟨w.heap.size + 1, 0, none⟩ (.int .i64 ac)).setCell ⟨w.heap.size + 1, 1, none⟩ (.bool at')).setCell ⟨w.heap.size + 1, 2, none⟩ (.slice Ax ar.length cx)).setCell ⟨w.heap.size + 1, 3, none⟩ (.slice Ay as'.length cy)).setCell ⟨w.heap.size + 1, 4, none⟩ (.int .i64 an) = W3 := ⟨_, rfl⟩
  obtain ⟨p0, p1, p2, p3, p4, -⟩ := box5 (box5_store hbx5 hW3)
  have Hend := Lib.hid (do_end H.out Hbw.out rfl Hlt1.out Hbx1.out Hp.out hW3)
  clear hbx5
  go_wp2
  refine bodyPost_ret (v := replyV ac at' (.slice Ax ar.length cx) (.slice Ay as'.length cy) an) ?_ rfl Hend.out
  simp [results, Tryz.results17, go_sem, replyV, p0, p1, p2, p3, p4]
set_option maxRecDepth 100000 in
set_option maxHeartbeats 3200000 in
theorem do_k8 (h : Store w B sb mb ix E X d) (C : Nat) (hC : C ≤ w.heap.size) (key to : ByteArray) (rc old low high : List TVal) (id lim sp nd : Int) (fs : List Int) (Ar Ao Af Al Ah : Option Addr) (nr cr no co nf cf nl cl nh ch : Nat)
    (ho : OpIs w C (.agg #[.int .i64 8, .string key, .string to, .slice Ar nr cr, .slice Ao no co, .int .i64 id, .slice Af nf cf, .slice Al nl cl, .slice Ah nh ch, .int .i64 lim, .int .i64 sp, .int .i64 nd]) ⟨8, key, to, rc, old, id, fs, low, high, lim, sp, nd⟩) (hz : checkT ⟨8, key, to, rc, old, id, fs, low, high, lim, sp, nd⟩ = 0) {M : Kv (List TVal)} {I : List (Int × List Int)} {n : Nat} {a : Ans}
    (hm : ∀ w1, Below w.heap.size w w1 → Calls Tryz.prog 45 #[.pointer (some ⟨sb, 0, none⟩), .int .i64 id] w1 (DoPost B sb mb ix E M I n a w1)) :
    Calls Tryz.prog 17 #[.pointer (some ⟨sb, 0, none⟩), .agg #[.int .i64 8, .string key, .string to, .slice Ar nr cr, .slice Ao no co, .int .i64 id, .slice Af nf cf, .slice Al nl cl, .slice Ah nh ch, .int .i64 lim, .int .i64 sp, .int .i64 nd]] w (DoPost B sb mb ix E M I n a w) := by
  obtain ⟨w00, hw00⟩ : ∃ w00, w.alloc (.cells #[.int .i64 8, .string key, .string to, .slice Ar nr cr, .slice Ao no co, .int .i64 id, .slice Af nf cf, .slice Al nl cl, .slice Ah nh ch, .int .i64 lim, .int .i64 sp, .int .i64 nd] 26) = w00 := ⟨_, rfl⟩
  have hb00 : Below w.heap.size w w00 := hw00 ▸ below_alloc _ _
  have hbo0 : Box w00 w.heap.size 26 #[.int .i64 8, .string key, .string to, .slice Ar nr cr, .slice Ao no co, .int .i64 id, .slice Af nf cf, .slice Al nl cl, .slice Ah nh ch, .int .i64 lim, .int .i64 sp, .int .i64 nd] := hw00 ▸ Box.made _ _ _
  have hs00 : w00.heap.size = w.heap.size + 1 := by rw [← hw00]; simp
  obtain ⟨w0, hw0⟩ : ∃ w0, w00.alloc (.cells #[.int .i64 0, .bool false, .slice none 0 0, .slice none 0 0, .int .i64 0] 40) = w0 := ⟨_, rfl⟩
  have hb0 : Below w.heap.size w w0 := Below.then hb00 (hw0 ▸ below_alloc _ _)
  have hbx : Box w0 (w.heap.size + 1) 40 #[.int .i64 0, .bool false, .slice none 0 0, .slice none 0 0, .int .i64 0] := hw0 ▸ made_at hs00 _ _
  have hbo : Box w0 w.heap.size 26 #[.int .i64 8, .string key, .string to, .slice Ar nr cr, .slice Ao no co, .int .i64 id, .slice Af nf cf, .slice Al nl cl, .slice Ah nh ch, .int .i64 lim, .int .i64 sp, .int .i64 nd] := hw0 ▸ hbo0.alloc _
  have hsz : w0.heap.size = w.heap.size + 1 + 1 := by rw [← hw0]; simp [hs00]
  have hchk := plainCheck_any _ _ C w0 (Nat.le_trans hC hb0.size) (ho.belowOf hb0 hC)
  have e0 := hbo.cell 0; have e1 := hbo.cell 1; have e2 := hbo.cell 2; have e3 := hbo.cell 3; have e4 := hbo.cell 4; have e5 := hbo.cell 5
  have e6 := hbo.cell 6; have e7 := hbo.cell 7; have e8 := hbo.cell 8; have e9 := hbo.cell 9; have e10 := hbo.cell 10; have e11 := hbo.cell 11
  have H := Lib.hid h
  have Hbx := Lib.hid hbx
  have Hbo := Lib.hid hbo
  have Hb0 := Lib.hid hb0
  have Hsz := Lib.hid hsz
  have Hchk := Lib.hid hchk
  clear hbo hbo0 hb00 hb0 hbx hsz hchk h ho
  have Hm := Lib.hid hm
  clear hm
  rw [hz] at Hchk
  go_enter Tryz.func17, Tryz.ntmps17
  go_wp2_with fail
  refine Hchk.out.mono ?_
  rintro e w1 ⟨rfl, hb1⟩
  have hbo1 := Hbo.out.below hb1 Hbo.out.lt
  have a0 := hbo1.cell 0
  have a5 := hbo1.cell 5
  have Hb1 := Lib.hid hb1
  have Hbw := Lib.hid (Below.trans Hb0.out (hb1.mono (by rw [Hsz.out]; omega)))
  have Hbx1 := Lib.hid (Hbx.out.below hb1 Hbx.out.lt)
  have Hlt1 : Hid (w.heap.size + 1 < w1.heap.size) := Lib.hid (by have := hb1.size; have := Hsz.out; omega)
  clear hbo1 hb1
  go_wp2_with fail
  refine (Hm.out _ Hbw.out).mono ?_
  rintro e w5 hp
  have hp0 := hp
  obtain ⟨v, ix', E', X', rfl, ⟨rv, sv, rfl, hr, hR⟩, -, -, -, hk, -, -⟩ := hp0
  obtain ⟨Ax, cx, rfl, -⟩ := own_sliceN hr
  obtain ⟨Ay, cy, rfl⟩ := hR.slice
  obtain ⟨ac, at', ar, as', an⟩ := a
  have hbx5 := (show Box w5 _ _ _ from (hk.block _ Hlt1.out (by have := H.out.lt.1; omega) (by have := H.out.lt.2; omega) (fun e => by have := (H.out.irow.lt _ e.symm).2; omega)).trans Hbx1.out)
  have Hp := Lib.hid hp
  clear hp hr hR hk
  unfold replyV
  obtain ⟨r0, r1, r2, r3, r4, k0, k1, k2, k3, k4⟩ := box5 hbx5
  obtain ⟨W3, hW3⟩ : ∃ W3, ((((w5.setCell ⟨w.heap.size + 1, 0, none⟩ (.int .i64 ac)).setCell ⟨w.heap.size + 1, 1, none⟩ (.bool at')).setCell ⟨w.heap.size + 1, 2, none⟩ (.slice Ax ar.length cx)).setCell ⟨w.heap.size + 1, 3, none⟩ (.slice Ay as'.length cy)).setCell ⟨w.heap.size + 1, 4, none⟩ (.int .i64 an) = W3 := ⟨_, rfl⟩
  obtain ⟨p0, p1, p2, p3, p4, -⟩ := box5 (box5_store hbx5 hW3)
  have Hend := Lib.hid (do_end H.out Hbw.out rfl Hlt1.out Hbx1.out Hp.out hW3)
  clear hbx5
  go_wp2
  refine bodyPost_ret (v := replyV ac at' (.slice Ax ar.length cx) (.slice Ay as'.length cy) an) ?_ rfl Hend.out
  simp [results, Tryz.results17, go_sem, replyV, p0, p1, p2, p3, p4]
set_option maxRecDepth 100000 in
set_option maxHeartbeats 3200000 in
theorem do_err (h : Store w B sb mb ix E X d) (C : Nat) (hC : C ≤ w.heap.size) (K : Int) (key to : ByteArray) (rc old low high : List TVal) (id lim sp nd : Int) (fs : List Int) (Ar Ao Af Al Ah : Option Addr) (nr cr no co nf cf nl cl nh ch : Nat)
    (ho : OpIs w C (.agg #[.int .i64 K, .string key, .string to, .slice Ar nr cr, .slice Ao no co, .int .i64 id, .slice Af nf cf, .slice Al nl cl, .slice Ah nh ch, .int .i64 lim, .int .i64 sp, .int .i64 nd]) ⟨K, key, to, rc, old, id, fs, low, high, lim, sp, nd⟩) (hz : ¬ checkT ⟨K, key, to, rc, old, id, fs, low, high, lim, sp, nd⟩ = 0) :
    Calls Tryz.prog 17 #[.pointer (some ⟨sb, 0, none⟩), .agg #[.int .i64 K, .string key, .string to, .slice Ar nr cr, .slice Ao no co, .int .i64 id, .slice Af nf cf, .slice Al nl cl, .slice Ah nh ch, .int .i64 lim, .int .i64 sp, .int .i64 nd]] w (DoPost B sb mb ix E (mapK (·.2) E) (X.map xi) d ⟨(checkT ⟨K, key, to, rc, old, id, fs, low, high, lim, sp, nd⟩ : Int), false, [], [], 0⟩ w) := by
  obtain ⟨w00, hw00⟩ : ∃ w00, w.alloc (.cells #[.int .i64 K, .string key, .string to, .slice Ar nr cr, .slice Ao no co, .int .i64 id, .slice Af nf cf, .slice Al nl cl, .slice Ah nh ch, .int .i64 lim, .int .i64 sp, .int .i64 nd] 26) = w00 := ⟨_, rfl⟩
  have hb00 : Below w.heap.size w w00 := hw00 ▸ below_alloc _ _
  have hbo0 : Box w00 w.heap.size 26 #[.int .i64 K, .string key, .string to, .slice Ar nr cr, .slice Ao no co, .int .i64 id, .slice Af nf cf, .slice Al nl cl, .slice Ah nh ch, .int .i64 lim, .int .i64 sp, .int .i64 nd] := hw00 ▸ Box.made _ _ _
  have hs00 : w00.heap.size = w.heap.size + 1 := by rw [← hw00]; simp
  obtain ⟨w0, hw0⟩ : ∃ w0, w00.alloc (.cells #[.int .i64 0, .bool false, .slice none 0 0, .slice none 0 0, .int .i64 0] 40) = w0 := ⟨_, rfl⟩
  have hb0 : Below w.heap.size w w0 := Below.then hb00 (hw0 ▸ below_alloc _ _)
  have hbx : Box w0 (w.heap.size + 1) 40 #[.int .i64 0, .bool false, .slice none 0 0, .slice none 0 0, .int .i64 0] := hw0 ▸ made_at hs00 _ _
  have hbo : Box w0 w.heap.size 26 #[.int .i64 K, .string key, .string to, .slice Ar nr cr, .slice Ao no co, .int .i64 id, .slice Af nf cf, .slice Al nl cl, .slice Ah nh ch, .int .i64 lim, .int .i64 sp, .int .i64 nd] := hw0 ▸ hbo0.alloc _
  have hsz : w0.heap.size = w.heap.size + 1 + 1 := by rw [← hw0]; simp [hs00]
  have hchk := plainCheck_any _ _ C w0 (Nat.le_trans hC hb0.size) (ho.belowOf hb0 hC)
  have e0 := hbo.cell 0; have e1 := hbo.cell 1; have e2 := hbo.cell 2; have e3 := hbo.cell 3; have e4 := hbo.cell 4; have e5 := hbo.cell 5
  have e6 := hbo.cell 6; have e7 := hbo.cell 7; have e8 := hbo.cell 8; have e9 := hbo.cell 9; have e10 := hbo.cell 10; have e11 := hbo.cell 11
  have H := Lib.hid h
  have Hbx := Lib.hid hbx
  have Hbo := Lib.hid hbo
  have Hb0 := Lib.hid hb0
  have Hsz := Lib.hid hsz
  have Hchk := Lib.hid hchk
  clear hbo hbo0 hb00 hb0 hbx hsz hchk h ho
  generalize checkT ⟨K, key, to, rc, old, id, fs, low, high, lim, sp, nd⟩ = c at hz Hchk ⊢
  have hcb : ((c : Int) != 0) = true := by simpa using hz
  clear hz
  go_enter Tryz.func17, Tryz.ntmps17
  go_wp2_with fail
  refine Hchk.out.mono ?_
  rintro e w1 ⟨rfl, hb1⟩
  have hbo1 := Hbo.out.below hb1 Hbo.out.lt
  have a0 := hbo1.cell 0
  have Hb1 := Lib.hid hb1
  have Hbw := Lib.hid (Below.trans Hb0.out (hb1.mono (by rw [Hsz.out]; omega)))
  have Hbx1 := Lib.hid (Hbx.out.below hb1 Hbx.out.lt)
  have Hlt1 : Hid (w.heap.size + 1 < w1.heap.size) := Lib.hid (by have := hb1.size; have := Hsz.out; omega)
  clear hbo1 hb1
  have Hp := Lib.hid (do_same (H.out.below Hbw.out) (ans_plain w1 w1.heap.size (c : Int) false 0) (Below.refl _ w1))
  have hbx5 := Hbx1.out
  obtain ⟨r0, r1, r2, r3, r4, k0, k1, k2, k3, k4⟩ := box5 hbx5
  obtain ⟨W3, hW3⟩ : ∃ W3, ((((w1.setCell ⟨w.heap.size + 1, 0, none⟩ (.int .i64 (c : Int))).setCell ⟨w.heap.size + 1, 1, none⟩ (.bool false)).setCell ⟨w.heap.size + 1, 2, none⟩ (.slice none 0 0)).setCell ⟨w.heap.size + 1, 3, none⟩ (.slice none 0 0)).setCell ⟨w.heap.size + 1, 4, none⟩ (.int .i64 0) = W3 := ⟨_, rfl⟩
  obtain ⟨p0, p1, p2, p3, p4, -⟩ := box5 (box5_store hbx5 hW3)
  have Hend := Lib.hid (do_end H.out Hbw.out rfl Hlt1.out Hbx1.out Hp.out hW3)
  clear hbx5
  go_wp2
  refine bodyPost_ret (v := replyV (c : Int) false (.slice none 0 0) (.slice none 0 0) 0) ?_ rfl Hend.out
  simp [results, Tryz.results17, go_sem, replyV, p0, p1, p2, p3, p4]
set_option maxRecDepth 100000 in
set_option maxHeartbeats 3200000 in
theorem do_other (h : Store w B sb mb ix E X d) (C : Nat) (hC : C ≤ w.heap.size) (K : Int) (key to : ByteArray) (rc old low high : List TVal) (id lim sp nd : Int) (fs : List Int) (Ar Ao Af Al Ah : Option Addr) (nr cr no co nf cf nl cl nh ch : Nat)
    (ho : OpIs w C (.agg #[.int .i64 K, .string key, .string to, .slice Ar nr cr, .slice Ao no co, .int .i64 id, .slice Af nf cf, .slice Al nl cl, .slice Ah nh ch, .int .i64 lim, .int .i64 sp, .int .i64 nd]) ⟨K, key, to, rc, old, id, fs, low, high, lim, sp, nd⟩) (hz : checkT ⟨K, key, to, rc, old, id, fs, low, high, lim, sp, nd⟩ = 0) (hk : 8 < K) :
    Calls Tryz.prog 17 #[.pointer (some ⟨sb, 0, none⟩), .agg #[.int .i64 K, .string key, .string to, .slice Ar nr cr, .slice Ao no co, .int .i64 id, .slice Af nf cf, .slice Al nl cl, .slice Ah nh ch, .int .i64 lim, .int .i64 sp, .int .i64 nd]] w (DoPost B sb mb ix E (mapK (·.2) E) (X.map xi) d ⟨0, false, [], [], 0⟩ w) := by
  obtain ⟨w00, hw00⟩ : ∃ w00, w.alloc (.cells #[.int .i64 K, .string key, .string to, .slice Ar nr cr, .slice Ao no co, .int .i64 id, .slice Af nf cf, .slice Al nl cl, .slice Ah nh ch, .int .i64 lim, .int .i64 sp, .int .i64 nd] 26) = w00 := ⟨_, rfl⟩
  have hb00 : Below w.heap.size w w00 := hw00 ▸ below_alloc _ _
  have hbo0 : Box w00 w.heap.size 26 #[.int .i64 K, .string key, .string to, .slice Ar nr cr, .slice Ao no co, .int .i64 id, .slice Af nf cf, .slice Al nl cl, .slice Ah nh ch, .int .i64 lim, .int .i64 sp, .int .i64 nd] := hw00 ▸ Box.made _ _ _
  have hs00 : w00.heap.size = w.heap.size + 1 := by rw [← hw00]; simp
  obtain ⟨w0, hw0⟩ : ∃ w0, w00.alloc (.cells #[.int .i64 0, .bool false, .slice none 0 0, .slice none 0 0, .int .i64 0] 40) = w0 := ⟨_, rfl⟩
  have hb0 : Below w.heap.size w w0 := Below.then hb00 (hw0 ▸ below_alloc _ _)
  have hbx : Box w0 (w.heap.size + 1) 40 #[.int .i64 0, .bool false, .slice none 0 0, .slice none 0 0, .int .i64 0] := hw0 ▸ made_at hs00 _ _
  have hbo : Box w0 w.heap.size 26 #[.int .i64 K, .string key, .string to, .slice Ar nr cr, .slice Ao no co, .int .i64 id, .slice Af nf cf, .slice Al nl cl, .slice Ah nh ch, .int .i64 lim, .int .i64 sp, .int .i64 nd] := hw0 ▸ hbo0.alloc _
  have hsz : w0.heap.size = w.heap.size + 1 + 1 := by rw [← hw0]; simp [hs00]
  have hchk := plainCheck_any _ _ C w0 (Nat.le_trans hC hb0.size) (ho.belowOf hb0 hC)
  have e0 := hbo.cell 0; have e1 := hbo.cell 1; have e2 := hbo.cell 2; have e3 := hbo.cell 3; have e4 := hbo.cell 4; have e5 := hbo.cell 5
  have e6 := hbo.cell 6; have e7 := hbo.cell 7; have e8 := hbo.cell 8; have e9 := hbo.cell 9; have e10 := hbo.cell 10; have e11 := hbo.cell 11
  have H := Lib.hid h
  have Hbx := Lib.hid hbx
  have Hbo := Lib.hid hbo
  have Hb0 := Lib.hid hb0
  have Hsz := Lib.hid hsz
  have Hchk := Lib.hid hchk
  clear hbo hbo0 hb00 hb0 hbx hsz hchk h ho
  have z1 : (K == 1) = false := by simp; omega
  have z2 : (K == 2) = false := by simp; omega
  have z3 : (K == 3) = false := by simp; omega
  have z4 : (K == 4) = false := by simp; omega
  have z5 : (K == 5) = false := by simp; omega
  have z6 : (K == 6) = false := by simp; omega
  have z7 : (K == 7) = false := by simp; omega
  have z8 : (K == 8) = false := by simp; omega
  clear hk
  rw [hz] at Hchk
  go_enter Tryz.func17, Tryz.ntmps17
  go_wp2_with fail
  refine Hchk.out.mono ?_
  rintro e w1 ⟨rfl, hb1⟩
  have hbo1 := Hbo.out.below hb1 Hbo.out.lt
  have a0 := hbo1.cell 0
  have Hb1 := Lib.hid hb1
  have Hbw := Lib.hid (Below.trans Hb0.out (hb1.mono (by rw [Hsz.out]; omega)))
  have Hbx1 := Lib.hid (Hbx.out.below hb1 Hbx.out.lt)
  have Hlt1 : Hid (w.heap.size + 1 < w1.heap.size) := Lib.hid (by have := hb1.size; have := Hsz.out; omega)
  clear hbo1 hb1
  have Hp := Lib.hid (do_same (H.out.below Hbw.out) (ans_plain w1 w1.heap.size 0 false 0) (Below.refl _ w1))
  have hbx5 := Hbx1.out
  obtain ⟨r0, r1, r2, r3, r4, k0, k1, k2, k3, k4⟩ := box5 hbx5
  obtain ⟨W3, hW3⟩ : ∃ W3, ((((w1.setCell ⟨w.heap.size + 1, 0, none⟩ (.int .i64 0)).setCell ⟨w.heap.size + 1, 1, none⟩ (.bool false)).setCell ⟨w.heap.size + 1, 2, none⟩ (.slice none 0 0)).setCell ⟨w.heap.size + 1, 3, none⟩ (.slice none 0 0)).setCell ⟨w.heap.size + 1, 4, none⟩ (.int .i64 0) = W3 := ⟨_, rfl⟩
  obtain ⟨p0, p1, p2, p3, p4, -⟩ := box5 (box5_store hbx5 hW3)
  have Hend := Lib.hid (do_end H.out Hbw.out rfl Hlt1.out Hbx1.out Hp.out hW3)
  clear hbx5
  go_wp2
  refine bodyPost_ret (v := replyV 0 false (.slice none 0 0) (.slice none 0 0) 0) ?_ rfl Hend.out
  simp [results, Tryz.results17, go_sem, replyV, p0, p1, p2, p3, p4]
end
end Go.Proofs.YtfaenejcgmnmdaaGreat
