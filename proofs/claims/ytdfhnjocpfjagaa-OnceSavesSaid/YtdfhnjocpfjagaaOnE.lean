/- Package once: Look, Floor, Known. Condition: the table is in memory. -/
import Derived.Test.YtdfhnjocpfjagaaOnD
namespace Go.Proofs.Ytdfhnjocpfjagaa
open Go.RowKit

/-- a reply without rows as an answer, its record in a row of the call's own -/
def ReplyIs (w : World) (B : Nat) (v : Value) (r : Rp) : Prop := ∃ A c, v = .agg #[.int .i64 r.code, .bool r.there, .slice A r.rc.length c, .slice none 0 0, .int .i64 r.id] ∧ OwnVals w B (.slice A r.rc.length c) r.rc
theorem ReplyIs.zero (w : World) (B : Nat) : ReplyIs w B (.agg #[.int .i64 0, .bool false, .slice none 0 0, .slice none 0 0, .int .i64 0]) Rp.zero := ⟨none, 0, rfl, OwnVals.nil _ _⟩
theorem store2 {w W : World} {g : Nat} {t : TypeId} {y0 y1 x0 x1 : Value} (h : Box w g t #[y0, y1]) (hW : (w.setCell ⟨g, 0, none⟩ x0).setCell ⟨g, 1, none⟩ x1 = W) : Box W g t #[x0, x1] ∧ w.grownBy W (some g) ∧ W.heap.size = w.heap.size := by
  subst hW
  have b0 : Box _ g t #[x0, y1] := h.set_ 0 x0
  have tr : ∀ {a b c : World}, a.grownBy b (some g) → b.grownBy c (some g) → a.grownBy c (some g) := fun h1 h2 =>
    ⟨h2.os.trans h1.os, h2.tape.trans h1.tape, h2.output.trans h1.output, Nat.le_trans h1.size h2.size, fun k hk hne => (h2.block k (Nat.lt_of_lt_of_le hk h1.size) hne).trans (h1.block k hk hne)⟩
  exact ⟨b0.set_ 1 x1, tr (grown_set _ g 0 x0) (grown_set _ g 1 x1), by simp⟩
theorem right_small {r : Rp} (h : r.Right) : r.rc.length ≤ 4 ∧ ∀ v ∈ r.rc, v.s.size ≤ 32 := by
  obtain ⟨h1, h2⟩ := rowErr_ok.1 h.2.2
  refine ⟨h1, fun v hv => ?_⟩
  rcases (goodV_iff v).1 (h2 v hv) with ⟨-, -, h3⟩ | ⟨-, h3⟩ | ⟨-, -, h3⟩ <;> have h4 : v.s.size = v.t.length := Lib.size_eq v.s <;> (first | omega | (rw [h3] at h4; simp only [List.length_nil] at h4; omega))
def LookPost (r : Rp × Int) (w : World) (e : Ending) (w' : World) : Prop := ∃ v, e = .returned (.tuple #[v, .int .i64 r.2]) ∧ ReplyIs w' w.heap.size v r.1 ∧ Below w.heap.size w w'
theorem look_bad {w w' : World} {c n : Int} {T : Tb} (h : badT c n) (hb : Below w.heap.size w w') : LookPost (lookT c n T) w (.returned (.tuple #[.agg #[.int .i64 0, .bool false, .slice none 0 0, .slice none 0 0, .int .i64 0], .int .i64 1])) w' := by
  unfold lookT
  rw [if_pos h]
  exact ⟨_, rfl, ReplyIs.zero _ _, hb⟩
theorem look_old {w w' : World} {c n : Int} {T : Tb} (h : ¬ badT c n) (h2 : n ≤ (getT c T).fl) (hb : Below w.heap.size w w') : LookPost (lookT c n T) w (.returned (.tuple #[.agg #[.int .i64 0, .bool false, .slice none 0 0, .slice none 0 0, .int .i64 0], .int .i64 12])) w' := by
  unfold lookT
  rw [if_neg h, if_pos h2]
  exact ⟨_, rfl, ReplyIs.zero _ _, hb⟩
theorem look_no {w w' : World} {c n : Int} {T : Tb} (h : ¬ badT c n) (h2 : ¬ n ≤ (getT c T).fl) (h3 : getG n (getT c T).E = none) (hb : Below w.heap.size w w') : LookPost (lookT c n T) w (.returned (.tuple #[.agg #[.int .i64 0, .bool false, .slice none 0 0, .slice none 0 0, .int .i64 0], .int .i64 7])) w' := by
  unfold lookT
  rw [if_neg h, if_neg h2, h3]
  exact ⟨_, rfl, ReplyIs.zero _ _, hb⟩
theorem look_yes {w w' : World} {c n : Int} {T : Tb} {r : Rp} {v : Value} (h : ¬ badT c n) (h2 : ¬ n ≤ (getT c T).fl) (h3 : getG n (getT c T).E = some r) (hv : ReplyIs w' w.heap.size v r) (hb : Below w.heap.size w w') : LookPost (lookT c n T) w (.returned (.tuple #[v, .int .i64 0])) w' := by
  unfold lookT
  rw [if_neg h, if_neg h2, h3]
  exact ⟨_, rfl, hv, hb⟩
section
variable {F : Nat → Prop} {w : World} {sb : Nat} {T : Tb}
set_option maxRecDepth 100000 in
set_option maxHeartbeats 6400000 in
theorem onceLook_any (h : TabAt w F sb T) (hT : TGood T) (c n : Int) (hc : (Lit.int .i64 c).wf = true) (hn : (Lit.int .i64 n).wf = true) : Calls Try.prog 50 #[.pointer (some ⟨sb, 0, none⟩), .int .i64 c, .int .i64 n] w (LookPost (lookT c n T) w) := by
  obtain ⟨w1, hw1⟩ : ∃ w1, w.alloc (.cells #[.int .i64 0, .bool false, .slice none 0 0, .slice none 0 0, .int .i64 0] 82) = w1 := ⟨_, rfl⟩
  have hs1 : w1.heap.size = w.heap.size + 1 := by rw [← hw1]; simp
  have bx1 : Box w1 w.heap.size 82 #[.int .i64 0, .bool false, .slice none 0 0, .slice none 0 0, .int .i64 0] := hw1 ▸ Box.made _ _ _
  have bw1 : Below w.heap.size w w1 := hw1 ▸ below_box _
  by_cases hbad : badT c n
  · have hL := fun (w' : World) hb => look_bad (w := w) (w' := w') (T := T) hbad hb
    generalize lookT c n T = r at hL ⊢
    have d0 : w1.cell? ⟨w.heap.size, 0, none⟩ = some (.int .i64 0) := bx1.cell 0
    have d1 : w1.cell? ⟨w.heap.size, 1, none⟩ = some (.bool false) := bx1.cell 1
    have d2 : w1.cell? ⟨w.heap.size, 2, none⟩ = some (.slice none 0 0) := bx1.cell 2
    have d3 : w1.cell? ⟨w.heap.size, 3, none⟩ = some (.slice none 0 0) := bx1.cell 3
    have d4 : w1.cell? ⟨w.heap.size, 4, none⟩ = some (.int .i64 0) := bx1.cell 4
    have f0 : w1.frozen? ⟨w.heap.size, 0, none⟩ = false := bx1.frozen 0
    have f1 : w1.frozen? ⟨w.heap.size, 1, none⟩ = false := bx1.frozen 1
    have f2 : w1.frozen? ⟨w.heap.size, 2, none⟩ = false := bx1.frozen 2
    have f3 : w1.frozen? ⟨w.heap.size, 3, none⟩ = false := bx1.frozen 3
    have f4 : w1.frozen? ⟨w.heap.size, 4, none⟩ = false := bx1.frozen 4
    obtain ⟨W, hW⟩ : ∃ W, (((((w1.setCell ⟨w.heap.size, 0, none⟩ (.int .i64 0)).setCell ⟨w.heap.size, 1, none⟩ (.bool false)).setCell ⟨w.heap.size, 2, none⟩ (.slice none 0 0)).setCell ⟨w.heap.size, 3, none⟩ (.slice none 0 0)).setCell ⟨w.heap.size, 4, none⟩ (.int .i64 0)) = W := ⟨_, rfl⟩
    obtain ⟨bW, gW, -⟩ := store5 bx1 hW
    have g0 : W.cell? ⟨w.heap.size, 0, none⟩ = some (.int .i64 0) := bW.cell 0
    have g1 : W.cell? ⟨w.heap.size, 1, none⟩ = some (.bool false) := bW.cell 1
    have g2 : W.cell? ⟨w.heap.size, 2, none⟩ = some (.slice none 0 0) := bW.cell 2
    have g3 : W.cell? ⟨w.heap.size, 3, none⟩ = some (.slice none 0 0) := bW.cell 3
    have g4 : W.cell? ⟨w.heap.size, 4, none⟩ = some (.int .i64 0) := bW.cell 4
    have HE := Lib.hid (hL W (bw1.grown gW bw1.size (fun g hg => by injection hg with hg; omega)))
    have Hbad := Lib.hid hbad
    clear hbad bx1 bw1 bW gW hL h hs1
    unfold badT at Hbad
    go_enter Try.func50, Try.ntmps50
    by_cases x1 : c < 0
    · go_wp2
      refine bodyPost_ret (v := .tuple #[.agg #[.int .i64 0, .bool false, .slice none 0 0, .slice none 0 0, .int .i64 0], .int .i64 1]) ?_ rfl HE.out
      simp [results, Try.results50, go_sem, g0, g1, g2, g3, g4]
    · by_cases x2 : 1099511627776 < c
      · go_wp2
        refine bodyPost_ret (v := .tuple #[.agg #[.int .i64 0, .bool false, .slice none 0 0, .slice none 0 0, .int .i64 0], .int .i64 1]) ?_ rfl HE.out
        simp [results, Try.results50, go_sem, g0, g1, g2, g3, g4]
      · by_cases x3 : n < 1
        · go_wp2
          refine bodyPost_ret (v := .tuple #[.agg #[.int .i64 0, .bool false, .slice none 0 0, .slice none 0 0, .int .i64 0], .int .i64 1]) ?_ rfl HE.out
          simp [results, Try.results50, go_sem, g0, g1, g2, g3, g4]
        · have x4 : 1099511627776 < n := by have := Hbad.out; omega
          go_wp2
          refine bodyPost_ret (v := .tuple #[.agg #[.int .i64 0, .bool false, .slice none 0 0, .slice none 0 0, .int .i64 0], .int .i64 1]) ?_ rfl HE.out
          simp [results, Try.results50, go_sem, g0, g1, g2, g3, g4]
  have hb4 : ¬ c < 0 ∧ ¬ 1099511627776 < c ∧ ¬ n < 1 ∧ ¬ 1099511627776 < n := by unfold badT at hbad; omega
  obtain ⟨x1, x2, x3, x4⟩ := hb4
  obtain ⟨mb, M, hM, hMT⟩ := h
  have hM1 := hM.below bw1
  obtain ⟨l0, l1⟩ := hM1.look c hc
  have q0 : w1.cell? ⟨sb, 0, none⟩ = some (.map (some mb)) := hM1.cell
  have hgT := getT_pl c M
  rw [hMT] at hgT
  cases hg : getG c M with
  | none =>
    rw [hg] at hgT
    simp only at hgT
    have hl := (l0 hg).2
    have hfl : (getT c T).fl = 0 := by rw [hgT]; rfl
    have x5 : ¬ n ≤ 0 := by omega
    have hL := fun (w' : World) hb => look_no (w := w) (w' := w') (T := T) hbad (by rw [hfl]; exact x5) (by rw [hgT]; rfl) hb
    generalize lookT c n T = r at hL ⊢
    clear l0 l1 hg hgT hfl hT hMT
    obtain ⟨w2, hw2⟩ : ∃ w2, w1.alloc (.cells #[.int .i64 0, .map none] 128) = w2 := ⟨_, rfl⟩
    have p2 : Box w2 (w.heap.size + 1) 128 #[.int .i64 0, .map none] := by have := Box.made w1 128 #[.int .i64 0, .map none]; rwa [hw2, hs1] at this
    have bx2 : Box w2 w.heap.size 82 #[.int .i64 0, .bool false, .slice none 0 0, .slice none 0 0, .int .i64 0] := hw2 ▸ bx1.alloc _
    have bw2 : Below w.heap.size w w2 := hw2 ▸ bw1.alloc bw1.size _
    have u12 : Below w1.heap.size w1 w2 := hw2 ▸ below_box _
    obtain ⟨w3, hw3⟩ : ∃ w3, ((w2.setCell ⟨w.heap.size + 1, 0, none⟩ (.int .i64 0)).setCell ⟨w.heap.size + 1, 1, none⟩ (.map none)) = w3 := ⟨_, rfl⟩
    obtain ⟨p3, gr3, s3⟩ := store2 p2 hw3
    have bx3 := bx2.grown gr3 (fun e => by injection e with e; omega)
    have bw3 := bw2.grown gr3 bw2.size (fun g hg => by injection hg with hg; omega)
    have u13 := u12.grown gr3 u12.size (fun g hg => by injection hg with hg; omega)
    have hs2 : w2.heap.size = w.heap.size + 2 := by rw [← hw2]; simp [hs1]
    have hs3 : w3.heap.size = w.heap.size + 2 := by rw [s3, hs2]
    have a0 : w2.cell? ⟨w.heap.size + 1, 0, none⟩ = some (.int .i64 0) := p2.cell 0
    have a1 : w2.cell? ⟨w.heap.size + 1, 1, none⟩ = some (.map none) := p2.cell 1
    have b0 : w2.frozen? ⟨w.heap.size + 1, 0, none⟩ = false := p2.frozen 0
    have b1 : w2.frozen? ⟨w.heap.size + 1, 1, none⟩ = false := p2.frozen 1
    have m0 : w3.cell? ⟨w.heap.size + 1, 0, none⟩ = some (.int .i64 0) := p3.cell 0
    have m1 : w3.cell? ⟨w.heap.size + 1, 1, none⟩ = some (.map none) := p3.cell 1
    obtain ⟨w4, hw4⟩ : ∃ w4, w3.alloc (.cells #[.int .i64 0, .bool false, .slice none 0 0, .slice none 0 0, .int .i64 0] 82) = w4 := ⟨_, rfl⟩
    have t4 : Box w4 (w.heap.size + 2) 82 #[.int .i64 0, .bool false, .slice none 0 0, .slice none 0 0, .int .i64 0] := by have := Box.made w3 82 #[.int .i64 0, .bool false, .slice none 0 0, .slice none 0 0, .int .i64 0]; rwa [hw4, s3, hs2] at this
    have bx4 : Box w4 w.heap.size 82 #[.int .i64 0, .bool false, .slice none 0 0, .slice none 0 0, .int .i64 0] := hw4 ▸ bx3.alloc _
    have bw4 : Below w.heap.size w w4 := hw4 ▸ bw3.alloc bw3.size _
    obtain ⟨w5, hw5⟩ : ∃ w5, (((((w4.setCell ⟨w.heap.size + 2, 0, none⟩ (.int .i64 0)).setCell ⟨w.heap.size + 2, 1, none⟩ (.bool false)).setCell ⟨w.heap.size + 2, 2, none⟩ (.slice none 0 0)).setCell ⟨w.heap.size + 2, 3, none⟩ (.slice none 0 0)).setCell ⟨w.heap.size + 2, 4, none⟩ (.int .i64 0)) = w5 := ⟨_, rfl⟩
    obtain ⟨t5, gr5, s5⟩ := store5 t4 hw5
    have bx5 := bx4.grown gr5 (fun e => by injection e with e; omega)
    have bw5 := bw4.grown gr5 bw4.size (fun g hg => by injection hg with hg; omega)
    have v0 : w4.cell? ⟨w.heap.size + 2, 0, none⟩ = some (.int .i64 0) := t4.cell 0
    have v1 : w4.cell? ⟨w.heap.size + 2, 1, none⟩ = some (.bool false) := t4.cell 1
    have v2 : w4.cell? ⟨w.heap.size + 2, 2, none⟩ = some (.slice none 0 0) := t4.cell 2
    have v3 : w4.cell? ⟨w.heap.size + 2, 3, none⟩ = some (.slice none 0 0) := t4.cell 3
    have v4 : w4.cell? ⟨w.heap.size + 2, 4, none⟩ = some (.int .i64 0) := t4.cell 4
    have z0 : w4.frozen? ⟨w.heap.size + 2, 0, none⟩ = false := t4.frozen 0
    have z1 : w4.frozen? ⟨w.heap.size + 2, 1, none⟩ = false := t4.frozen 1
    have z2 : w4.frozen? ⟨w.heap.size + 2, 2, none⟩ = false := t4.frozen 2
    have z3 : w4.frozen? ⟨w.heap.size + 2, 3, none⟩ = false := t4.frozen 3
    have z4 : w4.frozen? ⟨w.heap.size + 2, 4, none⟩ = false := t4.frozen 4
    have d0 : w5.cell? ⟨w.heap.size, 0, none⟩ = some (.int .i64 0) := bx5.cell 0
    have d1 : w5.cell? ⟨w.heap.size, 1, none⟩ = some (.bool false) := bx5.cell 1
    have d2 : w5.cell? ⟨w.heap.size, 2, none⟩ = some (.slice none 0 0) := bx5.cell 2
    have d3 : w5.cell? ⟨w.heap.size, 3, none⟩ = some (.slice none 0 0) := bx5.cell 3
    have d4 : w5.cell? ⟨w.heap.size, 4, none⟩ = some (.int .i64 0) := bx5.cell 4
    have f0 : w5.frozen? ⟨w.heap.size, 0, none⟩ = false := bx5.frozen 0
    have f1 : w5.frozen? ⟨w.heap.size, 1, none⟩ = false := bx5.frozen 1
    have f2 : w5.frozen? ⟨w.heap.size, 2, none⟩ = false := bx5.frozen 2
    have f3 : w5.frozen? ⟨w.heap.size, 3, none⟩ = false := bx5.frozen 3
    have f4 : w5.frozen? ⟨w.heap.size, 4, none⟩ = false := bx5.frozen 4
    obtain ⟨W, hW⟩ : ∃ W, (((((w5.setCell ⟨w.heap.size, 0, none⟩ (.int .i64 0)).setCell ⟨w.heap.size, 1, none⟩ (.bool false)).setCell ⟨w.heap.size, 2, none⟩ (.slice none 0 0)).setCell ⟨w.heap.size, 3, none⟩ (.slice none 0 0)).setCell ⟨w.heap.size, 4, none⟩ (.int .i64 0)) = W := ⟨_, rfl⟩
    obtain ⟨bW, gW, -⟩ := store5 bx5 hW
    have g0 : W.cell? ⟨w.heap.size, 0, none⟩ = some (.int .i64 0) := bW.cell 0
    have g1 : W.cell? ⟨w.heap.size, 1, none⟩ = some (.bool false) := bW.cell 1
    have g2 : W.cell? ⟨w.heap.size, 2, none⟩ = some (.slice none 0 0) := bW.cell 2
    have g3 : W.cell? ⟨w.heap.size, 3, none⟩ = some (.slice none 0 0) := bW.cell 3
    have g4 : W.cell? ⟨w.heap.size, 4, none⟩ = some (.int .i64 0) := bW.cell 4
    have HE := Lib.hid (hL W (bw5.grown gW bw5.size (fun g hg => by injection hg with hg; omega)))
    have hnil : (Instr.lookup 126 (.map none) (.int .i64 n) true).run Try.prog w3 = .ok (.tuple #[.agg #[.int .i64 0, .bool false, .slice none 0 0, .slice none 0 0, .int .i64 0], .bool false]) w3 := Maps.look_nil true intKeyed Try.underlying126 (Try.zeroValue82 w3) (Maps.keyOf_int_mk Try.underlying3 hn)
    clear hbad bx1 bw1 bW gW hL p2 bx2 bw2 u12 p3 gr3 s3 bx3 bw3 u13 hs2 hM hM1 t4 bx4 bw4 t5 gr5 s5 bx5 bw5
    go_enter Try.func50, Try.ntmps50
    go_wp2
    refine bodyPost_ret (v := .tuple #[.agg #[.int .i64 0, .bool false, .slice none 0 0, .slice none 0 0, .int .i64 0], .int .i64 7]) ?_ rfl HE.out
    simp [results, Try.results50, go_sem, g0, g1, g2, g3, g4]
  | some p =>
    rw [hg] at hgT
    simp only at hgT
    have hl := (l1 p hg).2
    have hA0 := hM.ans c p hg
    have hA := hM1.ans c p hg
    have hP : PGood p.p := by have := hT.get c; rwa [hgT] at this
    obtain ⟨fl, ab, E⟩ := p
    have hfl : (getT c T).fl = fl := by rw [hgT]; rfl
    have hE : (getT c T).E = plE E := by rw [hgT]; rfl
    simp only at hl hA hA0
    by_cases x5 : n ≤ fl
    · have hL := fun (w' : World) hb => look_old (w := w) (w' := w') (T := T) hbad (by rw [hfl]; exact x5) hb
      generalize lookT c n T = r at hL ⊢
      clear l0 l1 hg hgT hfl hT hMT hA hA0 hP hE
      obtain ⟨w2, hw2⟩ : ∃ w2, w1.alloc (.cells #[.int .i64 0, .map none] 128) = w2 := ⟨_, rfl⟩
      have p2 : Box w2 (w.heap.size + 1) 128 #[.int .i64 0, .map none] := by have := Box.made w1 128 #[.int .i64 0, .map none]; rwa [hw2, hs1] at this
      have bx2 : Box w2 w.heap.size 82 #[.int .i64 0, .bool false, .slice none 0 0, .slice none 0 0, .int .i64 0] := hw2 ▸ bx1.alloc _
      have bw2 : Below w.heap.size w w2 := hw2 ▸ bw1.alloc bw1.size _
      have u12 : Below w1.heap.size w1 w2 := hw2 ▸ below_box _
      obtain ⟨w3, hw3⟩ : ∃ w3, ((w2.setCell ⟨w.heap.size + 1, 0, none⟩ (.int .i64 fl)).setCell ⟨w.heap.size + 1, 1, none⟩ (.map (some ab))) = w3 := ⟨_, rfl⟩
      obtain ⟨p3, gr3, s3⟩ := store2 p2 hw3
      have bx3 := bx2.grown gr3 (fun e => by injection e with e; omega)
      have bw3 := bw2.grown gr3 bw2.size (fun g hg => by injection hg with hg; omega)
      have u13 := u12.grown gr3 u12.size (fun g hg => by injection hg with hg; omega)
      have hs2 : w2.heap.size = w.heap.size + 2 := by rw [← hw2]; simp [hs1]
      have hs3 : w3.heap.size = w.heap.size + 2 := by rw [s3, hs2]
      have a0 : w2.cell? ⟨w.heap.size + 1, 0, none⟩ = some (.int .i64 0) := p2.cell 0
      have a1 : w2.cell? ⟨w.heap.size + 1, 1, none⟩ = some (.map none) := p2.cell 1
      have b0 : w2.frozen? ⟨w.heap.size + 1, 0, none⟩ = false := p2.frozen 0
      have b1 : w2.frozen? ⟨w.heap.size + 1, 1, none⟩ = false := p2.frozen 1
      have m0 : w3.cell? ⟨w.heap.size + 1, 0, none⟩ = some (.int .i64 fl) := p3.cell 0
      have m1 : w3.cell? ⟨w.heap.size + 1, 1, none⟩ = some (.map (some ab)) := p3.cell 1
      have d0 : w3.cell? ⟨w.heap.size, 0, none⟩ = some (.int .i64 0) := bx3.cell 0
      have d1 : w3.cell? ⟨w.heap.size, 1, none⟩ = some (.bool false) := bx3.cell 1
      have d2 : w3.cell? ⟨w.heap.size, 2, none⟩ = some (.slice none 0 0) := bx3.cell 2
      have d3 : w3.cell? ⟨w.heap.size, 3, none⟩ = some (.slice none 0 0) := bx3.cell 3
      have d4 : w3.cell? ⟨w.heap.size, 4, none⟩ = some (.int .i64 0) := bx3.cell 4
      have f0 : w3.frozen? ⟨w.heap.size, 0, none⟩ = false := bx3.frozen 0
      have f1 : w3.frozen? ⟨w.heap.size, 1, none⟩ = false := bx3.frozen 1
      have f2 : w3.frozen? ⟨w.heap.size, 2, none⟩ = false := bx3.frozen 2
      have f3 : w3.frozen? ⟨w.heap.size, 3, none⟩ = false := bx3.frozen 3
      have f4 : w3.frozen? ⟨w.heap.size, 4, none⟩ = false := bx3.frozen 4
      obtain ⟨W, hW⟩ : ∃ W, (((((w3.setCell ⟨w.heap.size, 0, none⟩ (.int .i64 0)).setCell ⟨w.heap.size, 1, none⟩ (.bool false)).setCell ⟨w.heap.size, 2, none⟩ (.slice none 0 0)).setCell ⟨w.heap.size, 3, none⟩ (.slice none 0 0)).setCell ⟨w.heap.size, 4, none⟩ (.int .i64 0)) = W := ⟨_, rfl⟩
      obtain ⟨bW, gW, -⟩ := store5 bx3 hW
      have g0 : W.cell? ⟨w.heap.size, 0, none⟩ = some (.int .i64 0) := bW.cell 0
      have g1 : W.cell? ⟨w.heap.size, 1, none⟩ = some (.bool false) := bW.cell 1
      have g2 : W.cell? ⟨w.heap.size, 2, none⟩ = some (.slice none 0 0) := bW.cell 2
      have g3 : W.cell? ⟨w.heap.size, 3, none⟩ = some (.slice none 0 0) := bW.cell 3
      have g4 : W.cell? ⟨w.heap.size, 4, none⟩ = some (.int .i64 0) := bW.cell 4
      have HE := Lib.hid (hL W (bw3.grown gW bw3.size (fun g hg => by injection hg with hg; omega)))
      clear hbad bx1 bw1 bW gW hL p2 bx2 bw2 u12 p3 gr3 s3 bx3 bw3 u13 hs2 hM hM1
      go_enter Try.func50, Try.ntmps50
      go_wp2
      refine bodyPost_ret (v := .tuple #[.agg #[.int .i64 0, .bool false, .slice none 0 0, .slice none 0 0, .int .i64 0], .int .i64 12]) ?_ rfl HE.out
      simp [results, Try.results50, go_sem, g0, g1, g2, g3, g4]
    · cases hg2 : getG n E with
      | none =>
        have hL := fun (w' : World) hb => look_no (w := w) (w' := w') (T := T) hbad (by rw [hfl]; exact x5) (by rw [hE]; unfold plE; rw [getG_map, hg2]; rfl) hb
        generalize lookT c n T = r at hL ⊢
        clear l0 l1 hg hgT hfl hT hMT hP hE
        obtain ⟨w2, hw2⟩ : ∃ w2, w1.alloc (.cells #[.int .i64 0, .map none] 128) = w2 := ⟨_, rfl⟩
        have p2 : Box w2 (w.heap.size + 1) 128 #[.int .i64 0, .map none] := by have := Box.made w1 128 #[.int .i64 0, .map none]; rwa [hw2, hs1] at this
        have bx2 : Box w2 w.heap.size 82 #[.int .i64 0, .bool false, .slice none 0 0, .slice none 0 0, .int .i64 0] := hw2 ▸ bx1.alloc _
        have bw2 : Below w.heap.size w w2 := hw2 ▸ bw1.alloc bw1.size _
        have u12 : Below w1.heap.size w1 w2 := hw2 ▸ below_box _
        obtain ⟨w3, hw3⟩ : ∃ w3, ((w2.setCell ⟨w.heap.size + 1, 0, none⟩ (.int .i64 fl)).setCell ⟨w.heap.size + 1, 1, none⟩ (.map (some ab))) = w3 := ⟨_, rfl⟩
        obtain ⟨p3, gr3, s3⟩ := store2 p2 hw3
        have bx3 := bx2.grown gr3 (fun e => by injection e with e; omega)
        have bw3 := bw2.grown gr3 bw2.size (fun g hg => by injection hg with hg; omega)
        have u13 := u12.grown gr3 u12.size (fun g hg => by injection hg with hg; omega)
        have hs2 : w2.heap.size = w.heap.size + 2 := by rw [← hw2]; simp [hs1]
        have hs3 : w3.heap.size = w.heap.size + 2 := by rw [s3, hs2]
        have a0 : w2.cell? ⟨w.heap.size + 1, 0, none⟩ = some (.int .i64 0) := p2.cell 0
        have a1 : w2.cell? ⟨w.heap.size + 1, 1, none⟩ = some (.map none) := p2.cell 1
        have b0 : w2.frozen? ⟨w.heap.size + 1, 0, none⟩ = false := p2.frozen 0
        have b1 : w2.frozen? ⟨w.heap.size + 1, 1, none⟩ = false := p2.frozen 1
        have m0 : w3.cell? ⟨w.heap.size + 1, 0, none⟩ = some (.int .i64 fl) := p3.cell 0
        have m1 : w3.cell? ⟨w.heap.size + 1, 1, none⟩ = some (.map (some ab)) := p3.cell 1
        obtain ⟨w4, hw4⟩ : ∃ w4, w3.alloc (.cells #[.int .i64 0, .bool false, .slice none 0 0, .slice none 0 0, .int .i64 0] 82) = w4 := ⟨_, rfl⟩
        have t4 : Box w4 (w.heap.size + 2) 82 #[.int .i64 0, .bool false, .slice none 0 0, .slice none 0 0, .int .i64 0] := by have := Box.made w3 82 #[.int .i64 0, .bool false, .slice none 0 0, .slice none 0 0, .int .i64 0]; rwa [hw4, s3, hs2] at this
        have bx4 : Box w4 w.heap.size 82 #[.int .i64 0, .bool false, .slice none 0 0, .slice none 0 0, .int .i64 0] := hw4 ▸ bx3.alloc _
        have bw4 : Below w.heap.size w w4 := hw4 ▸ bw3.alloc bw3.size _
        obtain ⟨w5, hw5⟩ : ∃ w5, (((((w4.setCell ⟨w.heap.size + 2, 0, none⟩ (.int .i64 0)).setCell ⟨w.heap.size + 2, 1, none⟩ (.bool false)).setCell ⟨w.heap.size + 2, 2, none⟩ (.slice none 0 0)).setCell ⟨w.heap.size + 2, 3, none⟩ (.slice none 0 0)).setCell ⟨w.heap.size + 2, 4, none⟩ (.int .i64 0)) = w5 := ⟨_, rfl⟩
        obtain ⟨t5, gr5, s5⟩ := store5 t4 hw5
        have bx5 := bx4.grown gr5 (fun e => by injection e with e; omega)
        have bw5 := bw4.grown gr5 bw4.size (fun g hg => by injection hg with hg; omega)
        have v0 : w4.cell? ⟨w.heap.size + 2, 0, none⟩ = some (.int .i64 0) := t4.cell 0
        have v1 : w4.cell? ⟨w.heap.size + 2, 1, none⟩ = some (.bool false) := t4.cell 1
        have v2 : w4.cell? ⟨w.heap.size + 2, 2, none⟩ = some (.slice none 0 0) := t4.cell 2
        have v3 : w4.cell? ⟨w.heap.size + 2, 3, none⟩ = some (.slice none 0 0) := t4.cell 3
        have v4 : w4.cell? ⟨w.heap.size + 2, 4, none⟩ = some (.int .i64 0) := t4.cell 4
        have z0 : w4.frozen? ⟨w.heap.size + 2, 0, none⟩ = false := t4.frozen 0
        have z1 : w4.frozen? ⟨w.heap.size + 2, 1, none⟩ = false := t4.frozen 1
        have z2 : w4.frozen? ⟨w.heap.size + 2, 2, none⟩ = false := t4.frozen 2
        have z3 : w4.frozen? ⟨w.heap.size + 2, 3, none⟩ = false := t4.frozen 3
        have z4 : w4.frozen? ⟨w.heap.size + 2, 4, none⟩ = false := t4.frozen 4
        have d0 : w5.cell? ⟨w.heap.size, 0, none⟩ = some (.int .i64 0) := bx5.cell 0
        have d1 : w5.cell? ⟨w.heap.size, 1, none⟩ = some (.bool false) := bx5.cell 1
        have d2 : w5.cell? ⟨w.heap.size, 2, none⟩ = some (.slice none 0 0) := bx5.cell 2
        have d3 : w5.cell? ⟨w.heap.size, 3, none⟩ = some (.slice none 0 0) := bx5.cell 3
        have d4 : w5.cell? ⟨w.heap.size, 4, none⟩ = some (.int .i64 0) := bx5.cell 4
        have f0 : w5.frozen? ⟨w.heap.size, 0, none⟩ = false := bx5.frozen 0
        have f1 : w5.frozen? ⟨w.heap.size, 1, none⟩ = false := bx5.frozen 1
        have f2 : w5.frozen? ⟨w.heap.size, 2, none⟩ = false := bx5.frozen 2
        have f3 : w5.frozen? ⟨w.heap.size, 3, none⟩ = false := bx5.frozen 3
        have f4 : w5.frozen? ⟨w.heap.size, 4, none⟩ = false := bx5.frozen 4
        obtain ⟨W, hW⟩ : ∃ W, (((((w5.setCell ⟨w.heap.size, 0, none⟩ (.int .i64 0)).setCell ⟨w.heap.size, 1, none⟩ (.bool false)).setCell ⟨w.heap.size, 2, none⟩ (.slice none 0 0)).setCell ⟨w.heap.size, 3, none⟩ (.slice none 0 0)).setCell ⟨w.heap.size, 4, none⟩ (.int .i64 0)) = W := ⟨_, rfl⟩
        obtain ⟨bW, gW, -⟩ := store5 bx5 hW
        have g0 : W.cell? ⟨w.heap.size, 0, none⟩ = some (.int .i64 0) := bW.cell 0
        have g1 : W.cell? ⟨w.heap.size, 1, none⟩ = some (.bool false) := bW.cell 1
        have g2 : W.cell? ⟨w.heap.size, 2, none⟩ = some (.slice none 0 0) := bW.cell 2
        have g3 : W.cell? ⟨w.heap.size, 3, none⟩ = some (.slice none 0 0) := bW.cell 3
        have g4 : W.cell? ⟨w.heap.size, 4, none⟩ = some (.int .i64 0) := bW.cell 4
        have HE := Lib.hid (hL W (bw5.grown gW bw5.size (fun g hg => by injection hg with hg; omega)))
        have hlk := (((hA.below u13).look n hn).1 hg2)
        clear hbad bx1 bw1 bW gW hL p2 bx2 bw2 u12 p3 gr3 s3 bx3 bw3 u13 hs2 hM hM1 t4 bx4 bw4 t5 gr5 s5 bx5 bw5
        go_enter Try.func50, Try.ntmps50
        go_wp2
        refine bodyPost_ret (v := .tuple #[.agg #[.int .i64 0, .bool false, .slice none 0 0, .slice none 0 0, .int .i64 0], .int .i64 7]) ?_ rfl HE.out
        simp [results, Try.results50, go_sem, g0, g1, g2, g3, g4]
      | some e =>
        have hge : getG n (plE E) = some e.p := by unfold plE; rw [getG_map, hg2]; rfl
        have hR : e.p.Right := (hP.num _ (getG_mem hge)).2
        have hL := fun (w' : World) v hv hb => look_yes (w := w) (w' := w') (T := T) (r := e.p) (v := v) hbad (by rw [hfl]; exact x5) (by rw [hE]; exact hge) hv hb
        generalize lookT c n T = rr at hL ⊢
        clear l0 l1 hg hgT hfl hT hMT hP hE hge
        obtain ⟨w2, hw2⟩ : ∃ w2, w1.alloc (.cells #[.int .i64 0, .map none] 128) = w2 := ⟨_, rfl⟩
        have p2 : Box w2 (w.heap.size + 1) 128 #[.int .i64 0, .map none] := by have := Box.made w1 128 #[.int .i64 0, .map none]; rwa [hw2, hs1] at this
        have bx2 : Box w2 w.heap.size 82 #[.int .i64 0, .bool false, .slice none 0 0, .slice none 0 0, .int .i64 0] := hw2 ▸ bx1.alloc _
        have bw2 : Below w.heap.size w w2 := hw2 ▸ bw1.alloc bw1.size _
        have u12 : Below w1.heap.size w1 w2 := hw2 ▸ below_box _
        obtain ⟨w3, hw3⟩ : ∃ w3, ((w2.setCell ⟨w.heap.size + 1, 0, none⟩ (.int .i64 fl)).setCell ⟨w.heap.size + 1, 1, none⟩ (.map (some ab))) = w3 := ⟨_, rfl⟩
        obtain ⟨p3, gr3, s3⟩ := store2 p2 hw3
        have bx3 := bx2.grown gr3 (fun e => by injection e with e; omega)
        have bw3 := bw2.grown gr3 bw2.size (fun g hg => by injection hg with hg; omega)
        have u13 := u12.grown gr3 u12.size (fun g hg => by injection hg with hg; omega)
        have hs2 : w2.heap.size = w.heap.size + 2 := by rw [← hw2]; simp [hs1]
        have hs3 : w3.heap.size = w.heap.size + 2 := by rw [s3, hs2]
        have a0 : w2.cell? ⟨w.heap.size + 1, 0, none⟩ = some (.int .i64 0) := p2.cell 0
        have a1 : w2.cell? ⟨w.heap.size + 1, 1, none⟩ = some (.map none) := p2.cell 1
        have b0 : w2.frozen? ⟨w.heap.size + 1, 0, none⟩ = false := p2.frozen 0
        have b1 : w2.frozen? ⟨w.heap.size + 1, 1, none⟩ = false := p2.frozen 1
        have m0 : w3.cell? ⟨w.heap.size + 1, 0, none⟩ = some (.int .i64 fl) := p3.cell 0
        have m1 : w3.cell? ⟨w.heap.size + 1, 1, none⟩ = some (.map (some ab)) := p3.cell 1
        obtain ⟨w4, hw4⟩ : ∃ w4, w3.alloc (.cells #[.int .i64 0, .bool false, .slice none 0 0, .slice none 0 0, .int .i64 0] 82) = w4 := ⟨_, rfl⟩
        have t4 : Box w4 (w.heap.size + 2) 82 #[.int .i64 0, .bool false, .slice none 0 0, .slice none 0 0, .int .i64 0] := by have := Box.made w3 82 #[.int .i64 0, .bool false, .slice none 0 0, .slice none 0 0, .int .i64 0]; rwa [hw4, s3, hs2] at this
        have bx4 : Box w4 w.heap.size 82 #[.int .i64 0, .bool false, .slice none 0 0, .slice none 0 0, .int .i64 0] := hw4 ▸ bx3.alloc _
        have bw4 : Below w.heap.size w w4 := hw4 ▸ bw3.alloc bw3.size _
        obtain ⟨w5, hw5⟩ : ∃ w5, (((((w4.setCell ⟨w.heap.size + 2, 0, none⟩ (.int .i64 e.p.code)).setCell ⟨w.heap.size + 2, 1, none⟩ (.bool e.p.there)).setCell ⟨w.heap.size + 2, 2, none⟩ (.slice e.A e.p.rc.length e.c)).setCell ⟨w.heap.size + 2, 3, none⟩ (.slice none 0 0)).setCell ⟨w.heap.size + 2, 4, none⟩ (.int .i64 e.p.id)) = w5 := ⟨_, rfl⟩
        obtain ⟨t5, gr5, s5⟩ := store5 t4 hw5
        have bx5 := bx4.grown gr5 (fun e => by injection e with e; omega)
        have bw5 := bw4.grown gr5 bw4.size (fun g hg => by injection hg with hg; omega)
        have v0 : w4.cell? ⟨w.heap.size + 2, 0, none⟩ = some (.int .i64 0) := t4.cell 0
        have v1 : w4.cell? ⟨w.heap.size + 2, 1, none⟩ = some (.bool false) := t4.cell 1
        have v2 : w4.cell? ⟨w.heap.size + 2, 2, none⟩ = some (.slice none 0 0) := t4.cell 2
        have v3 : w4.cell? ⟨w.heap.size + 2, 3, none⟩ = some (.slice none 0 0) := t4.cell 3
        have v4 : w4.cell? ⟨w.heap.size + 2, 4, none⟩ = some (.int .i64 0) := t4.cell 4
        have z0 : w4.frozen? ⟨w.heap.size + 2, 0, none⟩ = false := t4.frozen 0
        have z1 : w4.frozen? ⟨w.heap.size + 2, 1, none⟩ = false := t4.frozen 1
        have z2 : w4.frozen? ⟨w.heap.size + 2, 2, none⟩ = false := t4.frozen 2
        have z3 : w4.frozen? ⟨w.heap.size + 2, 3, none⟩ = false := t4.frozen 3
        have z4 : w4.frozen? ⟨w.heap.size + 2, 4, none⟩ = false := t4.frozen 4
        have y0 : w5.cell? ⟨w.heap.size + 2, 0, none⟩ = some (.int .i64 e.p.code) := t5.cell 0
        have y1 : w5.cell? ⟨w.heap.size + 2, 1, none⟩ = some (.bool e.p.there) := t5.cell 1
        have y2 : w5.cell? ⟨w.heap.size + 2, 2, none⟩ = some (.slice e.A e.p.rc.length e.c) := t5.cell 2
        have y3 : w5.cell? ⟨w.heap.size + 2, 3, none⟩ = some (.slice none 0 0) := t5.cell 3
        have y4 : w5.cell? ⟨w.heap.size + 2, 4, none⟩ = some (.int .i64 e.p.id) := t5.cell 4
        have hlk := (((hA.below u13).look n hn).2 e hg2)
        have Hcp := Lib.hid (copied_any e.p e.A e.p.rc.length e.c 0 none 0 w.heap.size w5 ((hA0.has hg2).belowOf bw5 (Nat.le_refl _)) bw5.size (by have := (right_small hR).1; omega) (fun v hv => by have := (right_small hR).2 v hv; omega))
        have H5 := Lib.hid (And.intro bx5 bw5)
        obtain ⟨r, hr⟩ : ∃ r, e.p = r := ⟨_, rfl⟩
        rw [hr] at hlk Hcp hL y0 y1 y2 y4 hw5
        clear hbad bx1 bw1 p2 bx2 bw2 u12 p3 gr3 s3 bx3 bw3 u13 hs2 hM hM1 t4 bx4 bw4 t5 gr5 s5 bx5 bw5 hr hR hA hA0
        have HL := Lib.hid hL
        clear hL
        go_enter Try.func50, Try.ntmps50
        go_wp2_with fail
        refine Hcp.out.mono ?_
        rintro ee w6 ⟨A6, c6, rfl, o6, b6⟩
        have bx6 := H5.out.1.below b6 H5.out.1.lt
        have bw6 := H5.out.2.trans (b6.mono H5.out.2.size)
        have d0 : w6.cell? ⟨w.heap.size, 0, none⟩ = some (.int .i64 0) := bx6.cell 0
        have d1 : w6.cell? ⟨w.heap.size, 1, none⟩ = some (.bool false) := bx6.cell 1
        have d2 : w6.cell? ⟨w.heap.size, 2, none⟩ = some (.slice none 0 0) := bx6.cell 2
        have d3 : w6.cell? ⟨w.heap.size, 3, none⟩ = some (.slice none 0 0) := bx6.cell 3
        have d4 : w6.cell? ⟨w.heap.size, 4, none⟩ = some (.int .i64 0) := bx6.cell 4
        have f0 : w6.frozen? ⟨w.heap.size, 0, none⟩ = false := bx6.frozen 0
        have f1 : w6.frozen? ⟨w.heap.size, 1, none⟩ = false := bx6.frozen 1
        have f2 : w6.frozen? ⟨w.heap.size, 2, none⟩ = false := bx6.frozen 2
        have f3 : w6.frozen? ⟨w.heap.size, 3, none⟩ = false := bx6.frozen 3
        have f4 : w6.frozen? ⟨w.heap.size, 4, none⟩ = false := bx6.frozen 4
        obtain ⟨W, hW⟩ : ∃ W, (((((w6.setCell ⟨w.heap.size, 0, none⟩ (.int .i64 r.code)).setCell ⟨w.heap.size, 1, none⟩ (.bool r.there)).setCell ⟨w.heap.size, 2, none⟩ (.slice A6 r.rc.length c6)).setCell ⟨w.heap.size, 3, none⟩ (.slice none 0 0)).setCell ⟨w.heap.size, 4, none⟩ (.int .i64 r.id)) = W := ⟨_, rfl⟩
        obtain ⟨bW, gW, -⟩ := store5 bx6 hW
        have g0 : W.cell? ⟨w.heap.size, 0, none⟩ = some (.int .i64 r.code) := bW.cell 0
        have g1 : W.cell? ⟨w.heap.size, 1, none⟩ = some (.bool r.there) := bW.cell 1
        have g2 : W.cell? ⟨w.heap.size, 2, none⟩ = some (.slice A6 r.rc.length c6) := bW.cell 2
        have g3 : W.cell? ⟨w.heap.size, 3, none⟩ = some (.slice none 0 0) := bW.cell 3
        have g4 : W.cell? ⟨w.heap.size, 4, none⟩ = some (.int .i64 r.id) := bW.cell 4
        have oW : OwnVals W w.heap.size (.slice A6 r.rc.length c6) r.rc := own_baseN (ownL_keep o6 fun g hg => gW.block g (World.ownsRow.lt o6 g hg).2 (fun e => by injection e with e; have h9 := (World.ownsRow.lt o6 g hg).1; have h8 := H5.out.1.lt; omega)) H5.out.2.size
        have HE := Lib.hid (HL.out W _ ⟨A6, c6, rfl, oW⟩ (bw6.grown gW bw6.size (fun g hg => by injection hg with hg; omega)))
        clear o6 b6 bx6 bw6 bW gW oW
        go_wp2
        refine bodyPost_ret (v := .tuple #[.agg #[.int .i64 r.code, .bool r.there, .slice A6 r.rc.length c6, .slice none 0 0, .int .i64 r.id], .int .i64 0]) ?_ rfl HE.out
        simp [results, Try.results50, go_sem, g0, g1, g2, g3, g4]
set_option maxRecDepth 100000 in
theorem onceFloor_any (h : TabAt w F sb T) (c : Int) (hc : (Lit.int .i64 c).wf = true) : Calls Try.prog 63 #[.pointer (some ⟨sb, 0, none⟩), .int .i64 c] w fun e w' => e = .returned (.int .i64 (getT c T).fl) ∧ w' = w := by
  obtain ⟨mb, M, hM, rfl⟩ := h
  obtain ⟨l0, l1⟩ := hM.look c hc
  have q0 : w.cell? ⟨sb, 0, none⟩ = some (.map (some mb)) := hM.cell
  have hfld : ∀ (x : Int) (y : Option Nat) (wx : World), (Instr.field 128 (.agg #[.int .i64 x, .map y]) 0).run Try.prog wx = .ok (.int .i64 x) wx := fun x y wx => by kernel_rfl
  rw [getT_pl]
  cases hg : getG c M with
  | none =>
    have hl := (l0 hg).2
    clear l0 l1 hM hg
    go_enter Try.func63, Try.ntmps63
    go_wp2
    go_ret
    exact ⟨rfl, rfl⟩
  | some p =>
    have hl := (l1 p hg).2
    clear l0 l1 hM hg
    go_enter Try.func63, Try.ntmps63
    go_wp2
    go_ret
    exact ⟨rfl, rfl⟩
set_option maxRecDepth 100000 in
theorem onceKnown_any (h : TabAt w F sb T) (hT : TGood T) (c : Int) (hc : (Lit.int .i64 c).wf = true) : Calls Try.prog 59 #[.pointer (some ⟨sb, 0, none⟩), .int .i64 c] w fun e w' => ∃ v, e = .returned v ∧ w'.ownsRow w.heap.size 3 1 v (getT c T).E.length ((numsG (getT c T).E).map encZ) ∧ Below w.heap.size w w' := by
  have hP := hT.get c
  obtain ⟨mb, M, hM, rfl⟩ := h
  obtain ⟨l0, l1⟩ := hM.look c hc
  have q0 : w.cell? ⟨sb, 0, none⟩ = some (.map (some mb)) := hM.cell
  have hgT := getT_pl c M
  obtain ⟨w2, hw2⟩ : ∃ w2, w.alloc (.cells #[.int .i64 0, .map none] 128) = w2 := ⟨_, rfl⟩
  have p2 : Box w2 w.heap.size 128 #[.int .i64 0, .map none] := hw2 ▸ Box.made _ _ _
  have u2 : Below w.heap.size w w2 := hw2 ▸ below_box _
  have a0 : w2.cell? ⟨w.heap.size, 0, none⟩ = some (.int .i64 0) := p2.cell 0
  have a1 : w2.cell? ⟨w.heap.size, 1, none⟩ = some (.map none) := p2.cell 1
  have b0 : w2.frozen? ⟨w.heap.size, 0, none⟩ = false := p2.frozen 0
  have b1 : w2.frozen? ⟨w.heap.size, 1, none⟩ = false := p2.frozen 1
  cases hg : getG c M with
  | none =>
    rw [hg] at hgT
    simp only at hgT
    rw [hgT] at hP ⊢
    have hl := (l0 hg).2
    obtain ⟨w3, hw3⟩ : ∃ w3, ((w2.setCell ⟨w.heap.size, 0, none⟩ (.int .i64 0)).setCell ⟨w.heap.size, 1, none⟩ (.map none)) = w3 := ⟨_, rfl⟩
    obtain ⟨p3, gr3, s3⟩ := store2 p2 hw3
    have u3 := u2.grown gr3 u2.size (fun g hg => by injection hg with hg; omega)
    have Hn := Lib.hid (numbersNil_any p3)
    have HB := Lib.hid u3
    clear l0 l1 hM hg hgT hP p2 p3 gr3 s3 u2 u3
    go_enter Try.func59, Try.ntmps59
    go_wp2_with fail
    refine Hn.out.mono ?_
    rintro e w4 ⟨rfl, b4⟩
    have HE := Lib.hid (HB.out.trans (b4.mono HB.out.size))
    clear b4
    go_wp2
    go_ret
    exact ⟨_, rfl, World.ownsRow_nil _ _ _ _, HE.out⟩
  | some p =>
    rw [hg] at hgT
    simp only at hgT
    rw [hgT] at hP ⊢
    have hl := (l1 p hg).2
    obtain ⟨w3, hw3⟩ : ∃ w3, ((w2.setCell ⟨w.heap.size, 0, none⟩ (.int .i64 p.fl)).setCell ⟨w.heap.size, 1, none⟩ (.map (some p.ab))) = w3 := ⟨_, rfl⟩
    obtain ⟨p3, gr3, s3⟩ := store2 p2 hw3
    have u3 := u2.grown gr3 u2.size (fun g hg => by injection hg with hg; omega)
    have hlen : p.E.length ≤ 100000 := by have h5 := hP.len; have h6 := plE_len p.E; unfold PV.p at h5; simp only at h5; omega
    have Hn := Lib.hid (numbers_any p3 ((hM.ans c p hg).below u3) hlen)
    have Hpl : Hid (p.p.E.length = p.E.length ∧ numsG p.p.E = numsG p.E) := Lib.hid ⟨plE_len _, mapG_nums _ _⟩
    have HB := Lib.hid u3
    clear l0 l1 hM hg hgT hP p2 p3 gr3 s3 u2 u3 hlen
    go_enter Try.func59, Try.ntmps59
    go_wp2_with fail
    refine Hn.out.mono ?_
    rintro e w4 ⟨v, rfl, o4, b4⟩
    have HE := Lib.hid (And.intro (own_base o4 HB.out.size) (HB.out.trans (b4.mono HB.out.size)))
    clear b4 o4
    go_wp2
    go_ret
    exact ⟨_, rfl, by rw [Hpl.out.1, Hpl.out.2]; exact HE.out.1, HE.out.2⟩
end
end Go.Proofs.Ytdfhnjocpfjagaa
