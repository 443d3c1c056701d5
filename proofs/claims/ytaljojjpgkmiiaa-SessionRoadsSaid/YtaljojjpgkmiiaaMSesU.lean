/- How a road stands in calm. No condition. -/
import Derived.Test.YtaljojjpgkmiiaaMSesR
import Derived.Test.YtaljojjpgkmiiaaMSesS
import Derived.Test.YtaljojjpgkmiiaaMPakG
import Derived.Test.YtaljojjpgkmiiaaMNetF
namespace Go.Proofs.Ytaljojjpgkmiiaa
open Go.RowKit

def fn0 (a b : Nat) : Nat → Nat := fun i => if i = 0 then a else b
theorem NetAt.base {w : World} {B B' sb mb d : Nat} {E : List NEn} (h : NetAt w B sb mb E d) (hB : B' ≤ B) : NetAt w B' sb mb E d :=
  { h with sB := Nat.le_trans hB h.sB, mB := Nat.le_trans hB h.mB, rows := fun p hp => ⟨own_baseN (h.rows p hp).1 hB, own_baseN (h.rows p hp).2 hB⟩ }
/-- a road at its beginning -/
theorem Road.new {w : World} {B g0 g1 sb mb : Nat} (h0 : EndAt w B g0 (.slice none 0 0) ⟨0, 0, []⟩) (h1 : EndAt w B g1 (.slice none 0 0) ⟨0, 0, []⟩) (hne : g0 ≠ g1) (n : NetAt w B sb mb [] 0) :
    Road (w.alloc (.cells #[.pointer (some ⟨g0, 0, none⟩), .pointer (some ⟨g1, 0, none⟩), .slice none 0 0, .slice none 0 0, .slice none 0 0, .slice none 0 0, .pointer (some ⟨sb, 0, none⟩)] 58)) B w.heap.size sb mb (fn0 g0 g1) (fun _ => .slice none 0 0) (fun _ => ⟨0, 0, []⟩) (fun _ => []) [] 0 := by
  refine ⟨Nat.le_of_lt (Nat.lt_of_le_of_lt h0.gB h0.lt), Box.made _ _ _, fun i hi => ?_, hne, fun i _ _ => OwnTx.nil _ _, fun i j _ _ _ q hq => (by cases hq), n.below (below_box _)⟩
  rcases (show i = 0 ∨ i = 1 by omega) with rfl | rfl
  · exact h0.below (below_box _)
  · exact h1.below (below_box _)
/-- how a road stands behind k moves -/
structure RSt (w : World) (B rb sb mb k : Nat) (g : Nat → Nat) (u : Nat → Value) (E : Es) (X : Xs) (N : List NEn) (d : Nat) (w1 : World) : Prop where
  road : Road w B rb sb mb g u E X N d
  inv : InvR E X (N.map (·.L))
  few : N.length + (X 2).length + (X 3).length ≤ 20 * k
  dk : d ≤ 20 * k
  short : ∀ i, i < 2 → ∀ x ∈ X (2 + i), x.size ≤ 100
  bel : Below B w1 w
theorem inv_new : InvR (fun _ => ⟨0, 0, []⟩) (fun _ => []) [] := ⟨fun i _ => ⟨rfl, rfl, Nat.le_refl _, rfl, rfl, Nat.le_refl _, Nat.le_refl _⟩, fun L hL => by simp at hL⟩
section
variable {w w' w1 : World} {B rb sb mb k d q : Nat} {g : Nat → Nat} {u u' : Nat → Value} {E : Es} {X : Xs} {N N' : List NEn}
theorem RSt.below (h : RSt w B rb sb mb k g u E X N d w1) (hb : Below w.heap.size w w') : RSt w' B rb sb mb k g u E X N d w1 := ⟨h.road.below hb, h.inv, h.few, h.dk, h.short, h.bel.trans (hb.mono h.road.lo)⟩
theorem RSt.next (h : RSt w B rb sb mb k g u E X N d w1) : RSt w B rb sb mb (k + 1) g u E X N d w1 := { h with few := by have := h.few; omega, dk := by have := h.dk; omega }
theorem RSt.lens (h : RSt w B rb sb mb k g u E X N d w1) {i : Nat} (hi : i < 2) : (X (2 + i)).length ≤ 20 * k := by
  have := h.few
  rcases (show i = 0 ∨ i = 1 by omega) with rfl | rfl
  · show (X 2).length ≤ _
    omega
  · show (X 3).length ≤ _
    omega
theorem RSt.sl (h : RSt w B rb sb mb k g u E X N d w1) {i : Nat} (hi : i < 2) : (E i).s ≤ 20 * k ∧ (E i).m ≤ 20 * k ∧ ∀ x ∈ (E i).l, x.size ≤ 100 := by
  have hD := h.inv.dir i hi
  have hO := h.inv.dir (1 - i) (by omega)
  rw [show 1 - (1 - i) = i from by omega] at hO
  refine ⟨by rw [hD.s]; exact h.lens hi, ?_, fun x hx => h.short i hi x ?_⟩
  · rw [hO.m]
    exact Nat.le_trans hO.mle (h.lens (by omega))
  · rw [hD.l] at hx
    exact List.mem_of_mem_drop hx
theorem upd_send (X : Xs) (q : Nat) (hq : q < 2) (x : ByteArray) : ((upd X (2 + q) (X (2 + q) ++ [x])) 2).length + ((upd X (2 + q) (X (2 + q) ++ [x])) 3).length = (X 2).length + (X 3).length + 1 := by
  rcases (show q = 0 ∨ q = 1 by omega) with rfl | rfl
  · rw [show upd X (2 + 0) (X (2 + 0) ++ [x]) 2 = X 2 ++ [x] from upd_self X 2 _, show upd X (2 + 0) (X (2 + 0) ++ [x]) 3 = X 3 from upd_ne X _ (by omega)]
    simp
    omega
  · rw [show upd X (2 + 1) (X (2 + 1) ++ [x]) 2 = X 2 from upd_ne X _ (by omega), show upd X (2 + 1) (X (2 + 1) ++ [x]) 3 = X 3 ++ [x] from upd_self X 3 _]
    simp
    omega
theorem RSt.send (h : RSt w B rb sb mb k g u E X N d w1) (hq : q < 2) {x : ByteArray} (hx : x.size ≤ 100) (ok : ((E q).send x).2.2 = 0) (r : Road w' B rb sb mb g u' (upd E q ((E q).send x).1) (upd X (2 + q) (X (2 + q) ++ [x])) N d) (hb : Below B w1 w') :
    RSt w' B rb sb mb (k + 1) g u' (upd E q ((E q).send x).1) (upd X (2 + q) (X (2 + q) ++ [x])) N d w1 := by
  refine ⟨r, send_inv h.inv hq ok, ?_, by have := h.dk; omega, fun i hi y hy => ?_, hb⟩
  · have := h.few
    have := upd_send X q hq x
    omega
  · by_cases hiq : i = q
    · subst hiq
      rw [upd_self] at hy
      rcases List.mem_append.1 hy with hy | hy
      · exact h.short i hi y hy
      · simp at hy; subst hy; exact hx
    · rw [upd_ne X _ (show 2 + i ≠ 2 + q by omega)] at hy
      exact h.short i hi y hy
theorem RSt.sendNo (h : RSt w B rb sb mb k g u E X N d w1) {x : ByteArray} (no : ((E q).send x).2.2 ≠ 0) (r : Road w' B rb sb mb g u' (upd E q ((E q).send x).1) X N d) (hb : Below B w1 w') :
    RSt w' B rb sb mb (k + 1) g u' E X N d w1 := by
  have e : ((E q).send x).1 = E q := by
    revert no
    unfold SE.send
    split
    · intro _; rfl
    · split
      · intro _; rfl
      · intro hc; exact absurd rfl hc
  rw [e, upd_id] at r
  exact ⟨r, h.inv, by have := h.few; omega, by have := h.dk; omega, h.short, hb⟩
theorem post_few (F : SE) {n : Int} (hn : n ≤ 20) : (F.post n).length ≤ 20 := by
  unfold SE.post
  rw [itemsFrom_len, List.length_take]
  omega
theorem RSt.post (h : RSt w B rb sb mb k g u E X N d w1) (hq : q < 2) {n : Int} (hn : n ≤ 20) (r : Road w' B rb sb mb g u' E X (N ++ N') (d + N'.length)) (hL : N'.map (·.L) = ((E q).post n).map (fun p => lR 1 ((1 - q : Nat) : Int) p.n p.b)) (hb : Below B w1 w') :
    RSt w' B rb sb mb (k + 1) g u' E X (N ++ N') (d + N'.length) w1 := by
  have hl : N'.length ≤ 20 := by
    have h1 := congrArg List.length hL
    rw [List.length_map, List.length_map] at h1
    rw [h1]
    exact post_few _ hn
  refine ⟨r, ⟨h.inv.dir, fun L hLm => ?_⟩, by have := h.few; rw [List.length_append]; omega, by have := h.dk; omega, h.short, hb⟩
  rw [List.map_append, hL] at hLm
  rcases List.mem_append.1 hLm with hLm | hLm
  · exact h.inv.ok L hLm
  · obtain ⟨p, hp, rfl⟩ := List.mem_map.1 hLm
    exact post_ok h.inv hq n p hp
theorem RSt.tell (h : RSt w B rb sb mb k g u E X N d w1) (hq : q < 2) {en : NEn} (hL : en.L = lR 2 ((1 - q : Nat) : Int) (E q).m ⟨#[]⟩) (r : Road w' B rb sb mb g u' E X (N ++ [en]) (d + 1)) (hb : Below B w1 w') :
    RSt w' B rb sb mb (k + 1) g u' E X (N ++ [en]) (d + 1) w1 := by
  refine ⟨r, ?_, by have := h.few; rw [List.length_append, List.length_singleton]; omega, by have := h.dk; omega, h.short, hb⟩
  rw [List.map_append, List.map_cons, List.map_nil, hL]
  exact h.inv.add (tell_ok E X hq)
theorem RSt.twice (h : RSt w B rb sb mb k g u E X N d w1) {en e0 : NEn} (h0 : e0 ∈ N) (hL : en.L = e0.L) (r : Road w' B rb sb mb g u' E X (N ++ [en]) (d + 1)) (hb : Below B w1 w') :
    RSt w' B rb sb mb (k + 1) g u' E X (N ++ [en]) (d + 1) w1 := by
  refine ⟨r, ?_, by have := h.few; rw [List.length_append, List.length_singleton]; omega, by have := h.dk; omega, h.short, hb⟩
  rw [List.map_append, List.map_cons, List.map_nil, hL]
  exact h.inv.add (h.inv.ok e0.L (List.mem_map.2 ⟨e0, h0, rfl⟩))
theorem delN_sub {kn : Int} {p : NEn} (h : p ∈ delN kn N) : p ∈ N := (List.mem_filter.1 h).1
theorem delN_len (kn : Int) (N : List NEn) : (delN kn N).length ≤ N.length := List.length_filter_le _ _
theorem inv_del (h : InvR E X (N.map (·.L))) (kn : Int) : InvR E X ((delN kn N).map (·.L)) := h.sub fun L hL => by
  obtain ⟨p, hp, rfl⟩ := List.mem_map.1 hL
  exact List.mem_map.2 ⟨p, delN_sub hp, rfl⟩
theorem RSt.del (h : RSt w B rb sb mb k g u E X N d w1) (kn : Int) (r : Road w' B rb sb mb g u' E X (delN kn N) d) (hb : Below B w1 w') : RSt w' B rb sb mb (k + 1) g u' E X (delN kn N) d w1 :=
  ⟨r, inv_del h.inv kn, by have := h.few; have := delN_len kn N; omega, by have := h.dk; omega, h.short, hb⟩
theorem RSt.bring (h : RSt w B rb sb mb k g u E X N d w1) {kn : Int} {L : Let} (hL : LetOk E X L) (r : Road w' B rb sb mb g u' (bringP E X L.kind L.to.toNat L.a L.body).1 (bringP E X L.kind L.to.toNat L.a L.body).2 (delN kn N) d) (hb : Below B w1 w') :
    RSt w' B rb sb mb (k + 1) g u' (bringP E X L.kind L.to.toNat L.a L.body).1 (bringP E X L.kind L.to.toNat L.a L.body).2 (delN kn N) d w1 := by
  have hm := (bring_m E X L.kind L.to.toNat L.a L.body).2
  refine ⟨r, bring_inv (inv_del h.inv kn) hL, ?_, by have := h.dk; omega, fun i hi => ?_, hb⟩
  · rw [hm 2 (by omega), hm 3 (by omega)]
    have := h.few
    have := delN_len kn N
    omega
  · rw [hm (2 + i) (by omega)]
    exact h.short i hi
theorem RSt.postCall (h : RSt w B rb sb mb k g u E X N d w1) (hk : k < 200) (hq : q < 2) {n : Int} (hn : n ≤ 20) : Calls Try.prog 34 #[.pointer (some ⟨rb, 0, none⟩), .int .i64 (q : Int), .int .i64 n] w fun e w' => e = .returned (.tuple #[]) ∧ ∃ (g : Nat → Nat) (u : Nat → Value) (E : Es) (X : Xs) (N : List NEn) (d : Nat), RSt w' B rb sb mb (k + 1) g u E X N d w1 := by
  have h1 := h.few
  have h2 := h.dk
  have h3 := (h.sl hq).1
  have h4 : N.length + ((E q).post n).length ≤ 4096 := Nat.le_trans (Nat.add_le_add_left (post_few (E q) hn) _) (by omega)
  have h5 : (E q).s ≤ 999999 := by omega
  have h6 : d ≤ 90000000 := by omega
  refine (post_any h.road hq n h6 h4 h5 fun x hx => Nat.le_trans ((h.sl hq).2.2 x hx) (by omega)).mono ?_
  rintro e w' ⟨rfl, N', r, hL, b⟩
  exact ⟨rfl, _, _, _, _, _, _, h.post hq hn r hL (h.bel.trans b)⟩
theorem RSt.begins (h : RSt w B rb sb mb k g u E X N d w1) (hk : k ≤ 1000) : Calls Try.prog 41 #[.pointer (some ⟨rb, 0, none⟩)] w fun e w' => e = .returned (.bool true) ∧ Below w.heap.size w w' := by
  refine begins_any h.road (fun i hi => ?_) fun i hi => ?_
  · have hD := h.inv.dir (1 - i) (by omega)
    rw [show 1 - (1 - i) = i from by omega] at hD
    exact ⟨hD.t, hD.mle⟩
  · have := h.lens hi
    omega
end
theorem u64_nonneg (z : Int) : 0 ≤ IntKind.u64.wrap z := by
  rw [IntKind.wrap_u64]
  omega
theorem bits_two (z : Int) : ∃ q : Nat, q < 2 ∧ bits BinOp.and IntKind.i64 z 1 = (q : Int) := by
  refine ⟨(BitVec.ofInt 64 z &&& BitVec.ofInt 64 1).toNat, ?_, ?_⟩
  · rw [BitVec.toNat_and, show (BitVec.ofInt 64 1).toNat = 1 from by decide +kernel, Nat.and_one_is_mod]
    omega
  · have h2 : (BitVec.ofInt 64 z &&& BitVec.ofInt 64 1).toNat < 2 := by
      rw [BitVec.toNat_and, show (BitVec.ofInt 64 1).toNat = 1 from by decide +kernel, Nat.and_one_is_mod]
      omega
    show IntKind.i64.wrap ((BitVec.ofInt 64 z &&& BitVec.ofInt 64 1).toNat : Int) = _
    exact IntWalk.i64_in _ (by omega)
end Go.Proofs.Ytaljojjpgkmiiaa

namespace Go.Proofs.Ytaljojjpgkmiiaa
open Go.RowKit

theorem post_le (F : SE) (n : Int) : (F.post n).length ≤ F.l.length := by
  unfold SE.post
  rw [itemsFrom_len, List.length_take]
  omega
/-- how a road stands behind t turns in calm -/
structure TSt (w : World) (B rb sb mb t : Nat) (g : Nat → Nat) (u : Nat → Value) (E : Es) (X : Xs) (N : List NEn) (d : Nat) (w1 : World) : Prop where
  road : Road w B rb sb mb g u E X N d
  inv : InvR E X (N.map (·.L))
  few : N.length + (X 2).length + (X 3).length ≤ 4000
  dk : d ≤ 4000 + 1000 * t
  short : ∀ i, i < 2 → ∀ x ∈ X (2 + i), x.size ≤ 100
  bel : Below B w1 w
  full : 1 ≤ t → FullR E X
  none : 2 ≤ t → ∀ i, i < 2 → (E i).l = []
/-- what is sent in a turn till the end j is at turn -/
def partL (E : Es) : Nat → List Let
  | 0 => []
  | 1 => (((E 0).post 300).map fun p => lR 1 ((1 : Nat) : Int) p.n p.b) ++ [lR 2 ((1 : Nat) : Int) (E 0).m ⟨#[]⟩]
  | _ => turnL E
/-- within a turn: j ends have posted and told their marks -/
structure PSR (w : World) (B rb sb mb t j : Nat) (g : Nat → Nat) (u : Nat → Value) (E : Es) (X : Xs) (N N' : List NEn) (d d' : Nat) (w1 : World) : Prop where
  road : Road w B rb sb mb g u E X (N ++ N') d'
  is : N'.map (·.L) = partL E j
  dk : d' = d + N'.length
  bel : Below B w1 w
/-- within a turn: i letters came -/
structure BSt (w : World) (B rb sb mb i : Nat) (g : Nat → Nat) (u : Nat → Value) (E : Es) (X : Xs) (M : List NEn) (d : Nat) (w1 : World) : Prop where
  road : Road w B rb sb mb g u (runP E X ((M.take i).map (·.L))).1 (runP E X ((M.take i).map (·.L))).2 (M.drop i) d
  bel : Below B w1 w
section
variable {w w' w1 : World} {B rb sb mb t d d' : Nat} {g : Nat → Nat} {u u' : Nat → Value} {E : Es} {X : Xs} {N N' M : List NEn}
theorem RSt.calm {k : Nat} (h : RSt w B rb sb mb k g u E X N d w1) (hk : k ≤ 200) : TSt w B rb sb mb 0 g u E X N d w1 :=
  ⟨h.road, h.inv, by have := h.few; omega, by have := h.dk; omega, h.short, h.bel, fun h => by omega, fun h => by omega⟩
theorem TSt.lens (h : TSt w B rb sb mb t g u E X N d w1) {i : Nat} (hi : i < 2) : (X (2 + i)).length ≤ 4000 ∧ (E i).s = (X (2 + i)).length ∧ (E i).l.length ≤ (X (2 + i)).length ∧ (E i).m ≤ 4000 ∧ ∀ x ∈ (E i).l, x.size ≤ 100 := by
  have hD := h.inv.dir i hi
  have hO := h.inv.dir (1 - i) (by omega)
  rw [show 1 - (1 - i) = i from by omega] at hO
  have h1 : ∀ j, j < 2 → (X (2 + j)).length ≤ 4000 := fun j hj => by
    have := h.few
    rcases (show j = 0 ∨ j = 1 by omega) with rfl | rfl
    · show (X 2).length ≤ _
      omega
    · show (X 3).length ≤ _
      omega
  refine ⟨h1 i hi, hD.s, by have := hD.le; have := hD.s; omega, ?_, fun x hx => h.short i hi x ?_⟩
  · rw [hO.m]
    exact Nat.le_trans hO.mle (h1 (1 - i) (by omega))
  · rw [hD.l] at hx
    exact List.mem_of_mem_drop hx
theorem TSt.start (h : TSt w B rb sb mb t g u E X N d w1) : PSR w B rb sb mb t 0 g u E X N [] d d w1 := ⟨by rw [List.append_nil]; exact h.road, rfl, rfl, h.bel⟩
theorem part0_len {w0 : World} (h : TSt w0 B rb sb mb t g u E X N d w1) : (partL E 1).length ≤ (X 2).length + 1 := by
  show ((((E 0).post 300).map fun p => lR 1 ((1 : Nat) : Int) p.n p.b) ++ [lR 2 ((1 : Nat) : Int) (E 0).m ⟨#[]⟩]).length ≤ _
  rw [List.length_append, List.length_map, List.length_singleton]
  have h1 := (h.lens (i := 0) (by omega)).2.2.1
  have h2 := post_le (E 0) 300
  have h3 : (E 0).l.length ≤ (X 2).length := h1
  omega
/-- an end posts and tells its mark -/
theorem PSR.post {w0 : World} (h0 : TSt w0 B rb sb mb t g u E X N d w1) (ht : t < 3) {j : Nat} (hj : j < 2) (h : PSR w B rb sb mb t j g u E X N N' d d' w1) :
    Calls Try.prog 34 #[.pointer (some ⟨rb, 0, none⟩), .int .i64 (j : Int), .int .i64 300] w fun e w' => e = .returned (.tuple #[]) ∧ ∃ P : List NEn, Road w' B rb sb mb g u E X (N ++ N' ++ P) (d' + P.length) ∧ P.map (·.L) = ((E j).post 300).map (fun p => lR 1 ((1 - j : Nat) : Int) p.n p.b) ∧ Below B w1 w' := by
  have hl := h0.lens hj
  have hp := post_le (E j) 300
  have hN' : N'.length ≤ (X 2).length + 1 ∧ (j = 1 → N'.length ≤ (X 2).length + 1) ∧ (j = 0 → N'.length = 0) := by
    have h1 := congrArg List.length h.is
    rw [List.length_map] at h1
    rcases (show j = 0 ∨ j = 1 by omega) with rfl | rfl
    · have h2 : N'.length = 0 := h1
      exact ⟨by omega, fun h => by omega, fun _ => h2⟩
    · have := part0_len h0
      exact ⟨by omega, fun _ => by omega, fun h => by omega⟩
  have hfew := h0.few
  have hx : j = 0 ∧ (X (2 + j)).length = (X 2).length ∨ j = 1 ∧ (X (2 + j)).length = (X 3).length := by
    rcases (show j = 0 ∨ j = 1 by omega) with rfl | rfl
    · exact .inl ⟨rfl, rfl⟩
    · exact .inr ⟨rfl, rfl⟩
  have hroom : (N ++ N').length + ((E j).post 300).length ≤ 4096 := by
    rw [List.length_append]
    obtain ⟨-, -, hl3, -⟩ := hl
    generalize ((E j).post 300).length = pl at *
    generalize (E j).l.length = ll at *
    omega
  have hd : d' ≤ 90000000 := by have := h.dk; have := h0.dk; omega
  refine (post_any h.road hj 300 hd hroom (by rw [hl.2.1]; omega) fun x hx => Nat.le_trans (hl.2.2.2.2 x hx) (by omega)).mono ?_
  rintro e w' ⟨rfl, P, r, hL, b⟩
  exact ⟨rfl, P, r, hL, h.bel.trans b⟩
theorem PSR.tell {w0 w2 : World} {P : List NEn} (h0 : TSt w0 B rb sb mb t g u E X N d w1) (ht : t < 3) {j : Nat} (hj : j < 2) (h : PSR w B rb sb mb t j g u E X N N' d d' w1) (r : Road w2 B rb sb mb g u E X (N ++ N' ++ P) (d' + P.length)) (hL : P.map (·.L) = ((E j).post 300).map (fun p => lR 1 ((1 - j : Nat) : Int) p.n p.b)) (hb : Below B w1 w2) :
    Calls Try.prog 35 #[.pointer (some ⟨rb, 0, none⟩), .int .i64 (j : Int)] w2 fun e w' => e = .returned (.tuple #[]) ∧ ∃ (N'' : List NEn) (d'' : Nat), PSR w' B rb sb mb t (j + 1) g u E X N N'' d d'' w1 := by
  have hl := h0.lens hj
  have hp := post_le (E j) 300
  have hPl : P.length = ((E j).post 300).length := by
    have h1 := congrArg List.length hL
    rwa [List.length_map, List.length_map] at h1
  have hN' : N'.length ≤ (X 2).length + 1 ∧ (j = 0 → N'.length = 0) := by
    have h1 := congrArg List.length h.is
    rw [List.length_map] at h1
    rcases (show j = 0 ∨ j = 1 by omega) with rfl | rfl
    · have h2 : N'.length = 0 := h1
      exact ⟨by omega, fun _ => h2⟩
    · have := part0_len h0
      exact ⟨by omega, fun h => by omega⟩
  have hfew := h0.few
  have hx : j = 0 ∧ (X (2 + j)).length = (X 2).length ∨ j = 1 ∧ (X (2 + j)).length = (X 3).length := by
    rcases (show j = 0 ∨ j = 1 by omega) with rfl | rfl
    · exact .inl ⟨rfl, rfl⟩
    · exact .inr ⟨rfl, rfl⟩
  have hroom : (N ++ N' ++ P).length < 4096 := by
    rw [List.length_append, List.length_append, hPl]
    obtain ⟨-, -, hl3, -⟩ := hl
    generalize ((E j).post 300).length = pl at *
    generalize (E j).l.length = ll at *
    omega
  have hd : d' + P.length ≤ 100000000 := by
    have := h.dk
    have := h0.dk
    rw [hPl]
    obtain ⟨hl1, -, hl3, -⟩ := hl
    generalize ((E j).post 300).length = pl at *
    generalize (E j).l.length = ll at *
    omega
  refine (tell_any r hd hroom hj (by have := hl.2.2.2.1; omega)).mono ?_
  rintro e w' ⟨rfl, en, hen, r', b⟩
  refine ⟨rfl, N' ++ P ++ [en], _, ⟨by rw [← List.append_assoc, ← List.append_assoc]; exact r', ?_, by rw [List.length_append, List.length_append, List.length_singleton, h.dk]; omega, hb.trans b⟩⟩
  rw [List.map_append, List.map_append, h.is, hL, List.map_cons, List.map_nil, hen]
  rcases (show j = 0 ∨ j = 1 by omega) with rfl | rfl
  · rfl
  · show partL E 1 ++ _ ++ _ = turnL E
    unfold partL turnL
    simp
theorem bringP2 {E : Es} {X : Xs} {t : Nat} {a : Int} {b : ByteArray} : bringP E X (lR 2 t a b).kind (lR 2 t a b).to.toNat (lR 2 t a b).a (lR 2 t a b).body = (upd E t ((E t).acked a).1, X) := by
  show bringP E X 2 (Int.toNat (t : Int)) a b = _
  rw [Int.toNat_natCast]
  exact if_pos rfl
theorem bringP1 {E : Es} {X : Xs} {t : Nat} {a : Int} {b : ByteArray} : bringP E X (lR 1 t a b).kind (lR 1 t a b).to.toNat (lR 1 t a b).a (lR 1 t a b).body = bringP E X 1 t a b := by
  show bringP E X 1 (Int.toNat (t : Int)) a b = _
  rw [Int.toNat_natCast]
/-- a letter that may be under way comes -/
theorem bring_ok (h : Road w B rb sb mb g u E X N d) {L : Let} (hL : LetOk E X L) (hX : ∀ t, t < 2 → (X (4 + t)).length ≤ 1000000) (Ap : Option Addr) (cp : Nat) (Ai : Option Addr) (ci : Nat) :
    Calls Try.prog 37 #[.pointer (some ⟨rb, 0, none⟩), .agg #[.int .i64 L.kind, .int .i64 L.frm, .int .i64 L.to, .int .i64 L.a, .int .i64 L.b, .int .i64 L.c, .int .i64 L.d, .string L.s, .string L.t, .slice Ap L.ps.length cp, .slice Ai L.is.length ci, .int .i64 L.code, .bool L.yes, .string L.body]] w (BringRP B rb sb mb g (bringP E X L.kind L.to.toNat L.a L.body).1 (bringP E X L.kind L.to.toNat L.a L.body).2 N d w) := by
  obtain ⟨t, a, ht, hc⟩ := hL
  rcases hc with ⟨rfl, -, -⟩ | ⟨b, rfl, -, -⟩
  · rw [bringP2]
    exact bring2_any h ht a ⟨#[]⟩ Ap cp Ai ci
  · rw [bringP1]
    exact bring1_any h ht a b Ap cp Ai ci (hX t ht)
theorem getN_head {p : NEn} {r : List NEn} : getN p.n (p :: r) = some p := by
  unfold getN
  simp
theorem delN_head {p : NEn} {r : List NEn} (h : (p :: r).Pairwise fun p q => p.n < q.n) : delN p.n (p :: r) = r := by
  unfold delN
  rw [List.filter_cons_of_neg (by simp)]
  refine List.filter_eq_self.2 fun q hq => ?_
  have := (List.pairwise_cons.1 h).1 q hq
  simp
  omega
theorem BSt.start {N' : List NEn} (h : PSR w B rb sb mb t 2 g u E X N N' d d' w1) : BSt w B rb sb mb 0 g u E X (N ++ N') d' w1 := ⟨h.road, h.bel⟩
theorem BSt.below {i : Nat} (h : BSt w B rb sb mb i g u E X M d w1) (hb : Below w.heap.size w w') : BSt w' B rb sb mb i g u E X M d w1 := ⟨h.road.below hb, h.bel.trans (hb.mono h.road.lo)⟩
theorem BSt.head {i : Nat} (h : BSt w B rb sb mb i g u E X M d w1) (hi : i < M.length) : getN (M[i]).n (M.drop i) = some M[i] ∧ delN (M[i]).n (M.drop i) = M.drop (i + 1) := by
  have hr := h.road.net.rise
  rw [List.drop_eq_getElem_cons hi] at hr ⊢
  exact ⟨getN_head, delN_head hr⟩
theorem BSt.inv {i : Nat} (hI : InvR E X (M.map (·.L))) : InvR (runP E X ((M.take i).map (·.L))).1 (runP E X ((M.take i).map (·.L))).2 ((M.drop i).map (·.L)) := by
  refine runP_inv _ E X _ ?_
  rw [← List.map_append, List.take_append_drop]
  exact hI
theorem BSt.ok {i : Nat} (hI : InvR E X (M.map (·.L))) (hi : i < M.length) : LetOk (runP E X ((M.take i).map (·.L))).1 (runP E X ((M.take i).map (·.L))).2 (M[i]).L := by
  exact (BSt.inv (i := i) hI).ok _ (List.mem_map.2 ⟨M[i], by rw [List.drop_eq_getElem_cons hi]; exact List.mem_cons_self, rfl⟩)
theorem BSt.lenT {i : Nat} (hI : InvR E X (M.map (·.L))) (hl : ∀ i, i < 2 → (X (2 + i)).length ≤ 4000) : ∀ t, t < 2 → ((runP E X ((M.take i).map (·.L))).2 (4 + t)).length ≤ 1000000 := by
  intro t ht
  have hD := (BSt.inv (i := i) hI).dir (1 - t) (by omega)
  rw [show 1 - (1 - t) = t from by omega] at hD
  have h1 := hD.mle
  rw [(runP_m _ E X).2 (2 + (1 - t)) (by omega)] at h1
  have := hl (1 - t) (by omega)
  omega
/-- a letter has come -/
theorem BSt.next {i : Nat} {w' : World} (hi : i < M.length) (r : Road w' B rb sb mb g u' (bringP (runP E X ((M.take i).map (·.L))).1 (runP E X ((M.take i).map (·.L))).2 (M[i]).L.kind (M[i]).L.to.toNat (M[i]).L.a (M[i]).L.body).1 (bringP (runP E X ((M.take i).map (·.L))).1 (runP E X ((M.take i).map (·.L))).2 (M[i]).L.kind (M[i]).L.to.toNat (M[i]).L.a (M[i]).L.body).2 (M.drop (i + 1)) d) (hb : Below B w1 w') :
    BSt w' B rb sb mb (i + 1) g u' E X M d w1 := by
  refine ⟨?_, hb⟩
  rw [List.take_succ_eq_append_getElem hi, List.map_append, runP_app]
  exact r
/-- a turn is over -/
theorem TSt.turn {w0 w2 : World} {N' : List NEn} {i : Nat} (h0 : TSt w0 B rb sb mb t g u E X N d w1) (hp : PSR w B rb sb mb t 2 g u E X N N' d d' w1) (h : BSt w2 B rb sb mb i g u' E X (N ++ N') d' w1) (hi : (N ++ N').length ≤ i) (hd : d' ≤ d + 1000) :
    TSt w2 B rb sb mb (t + 1) g u' (runP E X ((N ++ N').map (·.L))).1 (runP E X ((N ++ N').map (·.L))).2 [] d' w1 := by
  have hdk : d' ≤ 4000 + 1000 * (t + 1) := Nat.le_trans hd (Nat.le_trans (Nat.add_le_add_right h0.dk 1000) (Nat.le_of_eq (by rw [Nat.mul_succ, Nat.add_assoc])))
  have hr := h.road
  rw [List.take_of_length_le hi, List.drop_of_length_le hi] at hr
  have hm := runP_m ((N ++ N').map (·.L)) E X
  have he : (N ++ N').map (·.L) = N.map (·.L) ++ turnL E := by rw [List.map_append, hp.is]; rfl
  have hI : InvR E X (N.map (·.L) ++ turnL E) := turn_inv h0.inv
  have hs9 : ∀ i, i < 2 → (E i).s ≤ 900000 := fun i hi => by
    have h1 := (h0.lens hi).1
    have h2 := (h0.lens hi).2.1
    omega
  have hl9 : ∀ i, i < 2 → (E i).l.length ≤ 256 := fun i hi => (h0.road.ends i hi).good.ll
  have hend := turn_end hI hs9 hl9
  rw [← he] at hend
  have hInv : InvR (runP E X ((N ++ N').map (·.L))).1 (runP E X ((N ++ N').map (·.L))).2 [] := runP_inv _ E X [] (by rw [List.append_nil, he]; exact hI)
  refine ⟨hr, hInv, ?_, hdk, fun i hi => ?_, h.bel, fun _ => hend.1, fun ht => ?_⟩
  · rw [hm.2 2 (by omega), hm.2 3 (by omega)]
    have := h0.few
    show 0 + _ + _ ≤ _
    omega
  · rw [hm.2 (2 + i) (by omega)]
    exact h0.short i hi
  · by_cases h2 : 2 ≤ t
    · exact nil_stays (h0.none h2)
    · exact hend.2 (h0.full (by omega))
/-- a store into a letter's box leaves a road as it was -/
theorem Road.atLetter (h : Road w B rb sb mb g u E X N d) {gl : Nat} {cs : Array Value} (hb : Box w gl 69 cs) (hg : w.grownBy w' (some gl)) (hB : B ≤ gl) : Road w' B rb sb mb g u E X N d ∧ Below B w w' ∧ KT w w' := by
  have k : KeptE gl (.slice none 0 0) w w' := KeptE.grown hg (.inl rfl)
  have hk : ∀ q, q < w.heap.size → q ≠ gl → w'.heap[q]? = w.heap[q]? := fun q hq hne => k.block q hq hne (by simp [Value.ownBlock])
  refine ⟨⟨h.rB, (hk rb h.box.lt (box_box_ne h.box hb (by decide))).trans h.box, fun i hi => ?_, h.ne, fun i h2 h6 => ?_, h.far, net_stays h.net k hb (by decide) (World.ownsRow_nil w B 9 1)⟩, (Below.refl B w).grown hg h.lo fun q hq => by injection hq with hq; omega, KT.keptE k hb (by decide) (World.ownsRow_nil w B 9 1)⟩
  · have he := h.ends i hi
    exact he.keep (hk _ he.lt (box_box_ne he.box hb (by decide))) fun q hq => hk q (he.own.lt q hq).2 (own_no_box he.own hb (by decide) q hq)
  · have hr := h.rows i h2 h6
    exact own_keepN hr fun q hq => hk q (hr.lt q hq).2 (own_no_box hr hb (by decide) q hq)
theorem PSR.len {w0 : World} {N' : List NEn} (h0 : TSt w0 B rb sb mb t g u E X N d w1) (h : PSR w B rb sb mb t 2 g u E X N N' d d' w1) : (N ++ N').length ≤ 4002 ∧ d' ≤ d + 1000 := by
  have h1 := congrArg List.length h.is
  rw [List.length_map] at h1
  have h2 : N'.length = ((E 0).post 300).length + (1 + (((E 1).post 300).length + 1)) := by
    rw [h1]
    show (turnL E).length = _
    unfold turnL
    simp only [List.length_append, List.length_map, List.length_cons, List.length_nil]
    omega
  have a0 := post_le (E 0) 300
  have a1 := post_le (E 1) 300
  have b0 : (E 0).l.length ≤ (X 2).length := (h0.lens (i := 0) (by omega)).2.2.1
  have b1 : (E 1).l.length ≤ (X 3).length := (h0.lens (i := 1) (by omega)).2.2.1
  have c0 := (h0.road.ends 0 (by omega)).good.ll
  have c1 := (h0.road.ends 1 (by omega)).good.ll
  have hf := h0.few
  have hdk := h.dk
  rw [List.length_append]
  generalize ((E 0).post 300).length = x0 at *
  generalize ((E 1).post 300).length = x1 at *
  generalize (E 0).l.length = y0 at *
  generalize (E 1).l.length = y1 at *
  clear h1 h0 h
  omega
end
end Go.Proofs.Ytaljojjpgkmiiaa
