/- Two copies of a letter side by side, the first one's rows written over. No condition. -/
import Derived.Test.YtabcoidjbigdbaaLetX
namespace Go.Proofs.Ytabcoidjbigdbaa
open Go.RowKit

structure KMid (w5 W : World) (L : Let) (g5 g6 : Nat) (P1 : Option Addr) (p1 : Nat) (I1 : Option Addr) (i1 : Nat) (P2 : Option Addr) (p2 : Nat) (I2 : Option Addr) (i2 : Nat) (ls : List LPr) (is : List LIt) : Prop where
  b5 : Box W g5 26 #[.int .i64 L.kind, .int .i64 L.frm, .int .i64 L.to, .int .i64 L.a, .int .i64 L.b, .int .i64 L.c, .int .i64 L.d, .string L.s, .string L.t, .slice P1 L.ps.length p1, .slice I1 L.is.length i1, .int .i64 L.code, .bool L.yes, .string L.body]
  b6 : Box W g6 26 #[.int .i64 L.kind, .int .i64 L.frm, .int .i64 L.to, .int .i64 L.a, .int .i64 L.b, .int .i64 L.c, .int .i64 L.d, .string L.s, .string L.t, .slice P2 L.ps.length p2, .slice I2 L.is.length i2, .int .i64 L.code, .bool L.yes, .string L.body]
  ne : g5 ≠ g6
  h5 : w5.heap.size ≤ g5
  h6 : w5.heap.size ≤ g6
  op1 : W.ownsRow w5.heap.size 38 2 (.slice P1 L.ps.length p1) L.ps.length (lpCells ls)
  oi1 : W.ownsRow w5.heap.size 40 3 (.slice I1 L.is.length i1) L.is.length (liCells is)
  l1 : ls.length = L.ps.length
  l2 : is.length = L.is.length
  op2 : OwnLps W w5.heap.size (.slice P2 L.ps.length p2) L.ps
  oi2 : OwnLis W w5.heap.size (.slice I2 L.is.length i2) L.is
  sp : ∀ g, (Value.slice P1 L.ps.length p1).ownBlock = some g → (Value.slice P2 L.ps.length p2).ownBlock ≠ some g
  si : ∀ g, (Value.slice I1 L.is.length i1).ownBlock = some g → (Value.slice I2 L.is.length i2).ownBlock ≠ some g
  below : Below w5.heap.size w5 W
section
variable {w5 W : World} {L : Let} {g5 g6 : Nat} {P1 : Option Addr} {p1 : Nat} {I1 : Option Addr} {i1 : Nat} {P2 : Option Addr} {p2 : Nat} {I2 : Option Addr} {i2 : Nat} {ls : List LPr} {is : List LIt}
theorem KFin.mid (h : KFin w5 W L g5 g6 P1 p1 I1 i1 P2 p2 I2 i2) : KMid w5 W L g5 g6 P1 p1 I1 i1 P2 p2 I2 i2 L.ps L.is :=
  ⟨h.b5, h.b6, h.ne, h.h5, h.h6, h.op1, h.oi1, rfl, rfl, h.op2, h.oi2, h.sp, h.si, h.below⟩
theorem KMid.drewN (h : KMid w5 W L g5 g6 P1 p1 I1 i1 P2 p2 I2 i2 ls is) (q : Nat) : KMid w5 (W.drewN q) L g5 g6 P1 p1 I1 i1 P2 p2 I2 i2 ls is :=
  ⟨h.b5, h.b6, h.ne, h.h5, h.h6, h.op1, h.oi1, h.l1, h.l2, h.op2, h.oi2, h.sp, h.si, ⟨h.below.os, h.below.tape, h.below.output, h.below.size, h.below.block⟩⟩
theorem types3 : (38 : TypeId) ≠ 26 ∧ (40 : TypeId) ≠ 26 ∧ (38 : TypeId) ≠ 40 := by decide
/-- rows of unlike elements lie in unlike blocks -/
theorem own_own_ne {B B' m m' s s' g : Nat} {e e' : TypeId} {v v' : Value} {xs xs' : List Value} (h : W.ownsRow B e s v m xs) (h' : W.ownsRow B' e' s' v' m' xs') (hne : e ≠ e') (hg : v.ownBlock = some g) : ∀ b, v'.ownBlock = some b → b ≠ g := by
  intro b hb e0
  subst e0
  rcases h.2 with ⟨rfl, _⟩ | ⟨g1, cap, cur, rfl, hB, hh, rest⟩
  · cases hg
  · cases hg
    rcases h'.2 with ⟨rfl, _⟩ | ⟨g2, cap', cur', rfl, hB', hh', rest'⟩
    · cases hb
    · cases hb
      rw [hh] at hh'
      injection hh' with hh'
      injection hh' with _ hh'
      exact hne hh'
theorem KMid.storeP (h : KMid w5 W L g5 g6 P1 p1 I1 i1 P2 p2 I2 i2 ls is) {k g : Nat} {p : LPr} (hk : k < L.ps.length) (hp : ls[k]? = some p) (hg : P1 = some ⟨g, 0, none⟩) (s : ByteArray) :
    KMid w5 (W.setCell ⟨g, k * 2, none⟩ (.string s)) L g5 g6 P1 p1 I1 i1 P2 p2 I2 i2 (ls.set k ⟨s, p.v⟩) is := by
  obtain ⟨g', p', e, hB, hlt, hp', -, -, -, hk1, -⟩ := lp_edit h.op1 h.l1 hk
  subst hg
  injection e with e
  injection e with e
  subst e
  rw [hp] at hp'
  injection hp' with hp'
  subst hp'
  obtain ⟨o1, gr⟩ := hk1 s
  have hb1 : (Value.slice (some ⟨g, 0, none⟩) L.ps.length p1).ownBlock = some g := rfl
  exact ⟨h.b5.grown gr (fun e => own_box_ne h.op1 h.b5 types3.1 g hb1 (by injection e with e; exact e.symm)), h.b6.grown gr (fun e => own_box_ne h.op1 h.b6 types3.1 g hb1 (by injection e with e; exact e.symm)), h.ne, h.h5, h.h6, o1,
    own_grownT h.oi1 gr (own_own_ne h.op1 h.oi1 types3.2.2 hb1), by simpa using h.l1, h.l2, own_grownT h.op2 gr (fun b hb e => h.sp g hb1 (by rw [hb, e])), own_grownT h.oi2 gr (own_own_ne h.op1 h.oi2 types3.2.2 hb1), h.sp, h.si,
    h.below.grown gr h.below.size (fun g' hg' => by injection hg' with hg'; omega)⟩
theorem KMid.storeI (h : KMid w5 W L g5 g6 P1 p1 I1 i1 P2 p2 I2 i2 ls is) {k g : Nat} {p : LIt} (hk : k < L.is.length) (hp : is[k]? = some p) (hg : I1 = some ⟨g, 0, none⟩) (b : Bool) :
    KMid w5 (W.setCell ⟨g, k * 3 + 2, none⟩ (.bool b)) L g5 g6 P1 p1 I1 i1 P2 p2 I2 i2 ls (is.set k ⟨p.e, p.v, b⟩) := by
  obtain ⟨g', p', e, hB, hlt, hp', -, -, hk1⟩ := li_edit h.oi1 h.l2 hk
  subst hg
  injection e with e
  injection e with e
  subst e
  rw [hp] at hp'
  injection hp' with hp'
  subst hp'
  obtain ⟨o1, gr⟩ := hk1 b
  have hb1 : (Value.slice (some ⟨g, 0, none⟩) L.is.length i1).ownBlock = some g := rfl
  exact ⟨h.b5.grown gr (fun e => own_box_ne h.oi1 h.b5 types3.2.1 g hb1 (by injection e with e; exact e.symm)), h.b6.grown gr (fun e => own_box_ne h.oi1 h.b6 types3.2.1 g hb1 (by injection e with e; exact e.symm)), h.ne, h.h5, h.h6,
    own_grownT h.op1 gr (own_own_ne h.oi1 h.op1 types3.2.2.symm hb1), o1, h.l1, by simpa using h.l2, own_grownT h.op2 gr (own_own_ne h.oi1 h.op2 types3.2.2.symm hb1), own_grownT h.oi2 gr (fun b hb e => h.si g hb1 (by rw [hb, e])), h.sp, h.si,
    h.below.grown gr h.below.size (fun g' hg' => by injection hg' with hg'; omega)⟩
theorem KMid.alloc (h : KMid w5 W L g5 g6 P1 p1 I1 i1 P2 p2 I2 i2 ls is) (o : Obj) : KMid w5 (W.alloc o) L g5 g6 P1 p1 I1 i1 P2 p2 I2 i2 ls is :=
  ⟨h.b5.alloc o, h.b6.alloc o, h.ne, h.h5, h.h6, h.op1.alloc o, h.oi1.alloc o, h.l1, h.l2, World.ownsRow.alloc h.op2 o, World.ownsRow.alloc h.oi2 o, h.sp, h.si, h.below.alloc h.below.size o⟩
/-- behind an append onto the first one's pairs the second one is as it was -/
theorem KMid.after {w' : World} (h : KMid w5 W L g5 g6 P1 p1 I1 i1 P2 p2 I2 i2 ls is) (gr : W.grownBy w' (Value.slice P1 L.ps.length p1).ownBlock) :
    Box w' g5 26 #[.int .i64 L.kind, .int .i64 L.frm, .int .i64 L.to, .int .i64 L.a, .int .i64 L.b, .int .i64 L.c, .int .i64 L.d, .string L.s, .string L.t, .slice P1 L.ps.length p1, .slice I1 L.is.length i1, .int .i64 L.code, .bool L.yes, .string L.body] ∧ Box w' g6 26 #[.int .i64 L.kind, .int .i64 L.frm, .int .i64 L.to, .int .i64 L.a, .int .i64 L.b, .int .i64 L.c, .int .i64 L.d, .string L.s, .string L.t, .slice P2 L.ps.length p2, .slice I2 L.is.length i2, .int .i64 L.code, .bool L.yes, .string L.body] ∧
    OwnLps w' w5.heap.size (.slice P2 L.ps.length p2) L.ps ∧ OwnLis w' w5.heap.size (.slice I2 L.is.length i2) L.is ∧ Below w5.heap.size w5 w' := by
  cases hb : (Value.slice P1 L.ps.length p1).ownBlock with
  | none =>
    rw [hb] at gr
    have ok : ∀ {B m s : Nat} {e : TypeId} {v : Value} {xs : List Value}, W.ownsRow B e s v m xs → w'.ownsRow B e s v m xs := fun {B m s e v xs} ho => by
      refine ⟨ho.1, ?_⟩
      rcases ho.2 with hn | ⟨b, cap, cur, rfl, hB', hb', rest⟩
      · exact .inl hn
      · exact .inr ⟨b, cap, cur, rfl, hB', (gr.block b (Array.getElem?_eq_some_iff.1 hb').1 (by simp)).trans hb', rest⟩
    exact ⟨h.b5.grown gr (by simp), h.b6.grown gr (by simp), ok h.op2, ok h.oi2, h.below.grown gr h.below.size (fun g hg => by cases hg)⟩
  | some g =>
    rw [hb] at gr
    have hB := (h.op1.lt g hb).1
    exact ⟨h.b5.grown gr (fun e => own_box_ne h.op1 h.b5 types3.1 g hb (by injection e with e; exact e.symm)), h.b6.grown gr (fun e => own_box_ne h.op1 h.b6 types3.1 g hb (by injection e with e; exact e.symm)),
      own_grownT h.op2 gr (fun b hb' e => h.sp g hb (by rw [hb', e])), own_grownT h.oi2 gr (own_own_ne h.op1 h.oi2 types3.2.2 hb), h.below.grown gr h.below.size (fun g' hg' => by injection hg' with hg'; omega)⟩
end
end Go.Proofs.Ytabcoidjbigdbaa
