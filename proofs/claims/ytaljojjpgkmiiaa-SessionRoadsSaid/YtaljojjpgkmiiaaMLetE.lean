/- letter.size: how many bytes a letter would have; which numbers are outside; letter.Check. Condition: texts shorter than 2^47 bytes, limits kept where the sizes are counted. -/
import Derived.Test.YtaljojjpgkmiiaaMLetD
import Derived.Deep.RegionHeld3
import Derived.Deep.RegionLaw
import Derived.Laws.EntriesVeiled
namespace Go.Proofs.Ytaljojjpgkmiiaa
open Go.RowKit
open Go.Lib (strCells)

def sizeOf : List LTok → Nat
  | [] => 0
  | x :: l => (tokForm x).length + sizeOf l
theorem sizeOf_app (A B : List LTok) : sizeOf (A ++ B) = sizeOf A + sizeOf B := by
  induction A with
  | nil => simp [sizeOf]
  | cons x l ih => simp only [List.cons_append, sizeOf, ih]; omega
theorem sizeOf_forms : ∀ T : List LTok, sizeOf T = (formsOf T).length
  | [] => rfl
  | x :: l => by
    have h9 := sizeOf_forms l
    simp only [sizeOf, formsOf, List.map_cons, List.flatten_cons, List.length_append] at h9 ⊢
    omega
def badS (t : TypeId) : Prop := t = 3
/-- the sum so far, behind the variables of the closures -/
def StS (w0 : World) (f g : Nat) (T : List LTok) (wx : World) : Prop :=
  Box wx g 3 #[.int .i64 (sizeOf T : Int)] ∧ Box wx f 65 #[.func (.func 113) #[] #[.pointer (some ⟨g, 0, none⟩)]] ∧ Below g w0 wx ∧ g < f ∧ f < wx.heap.size ∧ sizeOf T ≤ T.length * 140737488360000
theorem StS.next {w0 : World} {f g : Nat} {T : List LTok} {wx w' : World} (h : StS w0 f g T wx) (hb : Below wx.heap.size wx w') : StS w0 f g T w' :=
  ⟨h.1.below hb h.1.lt, h.2.1.below hb h.2.1.lt, h.2.2.1.trans (hb.mono (by have := h.1.lt; omega)), h.2.2.2.1, Nat.lt_of_lt_of_le h.2.2.2.2.1 hb.size, h.2.2.2.2.2⟩
theorem form_small (n : Int) (h : okNum n) : (tokForm (.n n)).length ≤ 9 := by
  show (if n < 0 then [] else numForm n.toNat).length ≤ 9
  rw [if_neg (by have := h.1; omega)]
  exact numForm_len9 (by have := h.2; have := h.1; omega)
/-- the sum after one more number -/
theorem StS.add {w0 : World} {f g : Nat} {T : List LTok} {wx w' : World} {x : LTok} {m : Int} (h : StS w0 f g T wx) (hb : Below wx.heap.size wx w') (hm : m = (sizeOf T : Int) + ((tokForm x).length : Int)) (hx : (tokForm x).length ≤ 140737488360000) :
    StS w0 f g (T ++ [x]) (w'.setCell ⟨g, 0, none⟩ (.int .i64 m)) ∧ KeepT badS wx (w'.setCell ⟨g, 0, none⟩ (.int .i64 m)) := by
  have h1 := h.next hb
  have e : sizeOf (T ++ [x]) = sizeOf T + (tokForm x).length := by rw [sizeOf_app]; simp [sizeOf]
  refine ⟨⟨?_, h1.2.1.far (p := ⟨g, 0, none⟩) (by show f ≠ g; have := h.2.2.2.1; omega) _, h1.2.2.1.setCell (Nat.le_refl _) _, h.2.2.2.1, (by have h9 : (w'.setCell ⟨g, 0, none⟩ (.int .i64 m)).heap.size = w'.heap.size := (by simp); have := h1.2.2.2.2.1; omega), ?_⟩, (KeepT.below hb).set h1.1 rfl h.1.lt⟩
  · have h8 := h1.1.set_ 0 (.int .i64 m)
    rw [e]
    push_cast
    rw [← hm]
    simpa using h8
  · rw [e, List.length_append]
    have := h.2.2.2.2.2
    simp only [List.length_cons, List.length_nil]
    omega
set_option maxRecDepth 100000 in
theorem sizeNum_any (w0 : World) (f g : Nat) (T : List LTok) (n : Int) (w : World) (h : StS w0 f g T w) (hn : 0 ≤ n ∧ n < 9223372036854775808) (hT : T.length < 10000) :
    Calls Try.prog 113 #[.int .i64 n, .pointer (some ⟨g, 0, none⟩)] w fun e w' => ∃ v w2, e = .returned (.tuple #[]) ∧ Below w.heap.size w w2 ∧ w' = w2.setCell ⟨g, 0, none⟩ v ∧ v = .int .i64 ((sizeOf T : Int) + ((numForm n.toNat).length : Int)) := by
  have HS := Lib.hid h
  have c0 : w.cell? ⟨g, 0, none⟩ = some (.int .i64 (sizeOf T : Int)) := h.1.cell 0
  have hsz : sizeOf T ≤ 10000 * 140737488360000 := Nat.le_trans h.2.2.2.2.2 (Nat.mul_le_mul_right _ (by omega))
  have hl9 := numForm_len9 (k := n.toNat) (by omega)
  obtain ⟨S, hS⟩ : ∃ S, sizeOf T = S := ⟨_, rfl⟩
  rw [hS] at c0 hsz ⊢
  have hg := h.1
  rw [hS] at hg
  have HG := Lib.hid hg
  have HN := Lib.hid (num_any n)
  obtain ⟨N, hN⟩ : ∃ N, (numForm n.toNat).length = N := ⟨_, rfl⟩
  have HNl := Lib.hid hN
  rw [hN] at hl9 ⊢
  have hm : IntKind.i64.wrap ((S : Int) + (N : Int)) = (S : Int) + (N : Int) := IntWalk.i64_in _ (by omega)
  clear h hS hN hg HS
  go_enter Try.func113, Try.ntmps113
  go_wp2
  go_region_law (first
    | (go_simp; refine (HN.out _ (by omega)).mono ?_; rintro e w3 ⟨v3, rfl, o3, b3⟩; rw [if_neg (by omega), HNl.out] at o3; obtain ⟨A3, m3, rfl, -, -, -⟩ := own_slice o3; have hb3 : Below w.heap.size w w3 := (Below.refl w.heap.size w).drew.trans b3; have c3 : w3.cell? ⟨g, 0, none⟩ = some (.int .i64 (S : Int)) := (HG.out.below hb3 HG.out.lt).cell 0; have f3 : w3.frozen? ⟨g, 0, none⟩ = false := (HG.out.below hb3 HG.out.lt).frozen 0))
  all_goals
    go_wp2
    go_end0
    exact ⟨_, w3, rfl, hb3, rfl, rfl⟩
theorem sizeN_any (w0 : World) (f g : Nat) (T : List LTok) (n : Int) (w : World) (h : StS w0 f g T w) (hn : okNum n) (hT : T.length < 10000) :
    Calls Try.prog 113 #[.int .i64 n, .pointer (some ⟨g, 0, none⟩)] w fun e w' => e = .returned (.tuple #[]) ∧ StS w0 f g (T ++ [.n n]) w' ∧ KeepT badS w w' := by
  refine (sizeNum_any w0 f g T n w h ⟨hn.1, by have := hn.2; omega⟩ hT).mono ?_
  rintro e w' ⟨v, w2, rfl, hb, rfl, rfl⟩
  have e1 : tokForm (.n n) = numForm n.toNat := if_neg (by have := hn.1; omega)
  have h9 := h.add (x := .n n) hb (by rw [e1]) (Nat.le_trans (form_small n hn) (by omega))
  exact ⟨rfl, h9.1, h9.2⟩
theorem StS.two {w0 w W : World} {f g : Nat} {T : List LTok} {x : LTok} {m : Int} {v0 : Value} (h : StS w0 f g T w) (hb : Below w.heap.size w W) (hm : m = (sizeOf T : Int) + ((tokForm x).length : Int)) (hx : (tokForm x).length ≤ 140737488360000) :
    StS w0 f g (T ++ [x]) ((W.setCell ⟨g, 0, none⟩ v0).setCell ⟨g, 0, none⟩ (.int .i64 m)) ∧ KeepT badS w ((W.setCell ⟨g, 0, none⟩ v0).setCell ⟨g, 0, none⟩ (.int .i64 m)) := by
  have h9 := h.add hb hm hx
  have e : (W.setCell ⟨g, 0, none⟩ v0).setCell ⟨g, 0, none⟩ (.int .i64 m) = W.setCell ⟨g, 0, none⟩ (.int .i64 m) := by
    have hB := (h.next hb).1
    unfold Box at hB
    have hl := (Array.getElem?_eq_some_iff.1 hB).1
    unfold World.setCell
    simp only
    congr 1
    apply Array.ext
    · simp
    · intro i h1 h2
      simp only [Array.getElem_modify]
      by_cases hi : g = i
      · subst hi
        have hg : W.heap[g] = .cells #[.int .i64 (sizeOf T : Int)] 3 (0, 0) := by
          obtain ⟨_, h3⟩ := Array.getElem?_eq_some_iff.1 hB
          exact h3
        simp [hg]
      · simp [hi]
  rw [e]
  exact h9
set_option maxRecDepth 100000 in
theorem sizeT_any (w0 : World) (f g : Nat) (T : List LTok) (s : ByteArray) (w : World) (h : StS w0 f g T w) (hs : s.size ≤ 140737488355328) (hT : T.length < 10000) :
    Calls Try.prog 114 #[.string s, .pointer (some ⟨f, 0, none⟩), .pointer (some ⟨g, 0, none⟩)] w fun e w' => e = .returned (.tuple #[]) ∧ StS w0 f g (T ++ [.t s]) w' ∧ KeepT badS w w' := by
  have HS := Lib.hid h
  have d0 : w.cell? ⟨f, 0, none⟩ = some (.func (.func 113) #[] #[.pointer (some ⟨g, 0, none⟩)]) := h.2.1.cell 0
  have hsz : sizeOf T ≤ 10000 * 140737488360000 := Nat.le_trans h.2.2.2.2.2 (Nat.mul_le_mul_right _ (by omega))
  have hl9 := numForm_len9 (k := s.size) (by omega)
  have HC := Lib.hid (sizeNum_any w0 f g T (s.size : Int) w h ⟨by omega, by omega⟩ hT)
  rw [Int.toNat_natCast] at HC
  have HF : Hid ((tokForm (.t s)).length = (numForm s.size).length + s.size) := Lib.hid (by show (textForm s.data.toList).length = _; rw [textForm_len, size_bytes])
  obtain ⟨S, hS⟩ : ∃ S, sizeOf T = S := ⟨_, rfl⟩
  obtain ⟨N, hN⟩ : ∃ N, (numForm s.size).length = N := ⟨_, rfl⟩
  rw [hS] at hsz HC
  rw [hN] at hl9 HC HF
  have HSe := Lib.hid hS
  clear h hS hN
  go_enter Try.func114, Try.ntmps114
  go_wp2_with fail
  refine HC.out.mono ?_
  rintro e w' ⟨v, w2, rfl, hb, rfl, rfl⟩
  have hbx := ((HS.out.next hb).1.set_ 0 (.int .i64 ((S : Int) + (N : Int))))
  have c1 : (w2.setCell ⟨g, 0, none⟩ (.int .i64 ((S : Int) + (N : Int)))).cell? ⟨g, 0, none⟩ = some (.int .i64 ((S : Int) + (N : Int))) := by rw [hbx.cell]; simp
  have f1 : (w2.setCell ⟨g, 0, none⟩ (.int .i64 ((S : Int) + (N : Int)))).frozen? ⟨g, 0, none⟩ = false := hbx.frozen 0
  have HE := Lib.hid (HS.out.two (x := .t s) (v0 := .int .i64 ((S : Int) + (N : Int))) (m := (S : Int) + (N : Int) + (s.size : Int)) hb (by rw [HF.out, HSe.out]; push_cast; omega) (by rw [HF.out]; omega))
  have hwn : IntKind.i64.wrap ((S : Int) + (N : Int) + (s.size : Int)) = (S : Int) + (N : Int) + (s.size : Int) := IntWalk.i64_in _ (by omega)
  clear hb hbx
  go_wp2
  go_end0
  exact ⟨rfl, HE.out.1, HE.out.2⟩
set_option maxRecDepth 100000 in
set_option maxHeartbeats 3200000 in
/-- how many bytes a letter would have -/
theorem size_any (L : Let) (Ap : Option Addr) (np cp : Nat) (Ai : Option Addr) (ni ci : Nat) (C : Nat) (w : World) (hP : HasLps w C Ap np L.ps) (hI : HasLis w C Ai ni L.is) (hC : C ≤ w.heap.size) (hin : L.inside) (hp : np ≤ 256) (hi : ni ≤ 256) (ht : ∀ s ∈ L.txts, s.size ≤ 140737488355328) (htp : ∀ p ∈ L.ps, p.k.size ≤ 140737488355328 ∧ p.v.size ≤ 140737488355328) (hti : ∀ p ∈ L.is, p.e.size ≤ 140737488355328) :
    Calls Try.prog 88 #[.agg #[.int .i64 L.kind, .int .i64 L.frm, .int .i64 L.to, .int .i64 L.a, .int .i64 L.b, .int .i64 L.c, .int .i64 L.d, .string L.s, .string L.t, .slice Ap np cp, .slice Ai ni ci, .int .i64 L.code, .bool L.yes, .string L.body]] w fun e w' => e = .returned (.int .i64 ((formsOf L.toks).length : Int)) ∧ Below w.heap.size w w' := by
  have HT := Lib.hid (fun (wx : World) (hx : StS ((w.alloc (.cells #[.int .i64 L.kind, .int .i64 L.frm, .int .i64 L.to, .int .i64 L.a, .int .i64 L.b, .int .i64 L.c, .int .i64 L.d, .string L.s, .string L.t, .slice Ap np cp, .slice Ai ni ci, .int .i64 L.code, .bool L.yes, .string L.body] 69)).alloc (.cells #[.int .i64 0] 3)) (w.heap.size + 1 + 1) (w.heap.size + 1) [] wx) => tellS_any (StS ((w.alloc (.cells #[.int .i64 L.kind, .int .i64 L.frm, .int .i64 L.to, .int .i64 L.a, .int .i64 L.b, .int .i64 L.c, .int .i64 L.d, .string L.s, .string L.t, .slice Ap np cp, .slice Ai ni ci, .int .i64 L.code, .bool L.yes, .string L.body] 69)).alloc (.cells #[.int .i64 0] 3)) (w.heap.size + 1 + 1) (w.heap.size + 1)) badS (by unfold badS; decide) (by unfold badS; decide) (by unfold badS; decide) (w.heap.size + 1 + 1) (w.heap.size + 1) L Ap np cp Ai ni ci C 140737488355328 wx
    (fun T wx h => by
      have hb1 : Below w.heap.size w ((w.alloc (.cells #[.int .i64 L.kind, .int .i64 L.frm, .int .i64 L.to, .int .i64 L.a, .int .i64 L.b, .int .i64 L.c, .int .i64 L.d, .string L.s, .string L.t, .slice Ap np cp, .slice Ai ni ci, .int .i64 L.code, .bool L.yes, .string L.body] 69)).alloc (.cells #[.int .i64 0] 3)) := (below_box _).alloc (by simp) _
      have hb := hb1.trans (h.2.2.1.mono (Nat.le_succ _))
      exact ⟨hP.belowOf hb hC, hI.belowOf hb hC, Nat.le_trans hC hb.size⟩)
    (fun T wx w' h hb => h.next hb) (fun T n wx h hn hT => sizeN_any _ _ _ T n wx h hn (by omega)) (fun T s wx h hs hT => sizeT_any _ _ _ T s wx h hs (by omega)) hx hin hp hi ht htp hti)
  have HS0 : Hid (StS ((w.alloc (.cells #[.int .i64 L.kind, .int .i64 L.frm, .int .i64 L.to, .int .i64 L.a, .int .i64 L.b, .int .i64 L.c, .int .i64 L.d, .string L.s, .string L.t, .slice Ap np cp, .slice Ai ni ci, .int .i64 L.code, .bool L.yes, .string L.body] 69)).alloc (.cells #[.int .i64 0] 3)) (w.heap.size + 1 + 1) (w.heap.size + 1) [] (((w.alloc (.cells #[.int .i64 L.kind, .int .i64 L.frm, .int .i64 L.to, .int .i64 L.a, .int .i64 L.b, .int .i64 L.c, .int .i64 L.d, .string L.s, .string L.t, .slice Ap np cp, .slice Ai ni ci, .int .i64 L.code, .bool L.yes, .string L.body] 69)).alloc (.cells #[.int .i64 0] 3)).alloc (.cells #[.func (.func 113) #[] #[.pointer (some ⟨w.heap.size + 1, 0, none⟩)]] 65))) := Lib.hid
    ⟨by have h9 := (Box.made (w.alloc (.cells #[.int .i64 L.kind, .int .i64 L.frm, .int .i64 L.to, .int .i64 L.a, .int .i64 L.b, .int .i64 L.c, .int .i64 L.d, .string L.s, .string L.t, .slice Ap np cp, .slice Ai ni ci, .int .i64 L.code, .bool L.yes, .string L.body] 69)) 3 #[.int .i64 0]).alloc (.cells #[.func (.func 113) #[] #[.pointer (some ⟨w.heap.size + 1, 0, none⟩)]] 65); simp only [World.size_alloc] at h9; exact h9,
     by have h9 := Box.made ((w.alloc (.cells #[.int .i64 L.kind, .int .i64 L.frm, .int .i64 L.to, .int .i64 L.a, .int .i64 L.b, .int .i64 L.c, .int .i64 L.d, .string L.s, .string L.t, .slice Ap np cp, .slice Ai ni ci, .int .i64 L.code, .bool L.yes, .string L.body] 69)).alloc (.cells #[.int .i64 0] 3)) 65 #[.func (.func 113) #[] #[.pointer (some ⟨w.heap.size + 1, 0, none⟩)]]; simp only [World.size_alloc] at h9; exact h9,
     (below_box _).mono (by simp), by omega, by simp, by simp [sizeOf]⟩
  have HB0 : Hid (Below w.heap.size w ((w.alloc (.cells #[.int .i64 L.kind, .int .i64 L.frm, .int .i64 L.to, .int .i64 L.a, .int .i64 L.b, .int .i64 L.c, .int .i64 L.d, .string L.s, .string L.t, .slice Ap np cp, .slice Ai ni ci, .int .i64 L.code, .bool L.yes, .string L.body] 69)).alloc (.cells #[.int .i64 0] 3))) := Lib.hid ((below_box _).alloc (by simp) _)
  have HT1 := Lib.hid (HT.out _ HS0.out)
  have hbx := HS0.out.2.1
  have d0 : (((w.alloc (.cells #[.int .i64 L.kind, .int .i64 L.frm, .int .i64 L.to, .int .i64 L.a, .int .i64 L.b, .int .i64 L.c, .int .i64 L.d, .string L.s, .string L.t, .slice Ap np cp, .slice Ai ni ci, .int .i64 L.code, .bool L.yes, .string L.body] 69)).alloc (.cells #[.int .i64 0] 3)).alloc (.cells #[.func (.func 113) #[] #[.pointer (some ⟨w.heap.size + 1, 0, none⟩)]] 65)).cell? ⟨w.heap.size + 1 + 1, 0, none⟩ = some (.func (.func 113) #[] #[.pointer (some ⟨w.heap.size + 1, 0, none⟩)]) := hbx.cell 0
  have hbl : Box (((w.alloc (.cells #[.int .i64 L.kind, .int .i64 L.frm, .int .i64 L.to, .int .i64 L.a, .int .i64 L.b, .int .i64 L.c, .int .i64 L.d, .string L.s, .string L.t, .slice Ap np cp, .slice Ai ni ci, .int .i64 L.code, .bool L.yes, .string L.body] 69)).alloc (.cells #[.int .i64 0] 3)).alloc (.cells #[.func (.func 113) #[] #[.pointer (some ⟨w.heap.size + 1, 0, none⟩)]] 65)) w.heap.size 69 #[.int .i64 L.kind, .int .i64 L.frm, .int .i64 L.to, .int .i64 L.a, .int .i64 L.b, .int .i64 L.c, .int .i64 L.d, .string L.s, .string L.t, .slice Ap np cp, .slice Ai ni ci, .int .i64 L.code, .bool L.yes, .string L.body] := ((Box.made w 69 #[.int .i64 L.kind, .int .i64 L.frm, .int .i64 L.to, .int .i64 L.a, .int .i64 L.b, .int .i64 L.c, .int .i64 L.d, .string L.s, .string L.t, .slice Ap np cp, .slice Ai ni ci, .int .i64 L.code, .bool L.yes, .string L.body]).alloc _).alloc _
  obtain ⟨⟨e0, e1, e2, e3, e4, e5, e6⟩, ⟨e7, e8⟩, ⟨e9, e10⟩, ⟨e11, e12, e13⟩⟩ := let_cells hbl
  clear hP hI hin ht htp hti HT HS0 hbx hbl
  go_enter Try.func88, Try.ntmps88
  go_wp2_with fail
  refine HT1.out.mono ?_
  rintro e w5 ⟨rfl, hs5, -⟩
  have c5 : w5.cell? ⟨w.heap.size + 1, 0, none⟩ = some (.int .i64 (sizeOf L.toks : Int)) := hs5.1.cell 0
  have HE := Lib.hid (HB0.out.trans (hs5.2.2.1.mono (Nat.le_succ _)))
  rw [sizeOf_forms] at c5
  clear hs5
  go_wp2
  go_ret
  exact ⟨rfl, HE.out⟩
end Go.Proofs.Ytaljojjpgkmiiaa
