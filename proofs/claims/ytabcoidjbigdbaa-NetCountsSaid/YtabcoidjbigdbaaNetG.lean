/- The example that each law of layer 14 begins with holds. No condition. -/
import Derived.Test.YtabcoidjbigdbaaNetF
import Derived.Test.YtabcoidjbigdbaaNetB
namespace Go.Proofs.Ytabcoidjbigdbaa
open Go.RowKit

def exN : Let := ⟨0, 0, 0, 0, 0, 0, 0, ⟨#[97]⟩, ⟨#[]⟩, [], [], 0, false, ⟨#[]⟩⟩
theorem exN_err : exN.err = 0 := err_zero.2 ⟨by decide, by decide, by decide, by
  have h0 : numForm 0 = [0] := numForm_lo (by omega)
  have h1 : numForm 1 = [1] := numForm_lo (by omega)
  show (numForm 0 ++ (numForm 0 ++ (numForm 0 ++ (numForm 0 ++ (numForm 0 ++ (numForm 0 ++ (numForm 0 ++ (numForm 0 ++ (numForm 0 ++ ((numForm 1 ++ [97]) ++ ((numForm 0 ++ []) ++ ((numForm 0 ++ []) ++ (numForm 0 ++ (numForm 0 ++ [])))))))))))))).length ≤ _
  rw [h0, h1]
  decide⟩
theorem wf_small (n : Int) (h : 0 ≤ n) (h2 : n ≤ 1000000000000) : (Lit.int .i64 n).wf = true := by
  obtain ⟨k, rfl⟩ : ∃ k : Nat, n = (k : Int) := ⟨n.toNat, by omega⟩
  exact wf_nat k (by omega)
/-- what Send leaves of a right letter, where there is room -/
theorem SendPost.ok {B sb mb d : Nat} {E : List NEn} {L : Let} {w w' : World} {e : Ending} (h : SendPost B sb mb E d L w e w') (hL : L.err = 0) (hE : E.length < 4096) :
    ∃ en : NEn, en.n = ((d + 1 : Nat) : Int) ∧ en.L = L ∧ e = .returned (.tuple #[.int .i64 ((d + 1 : Nat) : Int), .int .i64 0]) ∧ NetAt w' B sb mb (E ++ [en]) (d + 1) ∧
    (OwnLps w' w.heap.size (.slice en.Ap L.ps.length en.cp) L.ps ∧ OwnLis w' w.heap.size (.slice en.Ai L.is.length en.ci) L.is) ∧ Kept2 sb mb w w' := by
  rcases h with ⟨h1, -⟩ | ⟨-, h⟩
  · exact absurd hL h1
  · rcases h with ⟨h1, -⟩ | ⟨-, h⟩
    · omega
    · exact h
set_option maxRecDepth 100000 in
set_option maxHeartbeats 6400000 in
theorem awake14_any (w : World) : Calls Try.prog 20 #[] w fun e w' => e = .returned (.bool true) ∧ Below w.heap.size w w' := by
  go_enter Try.func20, Try.ntmps20
  go_wp2_with fail
  refine (netNew_any w).mono ?_
  rintro e w1 ⟨sb, mb, rfl, n1, b1⟩
  have Hs : Hid (Calls Try.prog 22 #[.pointer (some ⟨sb, 0, none⟩), .agg #[.int .i64 0, .int .i64 0, .int .i64 0, .int .i64 0, .int .i64 0, .int .i64 0, .int .i64 0, .string ⟨#[97]⟩, .string ⟨#[]⟩, .slice none 0 0, .slice none 0 0, .int .i64 0, .bool false, .string ⟨#[]⟩]] w1 (SendPost w.heap.size sb mb [] 0 exN w1)) :=
    Lib.hid (netSend_any n1 b1.size (by omega) exN none 0 0 none 0 0 (fun wx _ => ⟨HasLps.nil _ _ _, HasLis.nil _ _ _⟩) ⟨by simp [maxLen], by simp [maxLen]⟩ (by decide) (by simp [exN]) (by simp [exN]))
  have N1 := Lib.hid n1
  have B1 := Lib.hid b1
  clear n1 b1
  go_wp2_with fail
  refine Hs.out.mono ?_
  rintro e w2 hp
  obtain ⟨en, hn, hL, rfl, n2, -, k2⟩ := hp.ok exN_err (by simp)
  have hb2 := B1.out.trans (k2.below N1.out.sB N1.out.mB B1.out.size)
  obtain ⟨n, Ap, cp, Ai, ci, L⟩ := en
  simp only at hn hL
  subst hn hL
  have Ht := Lib.hid (netTwice_any n2 hb2.size (by omega) 1 (wf_small 1 (by omega) (by omega)))
  have HB2 := Lib.hid hb2
  have N2 := Lib.hid n2
  clear hb2 n2 k2 hp Hs N1
  go_wp2_with fail
  refine Ht.out.mono ?_
  rintro e w3 hp
  rcases hp with ⟨hg, -⟩ | ⟨e0, hg, hp⟩
  · exact absurd hg (by simp [getN])
  have h0 : e0 = ⟨((0 + 1 : Nat) : Int), Ap, cp, Ai, ci, exN⟩ := by simpa [getN] using hg.symm
  subst h0
  rcases hp with ⟨h1, -⟩ | ⟨-, en, hn, hL, rfl, n3, -, k3⟩
  · simp at h1
  have hb3 := HB2.out.trans (k3.below N2.out.sB N2.out.mB HB2.out.size)
  obtain ⟨n, Bp, dp, Bi, di, L⟩ := en
  simp only at hn hL
  subst hn hL
  have Hd := Lib.hid (netDeliver_any n3 1 (wf_small 1 (by omega) (by omega)))
  have HB3 := Lib.hid hb3
  have N3 := Lib.hid n3
  clear hb3 n3 k3 Ht N2 hg
  go_wp2_with fail
  refine Hd.out.mono ?_
  rintro e w4 hp
  rcases hp with ⟨hg, -⟩ | ⟨e0, hg, rfl, n4, -, k4⟩
  · exact absurd hg (by simp [getN])
  have h0 : e0 = ⟨((0 + 1 : Nat) : Int), Ap, cp, Ai, ci, exN⟩ := by simpa [getN] using hg.symm
  subst h0
  have hb4 := HB3.out.trans (k4.below N3.out.sB N3.out.mB HB3.out.size)
  have hdl : delN 1 ([⟨((0 + 1 : Nat) : Int), Ap, cp, Ai, ci, exN⟩] ++ [⟨((0 + 1 + 1 : Nat) : Int), Bp, dp, Bi, di, exN⟩]) = [⟨((0 + 1 + 1 : Nat) : Int), Bp, dp, Bi, di, exN⟩] := by simp [delN]
  have e1 : ([] ++ [(⟨((0 + 1 : Nat) : Int), Ap, cp, Ai, ci, exN⟩ : NEn)] ++ [⟨((0 + 1 + 1 : Nat) : Int), Bp, dp, Bi, di, exN⟩] : List NEn) = [⟨((0 + 1 : Nat) : Int), Ap, cp, Ai, ci, exN⟩] ++ [⟨((0 + 1 + 1 : Nat) : Int), Bp, dp, Bi, di, exN⟩] := rfl
  rw [e1, hdl] at n4
  obtain ⟨X, hX⟩ : ∃ X, exN = X := ⟨_, rfl⟩
  have hs : X.s = ⟨#[97]⟩ := by rw [← hX]; rfl
  rw [hX] at n4
  simp only [hX] 
  have HL : Hid (∀ wx, Below w4.heap.size w4 wx → Calls Try.prog 34 #[.pointer (some ⟨sb, 0, none⟩)] wx fun e w' => e = .returned (.int .i64 1) ∧ Below wx.heap.size wx w') := Lib.hid fun wx hx => netLen_any (n4.below hx)
  have HB4 := Lib.hid hb4
  clear hb4 n4 k4 Hd N3 hg hdl e1 hX
  obtain ⟨c0, c1, c2, c3, c4, c5, c6, c7, c8, ps, is, c11, c12, c13⟩ := X
  simp only at hs ⊢
  subst hs
  have hbx := below_box (w := w4) (.cells #[.int .i64 c0, .int .i64 c1, .int .i64 c2, .int .i64 c3, .int .i64 c4, .int .i64 c5, .int .i64 c6, .string ⟨#[97]⟩, .string c8, .slice Ap ps.length cp, .slice Ai is.length ci, .int .i64 c11, .bool c12, .string c13] 26)
  have HL2 := Lib.hid (HL.out _ hbx)
  have HB5 := Lib.hid (HB4.out.trans (hbx.mono HB4.out.size))
  clear hbx HL
  go_wp2_with fail
  refine HL2.out.mono ?_
  rintro e w5 ⟨rfl, b5⟩
  have HE := Lib.hid (HB5.out.trans (b5.mono HB5.out.size))
  clear b5
  go_wp2
  go_ret
  exact ⟨rfl, HE.out⟩
end Go.Proofs.Ytabcoidjbigdbaa
