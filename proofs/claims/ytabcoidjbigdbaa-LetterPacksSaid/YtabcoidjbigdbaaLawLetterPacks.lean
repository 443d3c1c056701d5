/- LetterPacks: the bytes of any letter, or why it may not be, are as the document says; it is unpacked as it was. Condition: texts shorter than 2^47 bytes. -/
import Derived.Test.YtabcoidjbigdbaaLetPb
import Derived.Test.YtabcoidjbigdbaaLetM
import Derived.Test.YtabcoidjbigdbaaLetN
import Derived.Test.YtabcoidjbigdbaaLetQ
import Derived.Test.YtabcoidjbigdbaaLetP
import Derived.Test.YtabcoidjbigdbaaLetIn
import Derived.Test.YtabcoidjbigdbaaOpenLet
import Derived.Test.YtabcoidjbigdbaaRow
namespace Go.Proofs.Ytabcoidjbigdbaa
open Go.RowKit
open Go.Lib (strCells)

set_option maxRecDepth 100000 in
set_option maxHeartbeats 12800000 in
theorem packs_walk (L : Let) (Ap : Option Addr) (np cp : Nat) (Ai : Option Addr) (ni ci : Nat) (C : Nat) (w : World) (hL : LetIn w C L Ap np Ai ni) (hC : C ≤ w.heap.size) :
    Calls Try.prog 3 #[.agg #[.int .i64 L.kind, .int .i64 L.frm, .int .i64 L.to, .int .i64 L.a, .int .i64 L.b, .int .i64 L.c, .int .i64 L.d, .string L.s, .string L.t, .slice Ap np cp, .slice Ai ni ci, .int .i64 L.code, .bool L.yes, .string L.body]] w fun e w' => e = .returned (.bool true) ∧ Below w.heap.size w w' := by
  obtain ⟨W0, hW0⟩ : ∃ W0, (w.alloc (.cells #[.int .i64 L.kind, .int .i64 L.frm, .int .i64 L.to, .int .i64 L.a, .int .i64 L.b, .int .i64 L.c, .int .i64 L.d, .string L.s, .string L.t, .slice Ap np cp, .slice Ai ni ci, .int .i64 L.code, .bool L.yes, .string L.body] 26)) = W0 := ⟨_, rfl⟩
  have b0 : Below w.heap.size w W0 := hW0 ▸ below_box _
  have x0 : Box W0 w.heap.size 26 #[.int .i64 L.kind, .int .i64 L.frm, .int .i64 L.to, .int .i64 L.a, .int .i64 L.b, .int .i64 L.c, .int .i64 L.d, .string L.s, .string L.t, .slice Ap np cp, .slice Ai ni ci, .int .i64 L.code, .bool L.yes, .string L.body] := hW0 ▸ Box.made _ _ _
  have HX : Hid (∀ wx, Below W0.heap.size W0 wx → Box wx w.heap.size 26 #[.int .i64 L.kind, .int .i64 L.frm, .int .i64 L.to, .int .i64 L.a, .int .i64 L.b, .int .i64 L.c, .int .i64 L.d, .string L.s, .string L.t, .slice Ap np cp, .slice Ai ni ci, .int .i64 L.code, .bool L.yes, .string L.body] ∧ LetIn wx C L Ap np Ai ni ∧ C ≤ wx.heap.size ∧ Below w.heap.size w wx) := Lib.hid fun wx hx =>
    ⟨x0.below hx x0.lt, hL.belowOf (b0.trans (hx.mono b0.size)) hC, Nat.le_trans hC (Nat.le_trans b0.size hx.size), b0.trans (hx.mono b0.size)⟩
  have Ha := Lib.hid (awake13_any W0)
  have HcL := Lib.hid (fun wx (hx : Below W0.heap.size W0 wx) => light13_any L Ap np cp Ai ni ci C wx (HX.out wx hx).2.1.ps (HX.out wx hx).2.1.is (HX.out wx hx).2.2.1 (HX.out wx hx).2.1.lens (HX.out wx hx).2.1.txt (HX.out wx hx).2.1.txp (HX.out wx hx).2.1.txi)
  have HcP := Lib.hid (fun wx (hx : Below W0.heap.size W0 wx) => letPack_any L Ap np cp Ai ni ci C wx (HX.out wx hx).2.1.ps (HX.out wx hx).2.1.is (HX.out wx hx).2.2.1 (HX.out wx hx).2.1.lens (HX.out wx hx).2.1.txt (HX.out wx hx).2.1.txp (HX.out wx hx).2.1.txi)
  have HcR := Lib.hid (fun wx (hx : Below W0.heap.size W0 wx) => refLetPack_any L Ap np cp Ai ni ci C wx (HX.out wx hx).2.1.ps (HX.out wx hx).2.1.is (HX.out wx hx).2.2.1 (HX.out wx hx).2.1.lens (HX.out wx hx).2.1.txt (HX.out wx hx).2.1.txp (HX.out wx hx).2.1.txi)
  have HcC := Lib.hid (fun wx (hx : Below W0.heap.size W0 wx) => letCheck_any L Ap np cp Ai ni ci C wx (HX.out wx hx).2.1.ps (HX.out wx hx).2.1.is (HX.out wx hx).2.2.1 (HX.out wx hx).2.1.lens (HX.out wx hx).2.1.txt (HX.out wx hx).2.1.txp (HX.out wx hx).2.1.txi)
  unfold LetPackPost at HcP HcR
  unfold LetErrPost at HcC
  obtain ⟨sv, hsv⟩ : ∃ sv : ByteArray, ⟨L.packed.toArray⟩ = sv := ⟨_, rfl⟩
  obtain ⟨z, hz⟩ : ∃ z, L.err = z := ⟨_, rfl⟩
  rw [hsv, hz] at HcP HcR
  rw [hz] at HcC
  have Hsv := Lib.hid hsv
  have Hz := Lib.hid hz
  have hsn : (sv.toList == sv.toList) = true := by simp
  have hsn2 : (sv.toList != sv.toList) = false := by simp
  have hzn : (z != z) = false := by simp
  clear hL b0 x0 hsv hz
  go_enter Try.func3, Try.ntmps3
  go_wp2_with fail
  refine Ha.out.mono ?_
  rintro e w2 ⟨rfl, b2⟩
  have HB2 := Lib.hid b2
  clear b2 Ha hW0
  obtain ⟨⟨x0, x1, x2, x3, x4, x5, x6⟩, ⟨x7, x8⟩, ⟨x9, x10⟩, ⟨x11, x12, x13⟩⟩ := let_cells (HX.out w2 HB2.out).1
  go_wp2_with fail
  refine (HcL.out w2 HB2.out).mono ?_
  rintro e w3 ⟨bl, rfl, -, b3⟩
  have HB3 := Lib.hid (HB2.out.trans (b3.mono HB2.out.size))
  clear x0 x1 x2 x3 x4 x5 x6 x7 x8 x9 x10 x11 x12 x13 b3 HcL HB2
  cases bl with
  | false =>
    go_wp2
    go_ret
    exact ⟨rfl, (HX.out _ HB3.out).2.2.2⟩
  | true =>
  obtain ⟨⟨x0, x1, x2, x3, x4, x5, x6⟩, ⟨x7, x8⟩, ⟨x9, x10⟩, ⟨x11, x12, x13⟩⟩ := let_cells (HX.out w3 HB3.out).1
  go_wp2_with fail
  refine (HcP.out w3 HB3.out).mono ?_
  rintro e w4 ⟨rfl, b4⟩
  have HB4 := Lib.hid (HB3.out.trans (b4.mono HB3.out.size))
  clear x0 x1 x2 x3 x4 x5 x6 x7 x8 x9 x10 x11 x12 x13 b4 HcP HB3
  obtain ⟨⟨x0, x1, x2, x3, x4, x5, x6⟩, ⟨x7, x8⟩, ⟨x9, x10⟩, ⟨x11, x12, x13⟩⟩ := let_cells (HX.out w4 HB4.out).1
  go_wp2_with fail
  refine (HcR.out w4 HB4.out).mono ?_
  rintro e w5 ⟨rfl, b5⟩
  have HB5 := Lib.hid (HB4.out.trans (b5.mono HB4.out.size))
  clear x0 x1 x2 x3 x4 x5 x6 x7 x8 x9 x10 x11 x12 x13 b5 HcR HB4
  obtain ⟨⟨x0, x1, x2, x3, x4, x5, x6⟩, ⟨x7, x8⟩, ⟨x9, x10⟩, ⟨x11, x12, x13⟩⟩ := let_cells (HX.out w5 HB5.out).1
  go_wp2_with fail
  refine (HcC.out w5 HB5.out).mono ?_
  rintro e w6 ⟨rfl, b6⟩
  have HB6 := Lib.hid (HB5.out.trans (b6.mono HB5.out.size))
  clear x0 x1 x2 x3 x4 x5 x6 x7 x8 x9 x10 x11 x12 x13 b6 HcC HB5
  by_cases h0 : z = 0
  case neg =>
    have hz1 : (z != 0) = true := by simpa using h0
    have HE := Lib.hid (HX.out _ HB6.out).2.2.2
    clear h0
    go_wp2
    go_ret
    exact ⟨rfl, HE.out⟩
  subst h0
  have hpk : L.packed = formsOf L.toks := by unfold Let.packed; rw [if_pos Hz.out]
  have hsl : sv.data.toList = formsOf L.toks := by rw [← Hsv.out, hpk]
  have hU := letU_pack Hz.out
  have hsz : sv.size ≤ 65536 := by
    have h1 := (err_zero.1 Hz.out).2.2.2
    rw [← hsl] at h1
    simpa using h1
  have hun := letUnpack_any sv w6 (by simp only [maxLen]; omega)
  rw [hsl, hU] at hun
  unfold UnpPost at hun
  have Hun := Lib.hid hun
  clear hun hU hsl hpk hsz
  go_wp2_with fail
  refine Hun.out.mono ?_
  rintro e w7 ⟨Rp, rn, rc, Ri, rm, rk, rfl, op, oi, b7⟩
  dsimp only
  obtain ⟨P7, c7, e7, -, m7, k7⟩ := op.slice
  obtain ⟨I7, d7, f7, -, m8, k8⟩ := oi.slice
  injection e7 with e7 e7n e7'
  injection f7 with f7 f7n f7'
  subst e7 f7 e7n f7n
  obtain ⟨w8, hw8⟩ : ∃ w8, (w7.alloc (.cells #[.int .i64 L.kind, .int .i64 L.frm, .int .i64 L.to, .int .i64 L.a, .int .i64 L.b, .int .i64 L.c, .int .i64 L.d, .string L.s, .string L.t, .slice Rp L.ps.length rc, .slice Ri L.is.length rk, .int .i64 L.code, .bool L.yes, .string L.body] 26)) = w8 := ⟨_, rfl⟩
  have b8 : Below w7.heap.size w7 w8 := hw8 ▸ below_box _
  have z8 : Box w8 w7.heap.size 26 #[.int .i64 L.kind, .int .i64 L.frm, .int .i64 L.to, .int .i64 L.a, .int .i64 L.b, .int .i64 L.c, .int .i64 L.d, .string L.s, .string L.t, .slice Rp L.ps.length rc, .slice Ri L.is.length rk, .int .i64 L.code, .bool L.yes, .string L.body] := hw8 ▸ Box.made _ _ _
  have hb8 := HB6.out.trans ((b7.trans (b8.mono b7.size)).mono HB6.out.size)
  have hx := HX.out w8 hb8
  have hs := sameL_any L L Rp L.ps.length rc Ri L.is.length rk Ap np cp Ai ni ci w8.heap.size w8 ((k7.below b8).more b8.size) ((k8.below b8).more b8.size) (hx.2.1.ps.more hx.2.2.1) (hx.2.1.is.more hx.2.2.1) (Nat.le_refl _) ⟨by have := hx.2.1.lens.1; have := hx.2.1.ps.1; omega, by have := hx.2.1.lens.2; have := hx.2.1.is.1; omega⟩ hx.2.1.lens
  rw [decide_eq_true rfl] at hs
  have Hs := Lib.hid hs
  have HB8 := Lib.hid hb8
  obtain ⟨⟨x0, x1, x2, x3, x4, x5, x6⟩, ⟨x7, x8⟩, ⟨x9, x10⟩, ⟨x11, x12, x13⟩⟩ := let_cells z8
  obtain ⟨⟨y0, y1, y2, y3, y4, y5, y6⟩, ⟨y7, y8⟩, ⟨y9, y10⟩, ⟨y11, y12, y13⟩⟩ := let_cells hx.1
  clear hs hb8 hx op oi b7 b8 z8 m7 m8 k7 k8 e7' f7' Hun HB6
  go_wp2_with fail
  refine Hs.out.mono ?_
  rintro e w9 ⟨rfl, b9⟩
  have HE := Lib.hid (HX.out w9 (HB8.out.trans (b9.mono HB8.out.size))).2.2.2
  clear x0 x1 x2 x3 x4 x5 x6 x7 x8 x9 x10 x11 x12 x13 y0 y1 y2 y3 y4 y5 y6 y7 y8 y9 y10 y11 y12 y13 b9 Hs HB8
  go_wp2
  go_ret
  exact ⟨rfl, HE.out⟩

namespace lawLetterPacks
open Go.ChangeShapes Go.WideShapes Go.ChangeAt

theorem own : ownKnob Try.prog.godebug = none := by kernel_rfl
theorem kids : Kids Try.prog (· < Try.prog.types.size) := kids_rows (by kernel_rfl) (by kernel_rfl)
theorem full : ∀ t e, t < Try.prog.types.size → Try.prog.underlying t = some (.slice e) → 0 < Try.prog.cellsOf e := slices_full_of Try.prog (by kernel_rfl)

set_option maxRecDepth 100000 in
theorem lifted (os : Os) (started : os.Started) (H : Type) (enc : TypeId × Value → H) :
    ReturnsInHanded {} Try.checked os 3 .any (Rows.letterPacksSpec.pre6 enc Try.prog Try.f3 Rows.letterPacksRow.domain false) (Rows.letterPacksSpec.post enc Try.prog Try.f3 false true false false) := by
  refine returnsInHanded_of_change_sized (C := Try.checked) own started (by kernel_rfl) Try.func3
    (ChangeSpec.witness6 (enc := enc) (C := Try.checked) false ⟨#[], #[.agg #[.int .i64 0, .int .i64 0, .int .i64 0, .int .i64 0, .int .i64 0, .int .i64 0, .int .i64 0, .string ⟨#[]⟩, .string ⟨#[]⟩, .slice none 0 0, .slice none 0 0, .int .i64 0, .bool false, .string ⟨#[]⟩]], []⟩ 8 (by kernel_rfl) (by kernel_rfl) (by kernel_rfl) (by kernel_rfl)) ?_
  intro W base args ds gs before hval0 hW _ hz _
  have hval : ∀ (j : Nat) t v, Try.f3.params[j]? = some t → args[j]? = some v → Value.okWide Try.prog W .any base t v := hval0
  have hW' := hW
  obtain ⟨p, q, hA0, hV, rfl, _, _⟩ := hW
  obtain ⟨rfl, rfl⟩ := trodVars_none hV
  have hA : DataW.TrodAll enc Try.prog W 0 (fun _ => true) true Try.f3.params.toList args.toList ds p := hA0
  rw [Try.params3] at hA hval
  obtain ⟨v0, vs0, d0, ds0, p0, q0, hargs, rfl, rfl, h0, r0⟩ := trodAll_cons hA
  obtain ⟨rfl, rfl, rfl⟩ := trodAll_nil r0
  obtain rfl : args = #[v0] := by cases args; simp_all
  have hlt := hW'.lt
  obtain ⟨L0, Ap0, np0, cp0, Ai0, ni0, ci0, rfl, hp0, hi0, hl0, ht0, htp0, hti0⟩ := open_letter (hval 0 26 v0 rfl rfl) h0 (fun k hk => of_decide_eq_true (List.all_eq_true.1 hz _ (DataW.weights_mem_each (j := 0) (d := d0) rfl rfl k hk))) (fun x hx => hlt x (by simp [hx]))
  refine (packs_walk L0 Ap0 np0 cp0 Ai0 ni0 ci0 W.heap.size W ⟨hp0, hi0, hl0, ht0, htp0, hti0⟩ (Nat.le_refl _)).mono fun e W' ⟨he, hbel⟩ => ?_
  subst he
  exact ⟨_, rfl, law_post kids full (of_decide_eq_true (by kernel_rfl)) Try.underlying4 rfl rfl rfl hW' hbel⟩

theorem proved : Rows.LetterPacksSaid :=
  OpenClaim.holds_of_wide 3 Try.f3 rfl rfl rfl rfl rfl rfl rfl ⟨rfl, rfl, rfl, rfl, rfl⟩ rfl rfl rfl rfl rfl (by kernel_rfl) Try.func3 (by kernel_rfl)
    (of_decide_eq_true (by kernel_rfl)) (by unfold Func.isWrapper; first | (rw [if_pos (by decide +kernel)]; kernel_rfl) | (rw [if_neg (by decide +kernel)]; exact ⟨rfl, rfl⟩))
    (fun os started H enc _ => lifted os started H enc)
end lawLetterPacks

end Go.Proofs.Ytabcoidjbigdbaa
