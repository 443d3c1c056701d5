/- NetFull: there are never more letters under way than may be; what is refused then goes when one is taken out. No condition. -/
import Derived.Test.YtabcoidjbigdbaaNetH
import Derived.Test.YtabcoidjbigdbaaRow
import Derived.Test.YtabcoidjbigdbaaOpen
namespace Go.Proofs.Ytabcoidjbigdbaa
open Go.RowKit

set_option maxRecDepth 100000 in
set_option maxHeartbeats 6400000 in
theorem full_walk (k : Int) (hk : (Lit.int .i64 k).wf = true) (w : World) : Calls Try.prog 7 #[.int .i64 k] w fun e w' => e = .returned (.bool true) ∧ Below w.heap.size w w' := by
  have Ha := Lib.hid (awake14_any w)
  have HK := Lib.hid hk
  clear hk
  go_enter Try.func7, Try.ntmps7
  go_wp2_with fail
  refine Ha.out.mono ?_
  rintro e w1 ⟨rfl, b1⟩
  have B1 := Lib.hid b1
  clear b1 Ha
  go_wp2_with fail
  refine (netNew_any w1).mono ?_
  rintro e w2 ⟨sb, mb, rfl, n2, b2⟩
  have HN := Lib.hid n2
  have HB := Lib.hid (B1.out.trans (b2.mono B1.out.size))
  have HBs : Hid (w1.heap.size ≤ w2.heap.size) := Lib.hid b2.size
  have HS0 : Hid (w.heap.size ≤ w1.heap.size) := Lib.hid B1.out.size
  clear n2 b2 B1
  go_wp2
  go_loopw [4] (fun iv wr => ∃ (d : Nat) (E : List NEn), d ≤ 4096 ∧ iv = .int .i64 ((d : Int) + 1) ∧ Hid (NetAt wr w1.heap.size sb mb E d ∧ Numd E d) ∧ Hid (Below w.heap.size w wr) ∧ Hid (w1.heap.size ≤ wr.heap.size)) (fun iv _ => 4097 - (intOf iv).toNat)
  case atStart => exact ⟨0, [], by omega, by go_num, Lib.hid ⟨HN.out, Numd.nil⟩, HB, HBs⟩
  case round =>
    obtain ⟨d, E, hd, rfl, HE, HBr, HSr⟩ := hrel
    by_cases hlt : d < 4096
    · have hi : (d : Int) + 1 ≤ 4096 := by omega
      have Hs := Lib.hid (sendA_any HE.out.1 HSr.out (by omega) ((d : Int) + 1))
      go_wp2_with fail
      refine Hs.out.mono ?_
      rintro e w3 hp
      obtain ⟨en, hn, hL, rfl, n3, -, k3⟩ := hp.ok (lA_err _ ⟨by omega, by omega⟩) (by rw [HE.out.2.len]; omega)
      have e1 : ((d + 1 : Nat) : Int) = (d : Int) + 1 := rfl
      have HE3 := Lib.hid (And.intro n3 (HE.out.2.add hn hL))
      have HB3 := Lib.hid (HBr.out.trans (k3.below (Nat.le_trans HS0.out HE.out.1.sB) (Nat.le_trans HS0.out HE.out.1.mB) HBr.out.size))
      have HS3 : Hid (w1.heap.size ≤ w3.heap.size) := Lib.hid (Nat.le_trans HSr.out k3.size)
      rw [e1]
      clear hn hL n3 k3 hp e1 Hs
      go_wp2
      go_roundw
      case rel => exact ⟨d + 1, _, by omega, by go_num, HE3, HB3, HS3⟩
      case measure => simp [intOf]; omega
    · obtain rfl : d = 4096 := by omega
      have hlen : E.length = 4096 := HE.out.2.len
      have Hs := Lib.hid (sendA_any HE.out.1 HSr.out (by omega) 0)
      clear hlt hd
      go_wp2_with fail
      refine Hs.out.mono ?_
      rintro e w3 hp
      obtain ⟨rfl, n3, b3⟩ := hp.many (lA_err 0 ⟨by omega, by omega⟩) (by omega)
      have HE3 := Lib.hid (And.intro n3 HE.out.2)
      have HB3 := Lib.hid (HBr.out.trans (b3.mono HBr.out.size))
      have HS3 : Hid (w1.heap.size ≤ w3.heap.size) := Lib.hid (Nat.le_trans HSr.out b3.size)
      have Ht := Lib.hid (netTwice_any n3 HS3.out (by omega) 1 (wf_small 1 (by omega) (by omega)))
      clear hp n3 b3 Hs
      go_wp2_with fail
      refine Ht.out.mono ?_
      rintro e w4 hp
      have h1 := HE3.out.2.is 1
      rcases hp with ⟨hg, -⟩ | ⟨e0, -, hp⟩
      · rw [hg] at h1; simp at h1
      obtain ⟨-, rfl, n4, b4⟩ := hp.resolve_right (fun h => by have := h.1; omega)
      have HE4 := Lib.hid (And.intro n4 HE.out.2)
      have HB4 := Lib.hid (HB3.out.trans (b4.mono HB3.out.size))
      have HS4 : Hid (w1.heap.size ≤ w4.heap.size) := Lib.hid (Nat.le_trans HS3.out b4.size)
      have hl := netLen_any n4
      rw [hlen] at hl
      have Hl := Lib.hid hl
      clear h1 n4 b4 Ht hl HE3
      go_wp2_with fail
      refine Hl.out.mono ?_
      rintro e w5 ⟨rfl, b5⟩
      have HE5 := Lib.hid (And.intro (HE4.out.1.below b5) HE.out.2)
      have HB5 := Lib.hid (HB4.out.trans (b5.mono HB4.out.size))
      have HS5 : Hid (w1.heap.size ≤ w5.heap.size) := Lib.hid (Nat.le_trans HS4.out b5.size)
      have Hd := Lib.hid (netDeliver_any HE5.out.1 k HK.out)
      clear b5 Hl HE4
      go_wp2_with fail
      refine Hd.out.mono ?_
      rintro e w6 hp
      have hk := HE5.out.2.is k
      rcases hp with ⟨hg, rfl, n6, b6⟩ | ⟨e0, hg, rfl, n6, -, k6⟩
      · rw [hg] at hk
        have hk' : ¬ (1 ≤ k ∧ k ≤ ((4096 : Nat) : Int)) := of_decide_eq_false hk.symm
        have bx := below_box (w := w6) (.cells #[.int .i64 0, .int .i64 0, .int .i64 0, .int .i64 0, .int .i64 0, .int .i64 0, .int .i64 0, .string ⟨#[]⟩, .string ⟨#[]⟩, .slice none 0 0, .slice none 0 0, .int .i64 0, .bool false, .string ⟨#[]⟩] 26)
        have HB6 := Lib.hid (HB5.out.trans ((b6.trans (bx.mono b6.size)).mono HB5.out.size))
        have hl := netLen_any (n6.below bx)
        rw [hlen] at hl
        have Hl := Lib.hid hl
        have hor : (decide (k < 1) = true) ∨ (decide (k < 1) = false ∧ decide ((4096 : Int) < k) = true) := by
          by_cases h9 : k < 1
          · exact .inl (decide_eq_true h9)
          · exact .inr ⟨decide_eq_false h9, decide_eq_true (by omega)⟩
        clear hk hg hk' n6 b6 bx hl Hd HE5
        rcases hor with h9 | ⟨h9, h8⟩
        all_goals
          go_wp2_with fail
          refine Hl.out.mono ?_
          rintro e w7 ⟨rfl, b7⟩
          have HE7 := Lib.hid (HB6.out.trans (b7.mono HB6.out.size))
          clear b7 Hl
          go_wp2
          go_ret
          exact ⟨rfl, HE7.out⟩
      · rw [hg] at hk
        have hk' : 1 ≤ k ∧ k ≤ ((4096 : Nat) : Int) := of_decide_eq_true hk.symm
        have ha := HE5.out.2.a k e0 hg
        have hdl := delN_lt hg
        obtain ⟨n, Ap, cp, Ai, ci, L⟩ := e0
        simp only at ha
        subst ha
        obtain ⟨w7, hw7⟩ : ∃ w7, (w6.alloc (.cells #[.int .i64 L.kind, .int .i64 L.frm, .int .i64 L.to, .int .i64 L.a, .int .i64 L.b, .int .i64 L.c, .int .i64 L.d, .string L.s, .string L.t, .slice Ap L.ps.length cp, .slice Ai L.is.length ci, .int .i64 L.code, .bool L.yes, .string L.body] 26)) = w7 := ⟨_, rfl⟩
        have bx : Below w6.heap.size w6 w7 := hw7 ▸ below_box _
        have xb : Box w7 w6.heap.size 26 #[.int .i64 L.kind, .int .i64 L.frm, .int .i64 L.to, .int .i64 L.a, .int .i64 L.b, .int .i64 L.c, .int .i64 L.d, .string L.s, .string L.t, .slice Ap L.ps.length cp, .slice Ai L.is.length ci, .int .i64 L.code, .bool L.yes, .string L.body] := hw7 ▸ Box.made _ _ _
        have h9 : ¬ L.a < 1 := by omega
        have h8 : ¬ (4096 : Int) < L.a := by omega
        have hB6 := HB5.out.trans (k6.below (Nat.le_trans HS0.out HE5.out.1.sB) (Nat.le_trans HS0.out HE5.out.1.mB) HB5.out.size)
        have hB7 := hB6.trans (bx.mono hB6.size)
        have hS7 : w1.heap.size ≤ w7.heap.size := Nat.le_trans HS5.out (Nat.le_trans k6.size bx.size)
        have n7 := n6.below bx
        have Hs := Lib.hid (sendA_any n7 hS7 (by omega) 0)
        have HE7 := Lib.hid (And.intro n7 (And.intro xb hB7))
        have HL7 : Hid ((delN L.a E).length < 4096) := Lib.hid (by omega)
        clear hk hg hk' n6 n7 k6 bx xb hB6 hB7 hS7 hdl Hd HE5
        go_wp2_with fail
        refine Hs.out.mono ?_
        rintro e w8 hp
        obtain ⟨en, -, -, rfl, n8, -, k8⟩ := hp.ok (lA_err 0 ⟨by omega, by omega⟩) HL7.out
        have hx8 := HE7.out.1.boxKept k8 HE7.out.2.1 (by decide)
        have x3 : w8.cell? ⟨w6.heap.size, 3, none⟩ = some (.int .i64 L.a) := hx8.cell 3
        have HB8 := Lib.hid (HE7.out.2.2.trans (k8.below (Nat.le_trans HS0.out HE7.out.1.sB) (Nat.le_trans HS0.out HE7.out.1.mB) HE7.out.2.2.size))
        have e1 : ((4096 + 1 : Nat) : Int) = 4097 := rfl
        rw [e1]
        clear e1 hx8 k8 n8 hp Hs
        go_wp2
        go_ret
        exact ⟨rfl, HB8.out⟩

namespace lawNetFull
open Go.ChangeShapes Go.WideShapes Go.ChangeAt

theorem own : ownKnob Try.prog.godebug = none := by kernel_rfl
theorem kids : Kids Try.prog (· < Try.prog.types.size) := kids_rows (by kernel_rfl) (by kernel_rfl)
theorem full : ∀ t e, t < Try.prog.types.size → Try.prog.underlying t = some (.slice e) → 0 < Try.prog.cellsOf e := slices_full_of Try.prog (by kernel_rfl)

set_option maxRecDepth 100000 in
theorem lifted (os : Os) (started : os.Started) (H : Type) (enc : TypeId × Value → H) :
    ReturnsInHanded {} Try.checked os 7 .any (Rows.netFullSpec.pre6 enc Try.prog Try.f7 Rows.netFullRow.domain false) (Rows.netFullSpec.post enc Try.prog Try.f7 false true false false) := by
  refine returnsInHanded_of_change (C := Try.checked) own started (by kernel_rfl) Try.func7
    (ChangeSpec.witness6 (enc := enc) (C := Try.checked) false ⟨#[], #[.int .i64 0], []⟩ 8 (by kernel_rfl) (by kernel_rfl) (by kernel_rfl) (by kernel_rfl)) ?_
  intro W base args ds gs before hval0 hW _ _
  have hval : ∀ (j : Nat) t v, Try.f7.params[j]? = some t → args[j]? = some v → Value.okWide Try.prog W .any base t v := hval0
  have hW' := hW
  obtain ⟨p, q, hA0, hV, rfl, _, _⟩ := hW
  obtain ⟨rfl, rfl⟩ := trodVars_none hV
  have hA : DataW.TrodAll enc Try.prog W 0 (fun _ => true) true Try.f7.params.toList args.toList ds p := hA0
  rw [Try.params7] at hA hval
  obtain ⟨v0, vs0, d0, ds0, p0, q0, hargs, rfl, rfl, h0, r0⟩ := trodAll_cons hA
  obtain ⟨rfl, rfl, rfl⟩ := trodAll_nil r0
  obtain rfl : args = #[v0] := by cases args; simp_all
  have hlt := hW'.lt
  obtain ⟨k0, rfl, _, _, wf0⟩ := open_int Try.underlying3 (hval 0 3 v0 rfl rfl) h0
  have bd0 := bounds_i64 wf0
  refine (full_walk k0 (by have := bd0; exact wf0) W).mono fun e W' ⟨he, hbel⟩ => ?_
  subst he
  exact ⟨_, rfl, law_post kids full (of_decide_eq_true (by kernel_rfl)) Try.underlying4 rfl rfl rfl hW' hbel⟩

theorem proved : Rows.NetFullSaid :=
  OpenClaim.holds_of_wide 7 Try.f7 rfl rfl rfl rfl rfl rfl rfl ⟨rfl, rfl, rfl, rfl, rfl⟩ rfl rfl rfl rfl rfl (by kernel_rfl) Try.func7 (by kernel_rfl)
    (of_decide_eq_true (by kernel_rfl)) (by unfold Func.isWrapper; first | (rw [if_pos (by decide +kernel)]; kernel_rfl) | (rw [if_neg (by decide +kernel)]; exact ⟨rfl, rfl⟩))
    (fun os started H enc _ => lifted os started H enc)
end lawNetFull

end Go.Proofs.Ytabcoidjbigdbaa
