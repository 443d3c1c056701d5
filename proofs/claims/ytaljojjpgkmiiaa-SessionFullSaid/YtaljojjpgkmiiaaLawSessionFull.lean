/- SessionFull: an end takes so many texts to wait as there may be, and not one more, until one is acknowledged; texts that are too long are refused. No condition. -/
import Derived.Test.YtaljojjpgkmiiaaSesI
import Derived.Test.YtaljojjpgkmiiaaRow
import Derived.Test.YtaljojjpgkmiiaaOpen
import Derived.Laws.IdiomCopy
import Derived.Deep.OwnRows
namespace Go.Proofs.Ytaljojjpgkmiiaa
open Go.RowKit
open Go.Lib (strCells)

theorem make_bytesS (k : IntKind) (n : Nat) (hn : n ≤ 281474976710656) : ∃ M : Array Value, M.size = n ∧
    (∀ w : World, (Instr.makeSlice 76 (.int k (n : Int)) (.int k (n : Int))).run Try.prog w = .ok (.slice (some ⟨w.heap.size, 0, none⟩) n n) (w.alloc (.cells M 5))) ∧
    ∀ k, k < n → M.toList[k]? = some (.int .u8 0) := by
  have hinfo : (Try.prog.info? 5).map (fun i => (i.zero, i.size, i.bytes)) = some (some (.int .u8 0), 1, 1) := by kernel_rfl
  refine ⟨madeCells #[.int .u8 0] n, size_madeCells _ _, fun w => run_make_row' (P := Try.prog) 76 5 (.int .u8 0) 1 Try.underlying76 hinfo rfl k k n (by omega) (by omega) w, fun k hk => ?_⟩
  simp [madeCells, hk, Nat.mod_one]
/-- 'string(make([]byte, n))' -/
theorem made_text (n : Nat) (hn : n ≤ 281474976710656) : ∃ (M : Array Value) (z : ByteArray), z.size = n ∧
    (∀ w : World, (Instr.makeSlice 76 (.int .i64 (n : Int)) (.int .i64 (n : Int))).run Try.prog w = .ok (.slice (some ⟨w.heap.size, 0, none⟩) n n) (w.alloc (.cells M 5))) ∧
    (∀ w : World, (convert 76 9 (.slice (some ⟨w.heap.size, 0, none⟩) n n)).run Try.prog (w.alloc (.cells M 5)) = .ok (.string z) (w.alloc (.cells M 5))) := by
  obtain ⟨M, hM, h1, h2⟩ := make_bytesS .i64 n hn
  refine ⟨M, ⟨(List.replicate n (0 : UInt8)).toArray⟩, ?_, h1, fun w => ?_⟩
  · rw [Lib.size_eq]
    simp
  · have hc : M.toList = byteCells (List.replicate n (0 : UInt8)) := by
      refine List.ext_getElem? fun k => ?_
      by_cases hk : k < n
      · rw [h2 k hk]
        simp [byteCells, hk]
      · rw [List.getElem?_eq_none (by rw [Array.length_toList]; omega), List.getElem?_eq_none (by rw [byteCells_length, List.length_replicate]; omega)]
    have hb := (lit_bytes w (List.replicate n (0 : UInt8)) 5 M hc)
    rw [List.length_replicate] at hb
    exact string_run hb n
/-- so many texts wait that are all x -/
def exE (k : Nat) : SE := ⟨0, k, List.replicate k ⟨#[120]⟩⟩
theorem exE_send {k : Nat} (h : k < 256) : (exE k).send ⟨#[120]⟩ = (exE (k + 1), k + 1, 0) := by
  unfold exE SE.send
  simp only [List.length_replicate]
  rw [if_neg (by rw [show (⟨#[120]⟩ : ByteArray).size = 1 from rfl]; omega), if_neg (by omega), ← List.replicate_succ']
theorem exE_full : (exE 256).send ⟨#[121]⟩ = (exE 256, 0, 17) := by
  unfold exE SE.send
  simp only [List.length_replicate]
  rw [if_neg (by rw [show (⟨#[121]⟩ : ByteArray).size = 1 from rfl]; omega), if_pos (by omega)]
theorem exE_ack {k : Int} (h : 1 ≤ k ∧ k ≤ 256) : (exE 256).acked k = (⟨0, 256, List.replicate (256 - k.toNat) ⟨#[120]⟩⟩, k.toNat) := by
  unfold exE SE.acked
  simp only [List.length_replicate]
  rw [if_pos (by omega), Nat.sub_self, Nat.sub_zero, List.drop_replicate]
theorem exE_none {k : Int} (h : ¬ (1 ≤ k ∧ k ≤ 256)) : (exE 256).acked k = (exE 256, 0) := by
  unfold exE SE.acked
  simp only [List.length_replicate]
  rw [if_neg (by omega)]
theorem exE_large {n : Nat} {z : ByteArray} (h : z.size = 65537) : (⟨0, 256, List.replicate n ⟨#[120]⟩⟩ : SE).send z = (⟨0, 256, List.replicate n ⟨#[120]⟩⟩, 0, 4) := by
  unfold SE.send
  rw [if_pos (by omega)]
theorem exE_last {n : Nat} (h : n < 256) : (⟨0, 256, List.replicate n ⟨#[120]⟩⟩ : SE).send ⟨#[121]⟩ = (⟨0, 257, List.replicate n ⟨#[120]⟩ ++ [⟨#[121]⟩]⟩, 257, 0) := by
  unfold SE.send
  simp only [List.length_replicate]
  rw [if_neg (by rw [show (⟨#[121]⟩ : ByteArray).size = 1 from rfl]; omega), if_neg (by omega)]
set_option maxRecDepth 100000 in
set_option maxHeartbeats 12800000 in
theorem full15_walk (k : Int) (w : World) : Calls Try.prog 6 #[.int .i64 k] w fun e w' => e = .returned (.bool true) ∧ Below w.heap.size w w' := by
  obtain ⟨M, z, hz, hmk, hcv⟩ := made_text 65537 (by omega)
  have Hz := Lib.hid hz
  have Hmk := Lib.hid hmk
  have Hcv := Lib.hid hcv
  clear hz hmk hcv
  go_enter Try.func6, Try.ntmps6
  go_wp2_with fail
  refine (awake15_any w).mono ?_
  rintro e w1 ⟨rfl, b1⟩
  have Hb1 := Lib.hid b1
  clear b1
  go_wp2_with fail
  refine (sesNew_any w1).mono ?_
  rintro e w2 ⟨g, rfl, h2, b2⟩
  have H2 : Hid (∃ v, EndAt w2 w1.heap.size g v (exE 0) ∧ Below w1.heap.size w1 w2) := Lib.hid ⟨_, h2, b2⟩
  clear h2 b2
  go_wp2
  go_loopw [4] (fun i wr => ∃ q : Nat, q ≤ 256 ∧ i = .int .i64 ((q + 1 : Nat) : Int) ∧ Hid (∃ v, EndAt wr w1.heap.size g v (exE q) ∧ Below w1.heap.size w1 wr)) (fun i _ => 257 - (intOf i).toNat)
  case atStart => exact ⟨0, by omega, rfl, H2⟩
  case round =>
    obtain ⟨q, hq, rfl, HR⟩ := hrel
    obtain ⟨v, hv⟩ := HR.out
    have HV := Lib.hid hv
    clear hv HR H2
    by_cases hlt : q < 256
    · have e1 : ((q + 1 : Nat) : Int) ≤ 256 := by omega
      have Hs := Lib.hid (exE_send hlt)
      go_wp2_with fail
      refine (sesSend_any HV.out.1 HV.out.2.size ⟨#[120]⟩).mono ?_
      unfold SendEP
      rw [Hs.out]
      rintro e w3 ⟨v3, rfl, h3, k3, -⟩
      have H3 : Hid (∃ v, EndAt w3 w1.heap.size g v (exE (q + 1)) ∧ Below w1.heap.size w1 w3) := Lib.hid ⟨_, h3, HV.out.2.trans (HV.out.1.kept k3 HV.out.2.size)⟩
      clear h3 k3
      go_wp2
      go_roundw
      case rel => exact ⟨q + 1, by omega, by go_num, H3⟩
      case measure => simp [intOf]; omega
    · obtain rfl : q = 256 := by omega
      have Hf := Lib.hid exE_full
      go_wp2_with fail
      refine (sesSend_any HV.out.1 HV.out.2.size ⟨#[121]⟩).mono ?_
      unfold SendEP
      rw [Hf.out]
      rintro e w3 ⟨v3, rfl, h3, k3, -⟩
      have H3 := Lib.hid (And.intro h3 (HV.out.2.trans (HV.out.1.kept k3 HV.out.2.size)))
      clear h3 k3
      have hl : ((exE 256).l.length : Int) = 256 := by unfold exE; simp only [List.length_replicate]; rfl
      have hW := sesWaiting_any H3.out.1
      rw [hl] at hW
      have HW := Lib.hid hW
      clear hW
      go_wp2_with fail
      refine HW.out.mono ?_
      rintro e w9 ⟨rfl, rfl⟩
      by_cases hk : 1 ≤ k ∧ k ≤ 256
      · have Ha := Lib.hid (exE_ack hk)
        obtain ⟨n, rfl⟩ : ∃ n : Nat, k = n := ⟨k.toNat, by omega⟩
        rw [Int.toNat_natCast] at Ha
        have Hl := Lib.hid (exE_large (n := 256 - n) Hz.out)
        have He := Lib.hid (exE_last (n := 256 - n) (by omega))
        have d1 : ¬ (n : Int) < 1 := by omega
        have d2 : ¬ (256 : Int) < (n : Int) := by omega
        clear hk hl
        go_wp2_with fail
        refine (sesAcked_any H3.out.1 (n : Int)).mono ?_
        unfold AckP
        rw [Ha.out]
        rintro e w4 ⟨v4, rfl, h4, k4, -⟩
        have H4 := Lib.hid (And.intro h4 (H3.out.2.trans (H3.out.1.kept k4 H3.out.2.size)))
        clear h4 k4
        have hm4 : (Instr.makeSlice 76 (.int .i64 65537) (.int .i64 65537)).run Try.prog w4 = .ok (.slice (some ⟨w4.heap.size, 0, none⟩) 65537 65537) (w4.alloc (.cells M 5)) := Hmk.out w4
        have hc4 := Hcv.out w4
        have H5 : Hid (EndAt (w4.alloc (.cells M 5)) w1.heap.size g v4 ⟨0, 256, List.replicate (256 - n) ⟨#[120]⟩⟩ ∧ Below w1.heap.size w1 (w4.alloc (.cells M 5))) := Lib.hid ⟨H4.out.1.below (below_box _), H4.out.2.alloc H4.out.2.size _⟩
        go_wp2_with fail
        refine (sesSend_any H5.out.1 H5.out.2.size z).mono ?_
        unfold SendEP
        rw [Hl.out]
        rintro e w6 ⟨v6, rfl, h6, k6, -⟩
        have H6 := Lib.hid (And.intro h6 (H5.out.2.trans (H5.out.1.kept k6 H5.out.2.size)))
        clear h6 k6
        go_wp2_with fail
        refine (sesSend_any H6.out.1 H6.out.2.size ⟨#[121]⟩).mono ?_
        unfold SendEP
        rw [He.out]
        rintro e w7 ⟨v7, rfl, h7, k7, -⟩
        have H7 : Hid (Below w.heap.size w w7) := Lib.hid (Hb1.out.trans ((H6.out.2.trans (H6.out.1.kept k7 H6.out.2.size)).mono Hb1.out.size))
        clear h7 k7
        go_wp2
        go_ret
        exact ⟨rfl, H7.out⟩
      · have Ha := Lib.hid (exE_none hk)
        have hor : (decide (k < 1) = true) ∨ (decide (k < 1) = false ∧ decide ((256 : Int) < k) = true) := by
          by_cases h9 : k < 1
          · exact .inl (decide_eq_true h9)
          · exact .inr ⟨decide_eq_false h9, decide_eq_true (by omega)⟩
        clear hk
        rcases hor with h9 | ⟨h9, h8⟩
        all_goals
          go_wp2_with fail
          refine (sesAcked_any H3.out.1 k).mono ?_
          unfold AckP
          rw [Ha.out]
          rintro e w4 ⟨v4, rfl, h4, k4, -⟩
          have H4 := Lib.hid (Hb1.out.trans ((H3.out.2.trans (H3.out.1.kept k4 H3.out.2.size)).mono Hb1.out.size))
          have hW4 := sesWaiting_any h4
          rw [hl] at hW4
          have HW4 := Lib.hid hW4
          clear hW4 h4 k4
          go_wp2_with fail
          refine HW4.out.mono ?_
          rintro e w9 ⟨rfl, rfl⟩
          go_wp2
          go_ret
          exact ⟨rfl, H4.out⟩

namespace lawSessionFull
open Go.ChangeShapes Go.WideShapes Go.ChangeAt

theorem own : ownKnob Try.prog.godebug = none := by kernel_rfl
theorem kids : Kids Try.prog (· < Try.prog.types.size) := kids_rows (by kernel_rfl) (by kernel_rfl)
theorem full : ∀ t e, t < Try.prog.types.size → Try.prog.underlying t = some (.slice e) → 0 < Try.prog.cellsOf e := slices_full_of Try.prog (by kernel_rfl)

set_option maxRecDepth 100000 in
theorem lifted (os : Os) (started : os.Started) (H : Type) (enc : TypeId × Value → H) :
    ReturnsInHanded {} Try.checked os 6 .any (Rows.sessionFullSpec.pre6 enc Try.prog Try.f6 Rows.sessionFullRow.domain false) (Rows.sessionFullSpec.post enc Try.prog Try.f6 false true false false) := by
  refine returnsInHanded_of_change (C := Try.checked) own started (by kernel_rfl) Try.func6
    (ChangeSpec.witness6 (enc := enc) (C := Try.checked) false ⟨#[], #[.int .i64 0], []⟩ 8 (by kernel_rfl) (by kernel_rfl) (by kernel_rfl) (by kernel_rfl)) ?_
  intro W base args ds gs before hval0 hW _ _
  have hval : ∀ (j : Nat) t v, Try.f6.params[j]? = some t → args[j]? = some v → Value.okWide Try.prog W .any base t v := hval0
  have hW' := hW
  obtain ⟨p, q, hA0, hV, rfl, _, _⟩ := hW
  obtain ⟨rfl, rfl⟩ := trodVars_none hV
  have hA : DataW.TrodAll enc Try.prog W 0 (fun _ => true) true Try.f6.params.toList args.toList ds p := hA0
  rw [Try.params6] at hA hval
  obtain ⟨v0, vs0, d0, ds0, p0, q0, hargs, rfl, rfl, h0, r0⟩ := trodAll_cons hA
  obtain ⟨rfl, rfl, rfl⟩ := trodAll_nil r0
  obtain rfl : args = #[v0] := by cases args; simp_all
  have hlt := hW'.lt
  obtain ⟨k0, rfl, _, _, _⟩ := open_int Try.underlying3 (hval 0 3 v0 rfl rfl) h0
  refine (full15_walk k0 W).mono fun e W' ⟨he, hbel⟩ => ?_
  subst he
  exact ⟨_, rfl, law_post kids full (of_decide_eq_true (by kernel_rfl)) Try.underlying4 rfl rfl rfl hW' hbel⟩

theorem proved : Rows.SessionFullSaid :=
  OpenClaim.holds_of_wide 6 Try.f6 rfl rfl rfl rfl rfl rfl rfl ⟨rfl, rfl, rfl, rfl, rfl⟩ rfl rfl rfl rfl rfl (by kernel_rfl) Try.func6 (by kernel_rfl)
    (of_decide_eq_true (by kernel_rfl)) (by unfold Func.isWrapper; first | (rw [if_pos (by decide +kernel)]; kernel_rfl) | (rw [if_neg (by decide +kernel)]; exact ⟨rfl, rfl⟩))
    (fun os started H enc _ => lifted os started H enc)
end lawSessionFull

end Go.Proofs.Ytaljojjpgkmiiaa
