/- cutVal gives what the plain text (SpecCut) gives. Condition: the text is not empty, and short. -/
import Derived.Test.YtajombifjofmmaaGreatTupM
namespace Go.Proofs.YtajombifjofmmaaGreat
open Go.RowKit
open Go.Lib (strCells compareBytes)

def resV : Res TVal → TVal
  | .ok v _ => v
  | .err _ => ⟨0, 0, ⟨#[]⟩⟩
def resRest : Res TVal → ByteArray
  | .ok _ r => ⟨r.toArray⟩
  | .err _ => ⟨#[]⟩
def resCode : Res TVal → Nat
  | .ok _ _ => 0
  | .err e => e
theorem resVal_eq (r : Res TVal) : resVal r = .tuple #[.agg #[.int .i64 (resV r).k, .int .i64 (resV r).n, .string (resV r).s], .string (resRest r), .int .i64 (resCode r)] := by cases r <;> rfl
theorem tail_data {s : ByteArray} {c : UInt8} {r : List UInt8} (h : s.data.toList = c :: r) : (s.extract 1 s.size).data.toList = r := by rw [extract_end, h]; rfl

set_option maxHeartbeats 800000 in
set_option maxRecDepth 100000 in
theorem cutVal_any (s : ByteArray) (w : World) (hs : s.size ≤ 100000) (h0 : 0 < s.size) :
    Calls Tryz.prog 120 #[.string s] w fun e w' => e = .returned (resVal (cutVal s.data.toList)) ∧ Below w.heap.size w w' := by
  obtain ⟨c, r, hcr⟩ : ∃ c r, s.data.toList = c :: r := by
    have := Lib.size_eq s
    cases h : s.data.toList with
    | nil => rw [h] at this; simp only [List.length_nil] at this; omega
    | cons c r => exact ⟨c, r, rfl⟩
  have hc : s[0] = c := by rw [byte_at s 0 h0, hcr]; rfl
  have Ht := Lib.hid (tail_data hcr)
  have Hs1 : Hid ((s.extract 1 s.size).size ≤ 100000) := Lib.hid (by rw [Lib.size_eq, Ht.out]; have := Lib.size_eq s; rw [hcr] at this; simp only [List.length_cons] at this; omega)
  have Hcr := Lib.hid hcr
  clear hcr
  have h1l : (1 : Int) ≤ (s.size : Int) := by omega
  have h256 := c.toNat_lt
  have neq : ∀ k : Nat, k < 256 → c ≠ UInt8.ofNat k → ((c.toNat : Int) == (k : Int)) = false := fun k hk hne => by
    have : c.toNat ≠ k := fun e => hne (UInt8.toNat_inj.1 (by rw [e, u8_ofNat_toNat hk]))
    simp
    omega
  by_cases h1 : c = 1
  · subst h1
    have E : Hid (cutVal s.data.toList = .ok ⟨0, 0, ⟨#[]⟩⟩ r) := Lib.hid (by rw [Hcr.out, cutVal_cons, if_pos rfl])
    have Hr : Hid (s.extract 1 s.size = ⟨r.toArray⟩) := Lib.hid (bytes_ext (by rw [Ht.out]))
    clear neq
    go_enter Tryz.func120, Tryz.ntmps120
    go_wp2
    go_region
    go_wp2
    have hr := Hr.out
    refine bodyPost_ret (v := resVal (.ok ⟨0, 0, ⟨#[]⟩⟩ r)) ?_ rfl ⟨by rw [E.out], (below_box _).drew⟩
    simp [results, Tryz.results120, go_sem, resVal, vagg, hr]
  have n1 := neq 1 (by omega) h1
  by_cases h2 : c = 2
  · subst h2
    have E : Hid (cutVal s.data.toList = cutInt (s.extract 1 s.size).data.toList) := Lib.hid (by rw [Hcr.out, cutVal_cons, if_neg (by decide), if_pos rfl, Ht.out])
    have Hcall := Lib.hid (fun wx => cutInt_any (s.extract 1 s.size) wx (by unfold maxLen; have := Hs1.out; omega))
    clear neq
    rw [resVal_eq] at Hcall
    generalize hR : cutInt (s.extract 1 s.size).data.toList = R at Hcall E
    clear hR
    go_enter Tryz.func120, Tryz.ntmps120
    go_wp2_with fail
    refine (Hcall.out _).mono ?_
    rintro e w1 ⟨rfl, hb1⟩
    obtain ⟨q0, q1, q2, f0, f1, f2⟩ := box_below hb1
    obtain ⟨W3, hW3⟩ : ∃ W3, ((w1.setCell ⟨w.heap.size, 0, none⟩ (.int .i64 (resV R).k)).setCell ⟨w.heap.size, 1, none⟩ (.int .i64 (resV R).n)).setCell ⟨w.heap.size, 2, none⟩ (.string (resV R).s) = W3 := ⟨_, rfl⟩
    have hp := box_store (x' := .int .i64 (resV R).k) (y' := .int .i64 (resV R).n) (z' := .string (resV R).s) q0 q1 q2
    have Hbw : Hid (Below w.heap.size w W3) := Lib.hid (by
      rw [← hW3]
      exact ((((below_box _).trans (hb1.mono (by simp))).setCell (Nat.le_refl _) _).setCell (Nat.le_refl _) _).setCell (Nat.le_refl _) _)
    rw [hW3] at hp
    obtain ⟨p0, p1, p2⟩ := hp
    clear hb1
    go_wp2
    refine bodyPost_ret (v := resVal R) ?_ rfl ⟨by rw [E.out], Hbw.out⟩
    rw [resVal_eq]
    simp [results, Tryz.results120, go_sem, p0, p1, p2]
  have n2 := neq 2 (by omega) h2
  by_cases h3 : c = 3
  · subst h3
    have E : Hid (cutVal s.data.toList = cutText [] (s.extract 1 s.size).data.toList) := Lib.hid (by rw [Hcr.out, cutVal_cons, if_neg (by decide), if_neg (by decide), if_pos rfl, Ht.out])
    have Hcall := Lib.hid (fun wx => cutText_any (s.extract 1 s.size) wx Hs1.out)
    clear neq
    rw [resVal_eq] at Hcall
    generalize hR : cutText [] (s.extract 1 s.size).data.toList = R at Hcall E
    clear hR
    go_enter Tryz.func120, Tryz.ntmps120
    go_wp2_with fail
    refine (Hcall.out _).mono ?_
    rintro e w1 ⟨rfl, hb1⟩
    obtain ⟨q0, q1, q2, f0, f1, f2⟩ := box_below hb1
    obtain ⟨W3, hW3⟩ : ∃ W3, ((w1.setCell ⟨w.heap.size, 0, none⟩ (.int .i64 (resV R).k)).setCell ⟨w.heap.size, 1, none⟩ (.int .i64 (resV R).n)).setCell ⟨w.heap.size, 2, none⟩ (.string (resV R).s) = W3 := ⟨_, rfl⟩
    have hp := box_store (x' := .int .i64 (resV R).k) (y' := .int .i64 (resV R).n) (z' := .string (resV R).s) q0 q1 q2
    have Hbw : Hid (Below w.heap.size w W3) := Lib.hid (by
      rw [← hW3]
      exact ((((below_box _).trans (hb1.mono (by simp))).setCell (Nat.le_refl _) _).setCell (Nat.le_refl _) _).setCell (Nat.le_refl _) _)
    rw [hW3] at hp
    obtain ⟨p0, p1, p2⟩ := hp
    clear hb1
    go_wp2
    refine bodyPost_ret (v := resVal R) ?_ rfl ⟨by rw [E.out], Hbw.out⟩
    rw [resVal_eq]
    simp [results, Tryz.results120, go_sem, p0, p1, p2]
  have n3 := neq 3 (by omega) h3
  have E : Hid (cutVal s.data.toList = .err 3) := Lib.hid (by rw [Hcr.out, cutVal_cons, if_neg h1, if_neg h2, if_neg h3])
  have e1 : ((c.toNat : Int) == 1) = false := n1
  have e2 : ((c.toNat : Int) == 2) = false := n2
  have e3 : ((c.toNat : Int) == 3) = false := n3
  clear neq n1 n2 n3 h1 h2 h3
  go_enter Tryz.func120, Tryz.ntmps120
  go_wp2
  refine bodyPost_ret (v := resVal (.err 3)) ?_ rfl ⟨by rw [E.out], below_box _⟩
  simp [results, Tryz.results120, go_sem, resVal]

end Go.Proofs.YtajombifjofmmaaGreat
