/- A log's commands done again; the vault's Do and Settle. Condition: a disk in memory, of at most a million bytes. -/
import Derived.Test.YtghcmlipbmmfjaaVltB
namespace Go.Proofs.Ytghcmlipbmmfjaa
open Go.RowKit
open Go.Lib (strCells)

/-- what commands make of a text -/
def allF (T : ByteArray) (l : List (List UInt8)) : ByteArray := l.foldl (fun s c => s ++ ⟨c.toArray⟩ ++ ⟨#[124]⟩) T
theorem allF_snoc (T : ByteArray) (l : List (List UInt8)) (c : List UInt8) : allF T (l ++ [c]) = allF T l ++ ⟨c.toArray⟩ ++ ⟨#[124]⟩ := by simp [allF]
theorem allF_app (T : ByteArray) (l r : List (List UInt8)) : allF T (l ++ r) = allF (allF T l) r := by simp [allF]
theorem allF_size (T : ByteArray) (l : List (List UInt8)) : (allF T l).size = T.size + bulk l := by
  induction l generalizing T with
  | nil => simp [allF, bulk]
  | cons c l ih =>
    have e : allF T (c :: l) = allF (T ++ ⟨c.toArray⟩ ++ ⟨#[124]⟩) l := rfl
    have e1 : (ByteArray.mk c.toArray).size = c.length := by simp [ByteArray.size]
    have e2 : (ByteArray.mk #[124]).size = 1 := rfl
    rw [e, ih, ByteArray.size_append, ByteArray.size_append, e1, e2, bulk]
    omega
theorem bulk_take (l : List (List UInt8)) (k : Nat) : bulk (l.take k) ≤ bulk l := by
  have := bulk_app (l.take k) (l.drop k)
  rw [List.take_append_drop] at this
  omega
/-- rows stay where only a vault and its tape turn -/
theorem OwnRs.far {w w' : World} {B vb tb : Nat} {v : Value} {rs : Brs} {cs : Array Value} {T : ByteArray} (h : OwnRs w B v rs) (hk : Keeps (fun g => g = vb ∨ g = tb) w w') (hv : Box w vb 62 cs) (ht : Tape w tb T) : OwnRs w' B v rs := by
  obtain ⟨x, hx⟩ := ht
  have far : ∀ (m : Nat) (e : TypeId) (u : Value) (xs : List Value), w.ownsRow B e 1 u m xs → e ≠ 62 → e ≠ 37 → w'.ownsRow B e 1 u m xs := fun m e u xs ho h1 h2 => own_keep1 ho fun g hg => hk.block g (ho.lt g hg).2 fun e' => e'.elim (fun e' => box_ne hv (fun e => h1 e.symm) ho hg e') fun e' => box_ne hx (fun e => h2 e.symm) ho hg e'
  exact ⟨far _ _ _ _ h.own (by decide) (by decide), fun r hr => far _ _ _ _ (h.rows r hr) (by decide) (by decide), h.apart⟩
section
variable {w : World} {B vb sb tb : Nat} {E : Nat → Prop} {S : DState} {T : ByteArray} {c : Nat}
set_option maxHeartbeats 800000 in
theorem again_any (h : Vlt w B vb sb tb E S T c) {Bv : Nat} {v : Value} {rs : Brs} (hv : OwnRs w Bv v rs) (hT : T.size + bulk (brLists rs) ≤ 1000000) (hc : c + rs.length ≤ 1000000) :
    Calls Try.prog 35 #[v, .func (.func 27) #[.pointer (some ⟨vb, 0, none⟩)] #[]] w fun e w' => e = .returned (.tuple #[]) ∧ Vlt w' B vb sb tb E S (allF T (brLists rs)) (c + rs.length) ∧ Keeps (fun g => g = vb ∨ g = tb) w w' ∧ w'.heap.size = w.heap.size := by
  obtain ⟨A, cv, rfl, -⟩ := hv.has
  have H := Lib.hid h
  have HV := Lib.hid hv
  have HT := Lib.hid hT
  clear h hv hT
  obtain ⟨n, hn⟩ : ∃ n, rs.length = n := ⟨_, rfl⟩
  have Hn := Lib.hid hn
  rw [hn] at hc ⊢
  clear hn
  go_enter Try.func35, Try.ntmps35
  go_wp2
  go_loopw [8] (fun i wr => ∃ k : Nat, k ≤ n ∧ i = .int .i64 (k : Int) ∧ Hid (OwnRs wr Bv (.slice A rs.length cv) rs ∧ Vlt wr B vb sb tb E S (allF T ((brLists rs).take k)) (c + k) ∧ Keeps (fun g => g = vb ∨ g = tb) w wr ∧ wr.heap.size = w.heap.size)) (fun i _ => n - (intOf i).toNat)
  case atStart => exact ⟨0, by omega, rfl, Lib.hid ⟨HV.out, H.out, Keeps.of (Below.refl _ _), rfl⟩⟩
  case round =>
    obtain ⟨k, hk, rfl, Hj⟩ := hrel
    by_cases hlt : k < n
    · obtain ⟨A2, c2, e2, -, -, hrs⟩ := Hj.out.1.has
      injection e2 with e2a e2b e2c
      subst e2a
      subst e2c
      clear e2b
      obtain ⟨a, A', z, c', l, rfl, _, hlk, hzc, hcm, hb, hcell⟩ := hrs.at_ (by rw [Hn.out]; exact hlt)
      have kc := string_run hb c'
      have k0 : (0 : Int) ≤ (k : Int) := by omega
      have k1 : (k : Int) < (n : Int) := by omega
      have Hlk := Lib.hid hlk
      have Ht : Hid ((brLists rs).take (k + 1) = (brLists rs).take k ++ [l]) := Lib.hid (by
        rw [List.take_add_one, Hlk.out]
        rfl)
      have hbt := bulk_take (brLists rs) (k + 1)
      rw [Ht.out, bulk_app, bulk, bulk] at hbt
      have hsz := allF_size T ((brLists rs).take k)
      have hTo := HT.out
      have Hdo := Lib.hid (vdo_any Hj.out.2.1 ⟨l.toArray⟩ (by omega) (by show l.toArray.size ≤ _; simp only [List.size_toArray]; omega) (by omega))
      have Hfar : Hid (∀ w2, Keeps (fun g => g = vb ∨ g = tb) wr w2 → OwnRs w2 Bv (Value.slice (some a) (List.length rs) cv) rs) := Lib.hid fun w2 hk2 => Hj.out.1.far hk2 Hj.out.2.1.box Hj.out.2.1.tape
      clear hlk hb hrs hbt hsz hTo
      go_wp2_with fail
      refine Hdo.out.mono ?_
      rintro e w2 ⟨rfl, hv2, hk2, hs2⟩
      have Hv2 := Lib.hid hv2
      have Hk2 := Lib.hid hk2
      have Hs2 := Lib.hid hs2
      clear hv2 hk2 hs2
      go_wp2
      go_round
      case rel =>
        refine ⟨k + 1, by omega, by go_num, Lib.hid ⟨Hfar.out w2 Hk2.out, ?_, Hj.out.2.2.1.trans Hk2.out fun g hg => .inl hg, Hs2.out.trans Hj.out.2.2.2⟩⟩
        rw [Ht.out, allF_snoc]
        exact Hv2.out
      case measure => simp [intOf]; omega
    · obtain rfl : k = n := by omega
      have Hend : Hid (Vlt wr B vb sb tb E S (allF T (brLists rs)) (c + k)) := Lib.hid (by
        have h := Hj.out.2.1
        rwa [List.take_of_length_le (by rw [brLists_len, Hn.out]; exact Nat.le_refl _)] at h)
      go_wp2
      go_end0
      exact ⟨rfl, Hend.out, Hj.out.2.2.1, Hj.out.2.2.2⟩

theorem Vlt.step {w1 w2 : World} {S' : DState} {T' : ByteArray} {c' : Nat} {F : Nat → Prop} (k1 : Below w.heap.size w w1) (h2 : Vlt w2 B vb sb tb F S' T' c') (hF : ∀ g, F g → Up E w1 w2 g) (k2 : Keeps E w1 w2) : Vlt w2 B vb sb tb (Up E w w2) S' T' c' ∧ Keeps E w w2 := by
  have s1 := k1.size
  refine ⟨h2.more fun g hg => ?_, (Keeps.of (D := E) k1).trans k2 fun g hg => .inl hg⟩
  rcases hF g hg with e | e
  · exact .inl e
  · exact .inr (by omega)
/-- a command is laid into the log, and done -/
theorem vaultDo_ok (h : Vlt w B vb sb tb E S T c) (hon : S.on = true) (cmd : ByteArray) (hT : T.size ≤ 1000000) (h2 : cmd.size ≤ 65536) (hc : c ≤ 1000000) (hC : S.C.length ≤ 1000000) (hL : S.L.length ≤ 1000000) (hW : S.W.length ≤ 1000000) (hf : S.used + (8 + cmd.size) ≤ S.room) :
    Calls Try.prog 11 #[.pointer (some ⟨vb, 0, none⟩), .string cmd] w fun e w' => e = .returned (.tuple #[.string (digS T.size), .int .i64 0]) ∧ Vlt w' B vb sb tb (Up E w w') { S with L := S.L ++ frameOf cmd.data.toList, W := S.W ++ [S.L.length], k := false } (T ++ cmd ++ ⟨#[124]⟩) (c + 1) ∧ Keeps E w w' := by
  obtain ⟨w1, c1, hcv, hc1, hs1, hb1, hby⟩ := conv_bytes Try.prog w 9 47 5 cmd Try.underlying9 Try.underlying47 Try.underlying5
  have H1 := Lib.hid (h.below hb1)
  have q0 := h.box.cell 0
  obtain ⟨cp, lg, ws, hd, hD⟩ := H1.out.disk
  have hh := hby.has
  rw [show cmd.data.toList.length = cmd.size from (Lib.size_eq cmd).symm] at hh
  have Ha := Lib.hid (append_any (D := DBlk sb cp lg ws) ⟨cp, lg, ws, hd, fun g hg => hg⟩ hon _ cmd.size c1 _ cmd.data.toList hh (by omega) h2 hC hL hW hf)
  have Hd := Lib.hid hd
  have HD := Lib.hid hD
  have Hb1 := Lib.hid hb1
  clear h hd hD hh hby hb1 hs1
  go_enter Try.func11, Try.ntmps11
  go_wp2_with fail
  refine Ha.out.mono ?_
  rintro e w2 ⟨rfl, hd2, hk2⟩
  have hv2 := H1.out.op Hd.out HD.out hd2 (fun g hg => hg) hk2
  have Hk2 := Lib.hid hv2.2
  have Hv2 := Lib.hid hv2.1
  have Hdo := Lib.hid (vdo_any hv2.1 cmd hT (by omega) hc)
  clear hd2 hk2 hv2
  go_wp2_with fail
  refine Hdo.out.mono ?_
  rintro e w3 ⟨rfl, hv3, hk3, hs3⟩
  go_wp2
  go_ret2
  have hk3' : Keeps E w2 w3 := ⟨hk3.os, hk3.tape, hk3.output, hk3.size, fun i hi hn => hk3.block i hi fun e => e.elim (fun e => hn (e ▸ H1.out.ev)) fun e => hn (e ▸ H1.out.et)⟩
  have h23 : Keeps E w1 w3 := Hk2.out.trans hk3' fun g hg => .inl hg
  exact ⟨rfl, Vlt.step Hb1.out hv3 (fun g hg => hg.imp id fun e => by have := hk3.size; omega) h23⟩
theorem vaultDo_full (h : Vlt w B vb sb tb E S T c) (hon : S.on = true) (cmd : ByteArray) (h2 : cmd.size ≤ 65536) (hC : S.C.length ≤ 1000000) (hL : S.L.length ≤ 1000000) (hf : S.room < S.used + (8 + cmd.size)) :
    Calls Try.prog 11 #[.pointer (some ⟨vb, 0, none⟩), .string cmd] w fun e w' => e = .returned (.tuple #[.string ⟨#[]⟩, .int .i64 6]) ∧ Below w.heap.size w w' := by
  obtain ⟨w1, c1, hcv, hc1, hs1, hb1, hby⟩ := conv_bytes Try.prog w 9 47 5 cmd Try.underlying9 Try.underlying47 Try.underlying5
  have q0 := h.box.cell 0
  have hh := hby.has
  rw [show cmd.data.toList.length = cmd.size from (Lib.size_eq cmd).symm] at hh
  have Ha := Lib.hid (append_full (h.below hb1).disk hon _ cmd.size c1 _ cmd.data.toList hh (by omega) h2 hC hL hf)
  have Hb1 := Lib.hid hb1
  have Hs1 := Lib.hid hs1
  clear h hh hby hb1 hs1
  go_enter Try.func11, Try.ntmps11
  go_wp2_with fail
  refine Ha.out.mono ?_
  rintro e w2 ⟨rfl, hk2⟩
  go_wp2
  go_ret2
  exact ⟨rfl, Hb1.out.trans (hk2.mono Hb1.out.size)⟩
end
end Go.Proofs.Ytghcmlipbmmfjaa
