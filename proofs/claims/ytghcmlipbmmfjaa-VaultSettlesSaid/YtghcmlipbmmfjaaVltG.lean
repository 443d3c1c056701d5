/- A vault's state in plain words: commands in the checkpoint, commands in the log, how many of these are sure; each call from such a state to the next. Condition: few commands. -/
import Derived.Test.YtghcmlipbmmfjaaVltF
namespace Go.Proofs.Ytghcmlipbmmfjaa
open Go.RowKit
open Go.Lib (strCells)

def waitsOf (F : List (List UInt8)) (k : Nat) : List Nat := (List.range (F.length - k)).map fun i => begD F (k + i)
theorem waits_len (F : List (List UInt8)) (k : Nat) : (waitsOf F k).length = F.length - k := by simp [waitsOf]
theorem waits_all (F : List (List UInt8)) : waitsOf F F.length = [] := by simp [waitsOf]
theorem begD_app {F : List (List UInt8)} {c : List UInt8} {j : Nat} (h : j ≤ F.length) : begD (F ++ [c]) j = begD F j := by
  unfold begD
  rw [List.take_append_of_le_length h]
theorem waits_snoc {F : List (List UInt8)} {c : List UInt8} {k : Nat} (h : k ≤ F.length) : waitsOf (F ++ [c]) k = waitsOf F k ++ [(frames F).length] := by
  have e : (F ++ [c]).length - k = F.length - k + 1 := by simp; omega
  unfold waitsOf
  rw [e, List.range_succ, List.map_append]
  congr 1
  · refine List.map_congr_left fun i hi => begD_app ?_
    have := List.mem_range.1 hi
    omega
  · simp only [List.map_cons, List.map_nil]
    rw [show k + (F.length - k) = F.length from by omega, begD_app (Nat.le_refl _)]
    simp [begD]
theorem waits_at {F : List (List UInt8)} {k j : Nat} (h : j < F.length - k) : (waitsOf F k)[j]? = some (begD F (k + j)) := by simp [waitsOf, h]
theorem frames_bulk (F : List (List UInt8)) : (frames F).length ≤ 9 * bulk F := by
  have h1 := frames_len F
  have h2 := bulk_len F
  omega

/-- commands pre in the checkpoint, F in the log, the first k of these are sure -/
structure VSt (R : Nat) (pre F : List (List UInt8)) (k : Nat) (S : DState) : Prop where
  on : S.on = true
  room : S.room = R
  st : startT S.C emptyB = allF emptyB pre
  cs : S.C = [] ∨ ∃ r, S.C = 61 :: r
  log : S.L = frames F
  waits : S.W = waitsOf F k
  kF : k ≤ F.length
/-- the same, of a disk that is off -/
structure VOff (R : Nat) (pre F : List (List UInt8)) (S : DState) : Prop where
  off : S.on = false
  room : S.room = R
  st : startT S.C emptyB = allF emptyB pre
  cs : S.C = [] ∨ ∃ r, S.C = 61 :: r
  scan : scanT S.L = (F, (frames F).length)
  log : S.L.take (frames F).length = frames F
  waits : S.W = []
section
variable {R k : Nat} {pre F : List (List UInt8)} {S : DState}
theorem start_size {C : List UInt8} {p : List (List UInt8)} (st : startT C emptyB = allF emptyB p) (cs : C = [] ∨ ∃ r, C = 61 :: r) : C.length ≤ 1 + bulk p := by
  rcases cs with e | ⟨r, e⟩
  · rw [e]; simp
  · have h := congrArg ByteArray.size st
    rw [allF_size] at h
    unfold startT at h
    rw [if_neg (by rw [e]; simp), e] at h
    have h2 : (ByteArray.mk (List.drop 1 (61 :: r)).toArray).size = r.length := by simp [ByteArray.size]
    rw [h2] at h
    have e0 : emptyB.size = 0 := rfl
    rw [e, List.length_cons]
    omega
theorem VSt.do_ (h : VSt R pre F k S) (c : List UInt8) : VSt R pre (F ++ [c]) k { S with L := S.L ++ frameOf c, W := S.W ++ [S.L.length], k := false } :=
  ⟨h.on, h.room, h.st, h.cs, by show S.L ++ frameOf c = _; rw [h.log, frames_app, frames_one], by show S.W ++ [S.L.length] = _; rw [h.waits, h.log, waits_snoc h.kF], by have := h.kF; simp; omega⟩
theorem VSt.sync (h : VSt R pre F k S) : VSt R pre F F.length { S with W := [] } := ⟨h.on, h.room, h.st, h.cs, h.log, (waits_all F).symm, Nat.le_refl _⟩
theorem VSt.settle (h : VSt R pre F k S) (b : Bool) : VSt R (pre ++ F) [] 0 { S with W := [], C := 61 :: (allF emptyB (pre ++ F)).data.toList, L := [], k := b } :=
  ⟨h.on, h.room, by
    show startT (61 :: (allF emptyB (pre ++ F)).data.toList) emptyB = _
    unfold startT
    rw [if_neg (by simp)]
    exact ba_ext (by simp), .inr ⟨_, rfl⟩, rfl, rfl, Nat.le_refl _⟩
theorem VSt.fits (h : VSt R pre F k S) (n : Nat) (hR : 17 + bulk pre + 9 * bulk F + n ≤ R) : S.used + (8 + n) ≤ S.room := by
  have h1 := start_size h.st h.cs
  have h2 := frames_bulk F
  have h3 : takenN S.C ≤ 8 + S.C.length := takenN_le _
  rw [h.room]
  unfold DState.used
  rw [h.log]
  omega
theorem VSt.small (h : VSt R pre F k S) (hb : bulk (pre ++ F) ≤ 6000) : S.C.length ≤ 1000000 ∧ S.L.length ≤ 1000000 ∧ S.W.length ≤ 1000000 ∧ F.length ≤ 6000 := by
  have h1 := start_size h.st h.cs
  have h2 := frames_bulk F
  have h3 := bulk_len F
  rw [bulk_app] at hb
  rw [h.log, h.waits, waits_len]
  omega
theorem short_of {L : List (List UInt8)} (hb : bulk L ≤ 6000) : ∀ p ∈ L, p.length ≤ 65536 := fun p hp => by
  have := bulk_mem hp
  omega
theorem VSt.offAll (h : VSt R pre F k S) (hb : bulk (pre ++ F) ≤ 6000) : VOff R pre F { S with on := false, W := [] } := by
  rw [bulk_app] at hb
  have hs := all_scan [] F (by simp) (short_of (by omega))
  simp only [frames, List.nil_append] at hs
  exact ⟨rfl, h.room, h.st, h.cs, by show scanT S.L = _; rw [h.log]; exact hs, by show S.L.take _ = _; rw [h.log, List.take_length], rfl⟩
theorem VSt.offAt (h : VSt R pre F k S) (hb : bulk (pre ++ F) ≤ 6000) {K t : Nat} (hK : K < F.length - k) (ht : begD F (k + K) + t < begD F (k + K + 1)) :
    VOff R pre (F.take (k + K)) { S with on := false, L := S.L.take (begD F (k + K) + t), W := [], k := false } := by
  rw [bulk_app] at hb
  have hs := crash_scan [] F (by simp) (short_of (by omega)) (k + K) (begD F (k + K) + t) (by omega) (by simp [frames]) (by simpa [frames] using ht)
  simp only [frames, List.nil_append, List.length_nil, Nat.zero_add] at hs
  refine ⟨rfl, h.room, h.st, h.cs, by show scanT (S.L.take _) = _; rw [h.log, hs]; rfl, ?_, rfl⟩
  show (S.L.take _).take _ = _
  rw [h.log, List.take_take, Nat.min_eq_left (by show (frames (F.take (k + K))).length ≤ _; exact Nat.le_add_right _ _)]
  have e := frames_app (F.take (k + K)) (F.drop (k + K))
  rw [List.take_append_drop] at e
  rw [e]
  exact List.take_left
theorem VOff.start (h : VOff R pre F S) : VSt R pre F F.length (startS S) := by
  refine ⟨rfl, h.room, h.st, h.cs, ?_, ?_, Nat.le_refl _⟩
  · show S.L.take (scanT S.L).2 = _
    rw [h.scan]
    exact h.log
  · show S.W = _
    rw [h.waits, waits_all]
end

/-- a vault in such a state, whose blocks are of E -/
structure VB (w : World) (b vb sb tb : Nat) (E : Nat → Prop) (R : Nat) (pre F : List (List UInt8)) (k c : Nat) : Prop where
  ex : ∃ S, Vlt w b vb sb tb E S (allF emptyB (pre ++ F)) c ∧ VSt R pre F k S
  lt : ∀ g, E g → b ≤ g ∧ g < w.heap.size
structure DB (w : World) (b sb : Nat) (E : Nat → Prop) (R : Nat) (pre F : List (List UInt8)) : Prop where
  ex : ∃ S, Disk w b sb E S ∧ VOff R pre F S ∧ S.L.length ≤ 1000000
  lt : ∀ g, E g → b ≤ g ∧ g < w.heap.size
section
variable {w : World} {b vb sb tb R k c : Nat} {E : Nat → Prop} {pre F : List (List UInt8)}
theorem VB.kF (h : VB w b vb sb tb E R pre F k c) : k ≤ F.length := by
  obtain ⟨S, _, hs⟩ := h.ex
  exact hs.kF
theorem VB.kept {D : Nat → Prop} {w' : World} (h : VB w b vb sb tb E R pre F k c) (hk : Keeps D w w') (hD : ∀ g, E g → ¬ D g) : VB w' b vb sb tb E R pre F k c := by
  obtain ⟨S, hv, hs⟩ := h.ex
  exact ⟨⟨S, hv.kept hk fun g _ => hD g, hs⟩, fun g hg => ⟨(h.lt g hg).1, Nat.lt_of_lt_of_le (h.lt g hg).2 hk.size⟩⟩
theorem up_lt {w' : World} (lt : ∀ g, E g → b ≤ g ∧ g < w.heap.size) (hs : w.heap.size ≤ w'.heap.size) (hb : b ≤ w.heap.size) : ∀ g, Up E w w' g → b ≤ g ∧ g < w'.heap.size := fun g hg => by
  rcases hg with e | e
  · have := lt g e
    omega
  · omega
theorem vb_do (h : VB w b vb sb tb E R pre F k c) (hb : b ≤ w.heap.size) (cmd : ByteArray) (hR : 17 + bulk pre + 9 * bulk F + cmd.size ≤ R) (hn : bulk (pre ++ F) + cmd.size + 1 ≤ 6000) (hc : c ≤ 100000) :
    Calls Try.prog 11 #[.pointer (some ⟨vb, 0, none⟩), .string cmd] w fun e w' => e = .returned (.tuple #[.string (digS (allF emptyB (pre ++ F)).size), .int .i64 0]) ∧ VB w' b vb sb tb (Up E w w') R pre (F ++ [cmd.data.toList]) k (c + 1) ∧ Keeps E w w' := by
  obtain ⟨S, hv, hs⟩ := h.ex
  obtain ⟨s1, s2, s3, s4⟩ := hs.small (by omega)
  have e0 : emptyB.size = 0 := rfl
  refine (vaultDo_ok hv hs.on cmd (by rw [allF_size]; omega) (by omega) (by omega) s1 s2 s3 (hs.fits cmd.size hR)).mono ?_
  rintro e w' ⟨rfl, hv', hk⟩
  refine ⟨rfl, ⟨⟨_, ?_, hs.do_ cmd.data.toList⟩, up_lt h.lt hk.size hb⟩, hk⟩
  have e1 : allF emptyB (pre ++ (F ++ [cmd.data.toList])) = allF emptyB (pre ++ F) ++ cmd ++ ⟨#[124]⟩ := by rw [← List.append_assoc, allF_snoc]
  rw [e1]
  exact hv'
theorem vb_sync (h : VB w b vb sb tb E R pre F k c) (hb : b ≤ w.heap.size) :
    Calls Try.prog 13 #[.pointer (some ⟨vb, 0, none⟩)] w fun e w' => e = .returned (.int .i64 0) ∧ VB w' b vb sb tb (Up E w w') R pre F F.length c ∧ Keeps E w w' := by
  obtain ⟨S, hv, hs⟩ := h.ex
  refine (vsync_any hv hs.on).mono ?_
  rintro e w' ⟨rfl, hv', hk⟩
  exact ⟨rfl, ⟨⟨_, hv', hs.sync⟩, up_lt h.lt hk.size hb⟩, hk⟩
theorem vb_sure (h : VB w b vb sb tb E R pre F k c) :
    Calls Try.prog 18 #[.pointer (some ⟨vb, 0, none⟩)] w fun e w' => e = .returned (.bool (((F.length - k : Nat) : Int) == 0)) ∧ w = w' := by
  obtain ⟨S, hv, hs⟩ := h.ex
  have := vsure_any hv
  rwa [hs.waits, waits_len] at this
theorem vb_count (h : VB w b vb sb tb E R pre F k c) :
    Calls Try.prog 16 #[.pointer (some ⟨vb, 0, none⟩)] w fun e w' => e = .returned (.int .i64 (c : Int)) ∧ w = w' := by
  obtain ⟨S, hv, hs⟩ := h.ex
  exact vcount_any hv
theorem vb_crash (h : VB w b vb sb tb E R pre F k c) (hn : bulk (pre ++ F) ≤ 6000) (M N : Int) (hM : M ≤ 9223372036854775807) (hN : N ≤ 9223372036854775807) :
    Calls Try.prog 15 #[.pointer (some ⟨sb, 0, none⟩), .int .i64 M, .int .i64 N] w fun e w' => e = .returned (.tuple #[]) ∧ DB w' b sb E R pre (F.take (k + min M.toNat (F.length - k))) ∧ Keeps E w w' := by
  obtain ⟨S, hv, hs⟩ := h.ex
  obtain ⟨s1, s2, s3, s4⟩ := hs.small hn
  have hKe : (if M < 0 then 0 else M) = ((M.toNat : Nat) : Int) := by split <;> omega
  have hNe : (if N < 0 then 0 else N) = ((N.toNat : Nat) : Int) := by split <;> omega
  have hWl : S.W.length = F.length - k := by rw [hs.waits, waits_len]
  have lt' : ∀ w' : World, w'.heap.size = w.heap.size → ∀ g, E g → b ≤ g ∧ g < w'.heap.size := fun w' e g hg => by
    have := h.lt g hg
    omega
  by_cases hK : F.length - k ≤ M.toNat
  · refine (crash_all hv.disk hs.on M N M.toNat hKe (by omega)).mono ?_
    rintro e w' ⟨rfl, hd, hk, hsz⟩
    have hkF := hs.kF
    rw [Nat.min_eq_right hK, show k + (F.length - k) = F.length from by omega, List.take_length]
    exact ⟨rfl, ⟨⟨_, hd, hs.offAll hn, s2⟩, lt' w' hsz⟩, hk⟩
  · have hK' : M.toNat < F.length - k := by omega
    have hb1 : S.W[M.toNat]? = some (begD F (k + M.toNat)) := by rw [hs.waits, waits_at hK']
    have hkm : k + M.toNat < F.length := by omega
    obtain ⟨l, hl⟩ : ∃ l, F[k + M.toNat]? = some l := ⟨_, List.getElem?_eq_getElem hkm⟩
    have hbs := begD_succ hl
    have hbl : begD F (k + M.toNat + 1) ≤ (frames F).length := by
      have h1 := frames_app (F.take (k + M.toNat + 1)) (F.drop (k + M.toNat + 1))
      rw [List.take_append_drop] at h1
      rw [h1, List.length_append]
      exact Nat.le_add_right _ _
    refine (crash_at hv.disk hs.on M N M.toNat (begD F (k + M.toNat)) (begD F (k + M.toNat + 1)) N.toNat (min N.toNat (begD F (k + M.toNat + 1) - 1 - begD F (k + M.toNat))) hKe s3 hb1 ?_ ?_ (by omega) (by rw [hs.log]; exact hbl) s2 hNe rfl).mono ?_
    · intro hlt
      rw [hWl] at hlt
      rw [hs.waits, waits_at hlt]
      rfl
    · intro he
      rw [hWl] at he
      rw [hs.log, show k + M.toNat + 1 = F.length from by omega]
      simp [begD]
    · rintro e w' ⟨rfl, hd, hk, hsz⟩
      rw [Nat.min_eq_left (by omega)]
      refine ⟨rfl, ⟨⟨_, hd, hs.offAt hn hK' (by omega), ?_⟩, lt' w' hsz⟩, hk⟩
      show (S.L.take _).length ≤ _
      rw [List.length_take]
      omega
theorem db_open (h : DB w b sb E R pre F) (hb : b ≤ w.heap.size) (hn : bulk (pre ++ F) ≤ 6000) :
    Calls Try.prog 10 #[.pointer (some ⟨sb, 0, none⟩)] w fun e w' => ∃ vb tb, e = .returned (.tuple #[.pointer (some ⟨vb, 0, none⟩), .pointer (some ⟨tb, 0, none⟩)]) ∧ VB w' b vb sb tb (Up E w w') R pre F F.length F.length ∧ Keeps E w w' := by
  obtain ⟨S, hd, ho, hL⟩ := h.ex
  have e0 : emptyB.size = 0 := rfl
  rw [bulk_app] at hn
  refine (opened_ok hd ho.off hL ho.cs (by rw [ho.scan, ho.st, allF_size]; show _ + bulk F ≤ _; omega)).mono ?_
  rintro e w' ⟨vb, tb, rfl, hv, hk⟩
  refine ⟨vb, tb, rfl, ⟨⟨_, ?_, ho.start⟩, up_lt h.lt hk.size hb⟩, hk⟩
  rw [ho.scan, ho.st] at hv
  rw [allF_app]
  exact hv
theorem vb_settle (h : VB w b vb sb tb E R pre F k c) (hb : b ≤ w.heap.size) (hn : bulk (pre ++ F) ≤ 6000) (hR : 9 + bulk (pre ++ F) ≤ R) :
    Calls Try.prog 14 #[.pointer (some ⟨vb, 0, none⟩)] w fun e w' => e = .returned (.int .i64 0) ∧ VB w' b vb sb tb (Up E w w') R (pre ++ F) [] 0 c ∧ Keeps E w w' := by
  obtain ⟨S, hv, hs⟩ := h.ex
  have e0 : emptyB.size = 0 := rfl
  refine (vsettle_ok hv hs.on (by rw [allF_size]; omega) (by rw [allF_size, hs.room]; omega)).mono ?_
  rintro e w' ⟨rfl, hv', hk⟩
  refine ⟨rfl, ⟨⟨_, ?_, hs.settle true⟩, up_lt h.lt hk.size hb⟩, hk⟩
  rw [List.append_nil]
  exact hv'
end
end Go.Proofs.Ytghcmlipbmmfjaa
