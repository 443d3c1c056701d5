/- Letters that have but a number; nets whose letters are numbered through. No condition. -/
import Derived.Test.YtaljojjpgkmiiaaMNetA
import Derived.Test.YtaljojjpgkmiiaaShelf
import Derived.Test.YtaljojjpgkmiiaaMNetF
namespace Go.Proofs.Ytaljojjpgkmiiaa
open Go.RowKit

theorem netNew_any (w : World) : Calls Try.prog 32 #[] w fun e w' => ∃ sb mb, e = .returned (.pointer (some ⟨sb, 0, none⟩)) ∧ NetAt w' w.heap.size sb mb [] 0 ∧ Below w.heap.size w w' := by
  obtain ⟨w1, hw1⟩ : ∃ w1, (w.alloc (.map #[] 0)).alloc (.cells #[.map (some w.heap.size), .int .i64 0] 124) = w1 := ⟨_, rfl⟩
  have hbox : Box w1 (w.heap.size + 1) 124 #[.map (some w.heap.size), .int .i64 ((0 : Nat) : Int)] := by
    have := Box.made (w.alloc (.map #[] 0)) 124 #[.map (some w.heap.size), .int .i64 0]
    rw [World.size_alloc, hw1] at this
    exact this
  have hown : w1.ownsMap Try.prog 3 Rn w.heap.size 0 (nmap []) := hw1 ▸ (World.ownsMap_made w Try.prog 3 Rn).alloc _
  have H : Hid (NetAt w1 w.heap.size (w.heap.size + 1) w.heap.size [] 0) := Lib.hid ⟨by omega, Nat.le_refl _, hbox, hown, List.Pairwise.nil, by simp, by simp, by simp⟩
  have HB : Hid (Below w.heap.size w w1) := Lib.hid (hw1 ▸ ((Below.refl _ w).alloc (Nat.le_refl _) _).alloc (by simp) _)
  clear hbox hown
  have hmk := run_makeMap (P := Try.prog) 122 w
  go_enter Try.func32, Try.ntmps32
  go_wp2
  go_ret
  exact ⟨_, _, rfl, H.out, HB.out⟩
section
variable {w : World} {B sb mb d : Nat} {E : List NEn}
theorem netLen_any (h : NetAt w B sb mb E d) : Calls Try.prog 39 #[.pointer (some ⟨sb, 0, none⟩)] w fun e w' => e = .returned (.int .i64 E.length) ∧ Below w.heap.size w w' := by
  obtain ⟨q0, -, -, -⟩ := h.cells
  have hl := h.own.len (ty := 3) Try.underlying122
  rw [nmap_size] at hl
  clear h
  go_enter Try.func39, Try.ntmps39
  go_wp2
  go_ret
  exact ⟨rfl, Below.refl _ _⟩
theorem sorts_int (m : Nat) : AnyZI.SortsIn Try.prog Try.sorted73_ren Fence.wide m :=
  ⟨fun blk off cap ss W hH hblk hsz => callsIn_wide.2 (AnyM.slices_Sort_int Try.sort107 blk off cap ss W hH hblk hsz),
   fun p cap W => callsIn_wide.2 (AnyM.slices_Sort_int_none Try.sort107 p cap W)⟩
theorem mapsKeysI_any (mb : Option Nat) (W : World) : Calls Try.prog 74 #[.map mb] W fun e w' => e = .returned (.func (.func 108) #[] #[.pointer (some ⟨W.heap.size, 0, none⟩)]) ∧ w' = W.alloc (.cells #[.map mb] 122) :=
  callsIn_wide.1 (AnyZI.keys_in Try.keys74 Fence.wide 5 trivial rfl mb W)
set_option maxHeartbeats 1000000 in
theorem sortedKeysI_any (b nn : Nat) (D0 : DataW Value) (w : World) (hown : w.ownsMap Try.prog 3 Rn b nn D0) (hmax : Maps.size D0 ≤ maxLen) (hbytes : Maps.size D0 * 8 ≤ 140737488355328) :
    Calls Try.prog 73 #[.func (.func 108) #[] #[.pointer (some ⟨w.heap.size, 0, none⟩)]] (w.alloc (.cells #[.map (some b)] 122)) fun e w' => ∃ (v : Value) (ss : List Int), e = .returned v ∧ ss.Perm (intKeys D0) ∧
      w'.ownsRow (w.alloc (.cells #[.map (some b)] 122)).heap.size 3 1 v ss.length ((ss.mergeSort (fun x y => decide (x ≤ y))).map encZ) ∧ (v = .slice none 0 0 ↔ ss = []) ∧ Below (w.alloc (.cells #[.map (some b)] 122)).heap.size (w.alloc (.cells #[.map (some b)] 122)) w' := by
  have hbl := hown.lt
  have hseq : SeqGives Fence.wide 2 Try.prog 108 #[.pointer (some ⟨w.heap.size, 0, none⟩)] encZ (fun ss => ss.Perm (intKeys D0)) (Maps.size D0) (w.alloc (.cells #[.map (some b)] 122)) :=
    AnyZI.keys_gives (ρ := Try.keys74_ren) { Try.keys74 with } Fence.wide _ trivial rfl (by omega) w.heap.size b nn D0 _ (by simp) (by simp) (by
      obtain ⟨es, clock, hb, Ft, hs, hD⟩ := hown
      exact ⟨es, clock, (Below.heap_alloc _ _ b hbl).trans hb, Ft, hs, hD⟩)
  exact callsIn_wide.1 (AnyZI.sorted_in Try.sorted73 Fence.wide 5 trivial trivial trivial trivial rfl (by omega) (sorts_int _) (enters_of Try.func107 (by kernel_rfl) rfl) 108 #[.pointer (some ⟨w.heap.size, 0, none⟩)] trivial (enters_of Try.func108 (by kernel_rfl) rfl) _ _ hmax hbytes _ hseq)
theorem nums_pair {E : List NEn} (h : E.Pairwise fun p q => p.n < q.n) : (E.map (·.n)).Pairwise (· < ·) := by
  rw [List.pairwise_map]
  exact h
set_option maxRecDepth 100000 in
theorem netUnder_any (h : NetAt w B sb mb E d) (hE : E.length ≤ 100000) : Calls Try.prog 33 #[.pointer (some ⟨sb, 0, none⟩)] w fun e w' => ∃ v, e = .returned v ∧ w'.ownsRow w.heap.size 3 1 v E.length ((E.map (·.n)).map encZ) ∧ Below w.heap.size w w' := by
  obtain ⟨q0, -, -, -⟩ := h.cells
  have Hs := Lib.hid (sortedKeysI_any mb E.length _ w h.own (by rw [nmap_size]; simp only [maxLen]; omega) (by rw [nmap_size]; omega))
  have Hr := Lib.hid (nums_pair h.rise)
  clear h
  go_enter Try.func33, Try.ntmps33
  go_wp2_with fail
  refine (mapsKeysI_any (some mb) _).mono ?_
  rintro e w1 ⟨rfl, rfl⟩
  go_wp2_with fail
  refine Hs.out.mono ?_
  rintro e w2 ⟨v, ss, rfl, hp, hrow, -, hb⟩
  have hb2 := Lib.hid ((below_box (w := w) (.cells #[.map (some mb)] 122)).trans (hb.mono (by simp)))
  rw [nmap_keys] at hp
  have hsort := sort_ints hp Hr.out
  have hlen : ss.length = E.length := by rw [hp.length_eq, List.length_map]
  rw [hsort, hlen] at hrow
  have Hrow := Lib.hid (own_base hrow (by simp : w.heap.size ≤ _))
  clear hb hsort hlen hrow hp
  go_wp2
  go_ret
  exact ⟨_, rfl, Hrow.out, hb2.out⟩
end
end Go.Proofs.Ytaljojjpgkmiiaa

namespace Go.Proofs.Ytaljojjpgkmiiaa
open Go.RowKit

def exN : Let := ⟨0, 0, 0, 0, 0, 0, 0, ⟨#[97]⟩, ⟨#[]⟩, [], [], 0, false, ⟨#[]⟩⟩
theorem exN_err : exN.err = 0 := err_zero.2 ⟨by decide, by decide, by decide, by
  have h0 : numForm 0 = [0] := numForm_lo (by omega)
  have h1 : numForm 1 = [1] := numForm_lo (by omega)
  show (numForm 0 ++ (numForm 0 ++ (numForm 0 ++ (numForm 0 ++ (numForm 0 ++ (numForm 0 ++ (numForm 0 ++ (numForm 0 ++ (numForm 0 ++ ((numForm 1 ++ [97]) ++ ((numForm 0 ++ []) ++ ((numForm 0 ++ []) ++ (numForm 0 ++ (numForm 0 ++ [])))))))))))))).length ≤ _
  rw [h0, h1]
  decide⟩
theorem wf_small (n : Int) (h : 0 ≤ n) (h2 : n ≤ 1000000000000) : (Lit.int .i64 n).wf = true := by
  obtain ⟨k, rfl⟩ : ∃ k : Nat, n = (k : Int) := ⟨n.toNat, by omega⟩
  exact wf_nat k (by omega)
/-- what Send leaves of a right letter, where there is room -/
theorem SendPost.ok {B sb mb d : Nat} {E : List NEn} {L : Let} {w w' : World} {e : Ending} (h : SendPost B sb mb E d L w e w') (hL : L.err = 0) (hE : E.length < 4096) :
    ∃ en : NEn, en.n = ((d + 1 : Nat) : Int) ∧ en.L = L ∧ e = .returned (.tuple #[.int .i64 ((d + 1 : Nat) : Int), .int .i64 0]) ∧ NetAt w' B sb mb (E ++ [en]) (d + 1) ∧
    (OwnLps w' w.heap.size (.slice en.Ap L.ps.length en.cp) L.ps ∧ OwnLis w' w.heap.size (.slice en.Ai L.is.length en.ci) L.is) ∧ Kept2 sb mb w w' := by
  rcases h with ⟨h1, -⟩ | ⟨-, h⟩
  · exact absurd hL h1
  · rcases h with ⟨h1, -⟩ | ⟨-, h⟩
    · omega
    · exact h
set_option maxRecDepth 100000 in
set_option maxHeartbeats 6400000 in
theorem awake14_any (w : World) : Calls Try.prog 42 #[] w fun e w' => e = .returned (.bool true) ∧ Below w.heap.size w w' := by
  go_enter Try.func42, Try.ntmps42
  go_wp2_with fail
  refine (netNew_any w).mono ?_
  rintro e w1 ⟨sb, mb, rfl, n1, b1⟩
  have Hs : Hid (Calls Try.prog 44 #[.pointer (some ⟨sb, 0, none⟩), .agg #[.int .i64 0, .int .i64 0, .int .i64 0, .int .i64 0, .int .i64 0, .int .i64 0, .int .i64 0, .string ⟨#[97]⟩, .string ⟨#[]⟩, .slice none 0 0, .slice none 0 0, .int .i64 0, .bool false, .string ⟨#[]⟩]] w1 (SendPost w.heap.size sb mb [] 0 exN w1)) :=
    Lib.hid (netSend_any n1 b1.size (by omega) exN none 0 0 none 0 0 (fun wx _ => ⟨HasLps.nil _ _ _, HasLis.nil _ _ _⟩) ⟨by simp [maxLen], by simp [maxLen]⟩ (by decide) (by simp [exN]) (by simp [exN]))
  have N1 := Lib.hid n1
  have B1 := Lib.hid b1
  clear n1 b1
  go_wp2_with fail
  refine Hs.out.mono ?_
  rintro e w2 hp
  obtain ⟨en, hn, hL, rfl, n2, -, k2⟩ := hp.ok exN_err (by simp)
  have hb2 := B1.out.trans (k2.below N1.out.sB N1.out.mB B1.out.size)
  obtain ⟨n, Ap, cp, Ai, ci, L⟩ := en
  simp only at hn hL
  subst hn hL
  have Ht := Lib.hid (netTwice_any n2 hb2.size (by omega) 1 (wf_small 1 (by omega) (by omega)))
  have HB2 := Lib.hid hb2
  have N2 := Lib.hid n2
  clear hb2 n2 k2 hp Hs N1
  go_wp2_with fail
  refine Ht.out.mono ?_
  rintro e w3 hp
  rcases hp with ⟨hg, -⟩ | ⟨e0, hg, hp⟩
  · exact absurd hg (by simp [getN])
  have h0 : e0 = ⟨((0 + 1 : Nat) : Int), Ap, cp, Ai, ci, exN⟩ := by simpa [getN] using hg.symm
  subst h0
  rcases hp with ⟨h1, -⟩ | ⟨-, en, hn, hL, rfl, n3, -, k3⟩
  · simp at h1
  have hb3 := HB2.out.trans (k3.below N2.out.sB N2.out.mB HB2.out.size)
  obtain ⟨n, Bp, dp, Bi, di, L⟩ := en
  simp only at hn hL
  subst hn hL
  have Hd := Lib.hid (netDeliver_any n3 1 (wf_small 1 (by omega) (by omega)))
  have HB3 := Lib.hid hb3
  have N3 := Lib.hid n3
  clear hb3 n3 k3 Ht N2 hg
  go_wp2_with fail
  refine Hd.out.mono ?_
  rintro e w4 hp
  rcases hp with ⟨hg, -⟩ | ⟨e0, hg, rfl, n4, -, k4⟩
  · exact absurd hg (by simp [getN])
  have h0 : e0 = ⟨((0 + 1 : Nat) : Int), Ap, cp, Ai, ci, exN⟩ := by simpa [getN] using hg.symm
  subst h0
  have hb4 := HB3.out.trans (k4.below N3.out.sB N3.out.mB HB3.out.size)
  have hdl : delN 1 ([⟨((0 + 1 : Nat) : Int), Ap, cp, Ai, ci, exN⟩] ++ [⟨((0 + 1 + 1 : Nat) : Int), Bp, dp, Bi, di, exN⟩]) = [⟨((0 + 1 + 1 : Nat) : Int), Bp, dp, Bi, di, exN⟩] := by simp [delN]
  have e1 : ([] ++ [(⟨((0 + 1 : Nat) : Int), Ap, cp, Ai, ci, exN⟩ : NEn)] ++ [⟨((0 + 1 + 1 : Nat) : Int), Bp, dp, Bi, di, exN⟩] : List NEn) = [⟨((0 + 1 : Nat) : Int), Ap, cp, Ai, ci, exN⟩] ++ [⟨((0 + 1 + 1 : Nat) : Int), Bp, dp, Bi, di, exN⟩] := rfl
  rw [e1, hdl] at n4
  obtain ⟨X, hX⟩ : ∃ X, exN = X := ⟨_, rfl⟩
  have hs : X.s = ⟨#[97]⟩ := by rw [← hX]; rfl
  rw [hX] at n4
  simp only [hX] 
  have HL : Hid (∀ wx, Below w4.heap.size w4 wx → Calls Try.prog 39 #[.pointer (some ⟨sb, 0, none⟩)] wx fun e w' => e = .returned (.int .i64 1) ∧ Below wx.heap.size wx w') := Lib.hid fun wx hx => netLen_any (n4.below hx)
  have HB4 := Lib.hid hb4
  clear hb4 n4 k4 Hd N3 hg hdl e1 hX
  obtain ⟨c0, c1, c2, c3, c4, c5, c6, c7, c8, ps, is, c11, c12, c13⟩ := X
  simp only at hs ⊢
  subst hs
  have hbx := below_box (w := w4) (.cells #[.int .i64 c0, .int .i64 c1, .int .i64 c2, .int .i64 c3, .int .i64 c4, .int .i64 c5, .int .i64 c6, .string ⟨#[97]⟩, .string c8, .slice Ap ps.length cp, .slice Ai is.length ci, .int .i64 c11, .bool c12, .string c13] 69)
  have HL2 := Lib.hid (HL.out _ hbx)
  have HB5 := Lib.hid (HB4.out.trans (hbx.mono HB4.out.size))
  clear hbx HL
  go_wp2_with fail
  refine HL2.out.mono ?_
  rintro e w5 ⟨rfl, b5⟩
  have HE := Lib.hid (HB5.out.trans (b5.mono HB5.out.size))
  clear b5
  go_wp2
  go_ret
  exact ⟨rfl, HE.out⟩
end Go.Proofs.Ytaljojjpgkmiiaa

namespace Go.Proofs.Ytaljojjpgkmiiaa
open Go.RowKit

def lA (i : Int) : Let := ⟨0, 0, 0, i, 0, 0, 0, ⟨#[]⟩, ⟨#[]⟩, [], [], 0, false, ⟨#[]⟩⟩
theorem lA_err (i : Int) (h : 0 ≤ i ∧ i ≤ 1000000) : (lA i).err = 0 := by
  have hi : okNum i := ⟨h.1, by omega⟩
  refine err_zero.2 ⟨⟨by show (0 : Int) ≤ 255; omega, ?_, by intro x hx; simp [lA] at hx⟩, by simp [lA], by simp [lA], ?_⟩
  · intro n hn
    simp [Let.nums, lA] at hn
    rcases hn with rfl | rfl | rfl
    · exact ⟨by omega, by omega⟩
    · exact hi
    · exact ⟨by omega, by omega⟩
  · have h1 := form_small i hi
    have h0 := form_small 0 ⟨by omega, by omega⟩
    have ht : (tokForm (.t ⟨#[]⟩)).length = 1 := by
      have : numForm 0 = [0] := numForm_lo (by omega)
      show (numForm 0 ++ []).length = 1
      rw [this]; rfl
    show (formsOf [.n 0, .n 0, .n 0, .n i, .n 0, .n 0, .n 0, .n 0, .n 0, .t ⟨#[]⟩, .t ⟨#[]⟩, .t ⟨#[]⟩, .n 0, .n 0]).length ≤ 65536
    simp only [formsOf, List.map_cons, List.map_nil, List.flatten_cons, List.flatten_nil, List.length_append, List.length_nil]
    omega
section
variable {w : World} {B sb mb d : Nat} {E : List NEn}
/-- Send of a letter that has but a number -/
theorem sendA_any (h : NetAt w B sb mb E d) (hB : B ≤ w.heap.size) (hd : d ≤ 100000000000) (i : Int) :
    Calls Try.prog 44 #[.pointer (some ⟨sb, 0, none⟩), .agg #[.int .i64 0, .int .i64 0, .int .i64 0, .int .i64 i, .int .i64 0, .int .i64 0, .int .i64 0, .string ⟨#[]⟩, .string ⟨#[]⟩, .slice none 0 0, .slice none 0 0, .int .i64 0, .bool false, .string ⟨#[]⟩]] w (SendPost B sb mb E d (lA i) w) :=
  netSend_any h hB hd (lA i) none 0 0 none 0 0 (fun wx _ => ⟨HasLps.nil _ _ _, HasLis.nil _ _ _⟩) ⟨by simp [maxLen], by simp [maxLen]⟩ (by intro s hs; simp [Let.txts, lA] at hs; subst hs; exact Nat.zero_le _) (by intro p hp; simp [lA] at hp) (by intro p hp; simp [lA] at hp)
theorem SendPost.many {L : Let} {w' : World} {e : Ending} (h : SendPost B sb mb E d L w e w') (hL : L.err = 0) (hE : 4096 ≤ E.length) : e = .returned (.tuple #[.int .i64 0, .int .i64 17]) ∧ NetAt w' B sb mb E d ∧ Below w.heap.size w w' := by
  rcases h with ⟨h1, -⟩ | ⟨-, h⟩
  · exact absurd hL h1
  · rcases h with ⟨h1, h2, h3, h4⟩ | ⟨h1, -⟩
    · exact ⟨h2, h3, h4⟩
    · omega
end
/-- the letters are numbered through, and each has its number -/
structure Numd (E : List NEn) (d : Nat) : Prop where
  len : E.length = d
  is : ∀ k, (getN k E).isSome = decide (1 ≤ k ∧ k ≤ (d : Int))
  a : ∀ k e, getN k E = some e → e.L.a = k
theorem getN_app (k : Int) (E : List NEn) (en : NEn) : getN k (E ++ [en]) = (getN k E).or (if en.n = k then some en else none) := by
  unfold getN
  rw [List.find?_append]
  congr 1
  by_cases h : en.n = k <;> simp [h]
theorem Numd.nil : Numd [] 0 := ⟨rfl, fun k => by simp [getN]; omega, fun k e h => by simp [getN] at h⟩
theorem Numd.add {E : List NEn} {d : Nat} {en : NEn} (h : Numd E d) (hn : en.n = ((d + 1 : Nat) : Int)) (hL : en.L = lA ((d : Int) + 1)) : Numd (E ++ [en]) (d + 1) := by
  refine ⟨by rw [List.length_append, h.len]; rfl, fun k => ?_, fun k e he => ?_⟩
  · rw [getN_app, Option.isSome_or, h.is k]
    by_cases e : en.n = k
    · rw [if_pos e]
      have : 1 ≤ k ∧ k ≤ ((d + 1 : Nat) : Int) := by omega
      simp [this]
      omega
    · rw [if_neg e]
      simp only [Option.isSome_none, Bool.or_false]
      exact decide_eq_decide.2 ⟨fun h => by omega, fun h => by omega⟩
  · rw [getN_app] at he
    cases hg : getN k E with
    | some e1 =>
      rw [hg] at he
      simp at he
      subst he
      exact h.a k e1 hg
    | none =>
      rw [hg] at he
      by_cases e1 : en.n = k
      · rw [if_pos e1] at he
        simp at he
        subst he
        rw [hL]
        show (d : Int) + 1 = k
        omega
      · rw [if_neg e1] at he
        simp at he
theorem delN_lt {k : Int} {E : List NEn} {e : NEn} (h : getN k E = some e) : (delN k E).length < E.length := by
  unfold delN
  refine List.length_filter_lt_length_iff_exists.2 ⟨e, (getN_some h).1, ?_⟩
  simp [(getN_some h).2]
end Go.Proofs.Ytaljojjpgkmiiaa
