/- container/heap's Push and Pop over the heap of runs; pushRest. Condition: the heap is in memory. -/
import Derived.Test.YteioopcacpihpaaHpD
namespace Go.Proofs.Yteioopcacpihpaa
open Go.RowKit
open Go.Lib (strCells compareBytes)

def PutPost (C hb : Nat) (L : List Rst) (w w' : World) : Prop := ∃ v' L', HpSt w' C hb v' L' ∧ HKeep C w w' ∧ L'.Perm L ∧ IsHeap ltR (gl L') L'.length
set_option maxRecDepth 100000 in
set_option maxHeartbeats 1600000 in
theorem hpush_any {w : World} {C hb : Nat} {v : Value} {L : List Rst} (h : HpSt w C hb v L) (x : Rst) (hx : RstOk w C x) (hL : L.length ≤ 99000) (hh : IsHeap ltR (gl L) L.length) :
    Calls Try.prog 100 #[.iface 111 (.pointer (some ⟨hb, 0, none⟩)), .iface 116 (.agg #[x.v, .int .i64 (x.r : Int)])] w fun e w' => e = .returned (.tuple #[]) ∧ PutPost C hb (L ++ [x]) w w' := by
  have Hp := Lib.hid (push_any h x hx (by omega))
  have Hh : Hid (UpI ltR (gl (L ++ [x])) (L ++ [x]).length L.length) := Lib.hid (by
    rw [List.length_append, List.length_singleton]
    exact UpI.start (hh.congr fun i hi => gl_app hi))
  have Hlen : Hid ((L ++ [x]).length = L.length + 1) := Lib.hid (by simp)
  obtain ⟨n, hn⟩ : ∃ n, L.length = n := ⟨_, rfl⟩
  rw [hn] at Hh Hlen hL
  clear h hx hh hn
  go_enter Try.func100, Try.ntmps100
  go_wp2_with fail
  refine Hp.out.mono ?_
  rintro e w2 ⟨rfl, v2, h2, k2⟩
  have H2 := Lib.hid h2
  have K2 := Lib.hid k2
  obtain ⟨A, c, rfl, -, -, -⟩ := h2.slice
  rw [Hlen.out] at H2
  have hm := fun f => meth_len H2.out.cell f
  have hwn : IntKind.i64.wrap (n : Int) = (n : Int) := IntWalk.i64_in _ (by omega)
  have hl1 := Hlen.out
  have Hu := Lib.hid (up_any H2.out (j := n) (by omega) Hh.out (by omega))
  clear h2 k2 hl1
  go_wp2_with fail
  refine (len_any A (n + 1) c w2).mono ?_
  rintro e w3 ⟨rfl, rfl⟩
  go_wp2_with fail
  refine Hu.out.mono ?_
  rintro e w4 ⟨rfl, L', h4, k4, p4, i4⟩
  have H4 : Hid (PutPost C hb (L ++ [x]) w w4) := Lib.hid ⟨_, L', h4, K2.out.trans k4, p4, i4⟩
  clear h4 k4 p4 i4
  go_wp2
  go_end0
  exact ⟨rfl, H4.out⟩

def PopPost (C hb : Nat) (L : List Rst) (w : World) (e : Ending) (w' : World) : Prop := ∃ x L', e = .returned (.iface 116 (.agg #[x.v, .int .i64 (x.r : Int)])) ∧ L.Perm (x :: L') ∧ (∀ y ∈ L', ¬ ltR y x) ∧ PutPost C hb L' w w'
set_option maxRecDepth 100000 in
set_option maxHeartbeats 1600000 in
theorem hpop_any {w : World} {C hb : Nat} {v : Value} {L : List Rst} (h : HpSt w C hb v L) (h0 : 0 < L.length) (hL : L.length ≤ 99000) (hh : IsHeap ltR (gl L) L.length) :
    Calls Try.prog 79 #[.iface 111 (.pointer (some ⟨hb, 0, none⟩))] w (PopPost C hb L w) := by
  obtain ⟨n, hn⟩ : ∃ n, L.length = n + 1 := ⟨L.length - 1, by omega⟩
  have H := Lib.hid h
  have Hh := Lib.hid hh
  have HN := Lib.hid hn
  obtain ⟨A, c, rfl, -, -, -⟩ := h.slice
  rw [hn] at H
  have hm := fun f => meth_len H.out.cell f
  have hwn : IntKind.i64.wrap (n : Int) = (n : Int) := IntWalk.i64_in _ (by omega)
  have hms := fun f => meth_swap H.out.cell f
  have Hs := Lib.hid (swap_any H.out (i := 0) (j := n) (by omega) (by omega))
  have Hd : Hid (DownI ltR (gl (sw L 0 n)) n 0) := Lib.hid (by
    rw [gl_sw (by omega) (by omega)]
    rw [hn] at hh
    exact DownI.start hh)
  have Hx : Hid (gl (sw L 0 n) n = gl L 0) := Lib.hid (by rw [gl_sw (by omega) (by omega)]; simp [swf])
  have Hp := Lib.hid (sw_perm (l := L) (i := 0) (j := n) (by omega) (by omega))
  have hn9 : n ≤ 99000 := by omega
  clear h hh hn h0 hL
  go_enter Try.func79, Try.ntmps79
  go_wp2_with fail
  refine (len_any A (n + 1) c w).mono ?_
  rintro e w2 ⟨rfl, rfl⟩
  go_wp2_with fail
  refine Hs.out.mono ?_
  rintro e w3 ⟨rfl, h3, k3⟩
  have H3 := Lib.hid h3
  have K3 := Lib.hid k3
  have Hdn := Lib.hid (down_any h3 (n := n) (by rw [sw_len, HN.out]) Hd.out (by rw [sw_len, HN.out]; omega))
  clear h3 k3 hm hms
  go_wp2_with fail
  refine Hdn.out.mono ?_
  rintro e w4 ⟨b, rfl, L', h4, k4, p4, i4, f4⟩
  have H4 := Lib.hid h4
  have K4 := Lib.hid (K3.out.trans k4)
  have P4 := Lib.hid (p4.trans Hp.out)
  have I4 := Lib.hid i4
  have F4 := Lib.hid ((f4 n (Nat.le_refl _)).trans Hx.out)
  have Hl4 : Hid (L'.length = n + 1) := Lib.hid (by rw [P4.out.length_eq, HN.out])
  have Hpop := Lib.hid (pop_any h4 Hl4.out)
  clear h4 k4 p4 i4 f4
  go_wp2_with fail
  refine Hpop.out.mono ?_
  rintro e w5 ⟨rfl, v5, h5, k5⟩
  rw [F4.out]
  have hl := Hl4.out
  have HE : Hid (PopPost C hb L w (.returned (.iface 116 (.agg #[(gl L 0).v, .int .i64 ((gl L 0).r : Int)]))) w5) := Lib.hid (by
    have hd : L'.drop n = [gl L 0] := by
      rw [List.drop_eq_getElem_cons (by omega), List.drop_of_length_le (by omega)]
      have e1 : L'[n]? = some (gl L' n) := gl_get (by omega)
      rw [List.getElem?_eq_getElem (by omega), F4.out] at e1
      injection e1 with e1
      rw [e1]
    have hper : L.Perm (gl L 0 :: L'.take n) := by
      refine P4.out.symm.trans ?_
      have e2 := List.take_append_drop n L'
      rw [hd] at e2
      rw [← e2, List.take_left' (by rw [List.length_take]; omega)]
      exact List.perm_append_comm
    refine ⟨gl L 0, L'.take n, rfl, hper, fun y hy => ?_, v5, L'.take n, h5, K4.out.trans k5, List.Perm.refl _, ?_⟩
    · obtain ⟨i, hi, e⟩ := List.getElem_of_mem (hper.mem_iff.2 (List.mem_cons_of_mem _ hy))
      have h1 := Hh.out.least ltR_weak i hi
      have e2 : gl L i = y := by simp [gl, hi, e]
      rwa [e2] at h1
    · rw [List.length_take, hl, Nat.min_eq_left (Nat.le_succ _)]
      exact I4.out.congr fun i hi => gl_take hi)
  clear h5 k5 hl
  go_wp2
  go_ret
  exact HE.out
end Go.Proofs.Yteioopcacpihpaa
