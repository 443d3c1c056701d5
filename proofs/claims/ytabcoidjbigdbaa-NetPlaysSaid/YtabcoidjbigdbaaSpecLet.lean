/-
  Layer 13 as plain mathematics: letters, the numbers and texts that their bytes are the forms of, which letters are right. Nothing of the translated program is named here.
-/
import Derived.Test.YtabcoidjbigdbaaSpecBack
namespace Go.Proofs.Ytabcoidjbigdbaa

structure LPr where
  k : ByteArray
  v : ByteArray
structure LIt where
  e : ByteArray
  v : Int
  g : Bool
structure Let where
  kind : Int
  frm : Int
  to : Int
  a : Int
  b : Int
  c : Int
  d : Int
  s : ByteArray
  t : ByteArray
  ps : List LPr
  is : List LIt
  code : Int
  yes : Bool
  body : ByteArray
/-- a number or a text -/
inductive LTok where
  | n (k : Int)
  | t (s : ByteArray)
def one (b : Bool) : Int := if b then 1 else 0
def tokForm : LTok → List UInt8
  | .n k => if k < 0 then [] else numForm k.toNat
  | .t s => textForm s.data.toList
def prToks : List LPr → List LTok
  | [] => []
  | p :: l => .t p.k :: .t p.v :: prToks l
def itToks : List LIt → List LTok
  | [] => []
  | p :: l => .t p.e :: .n p.v :: .n (one p.g) :: itToks l
def Let.nums (L : Let) : List Int := [L.kind, L.frm, L.to, L.a, L.b, L.c, L.d, L.code]
def Let.txts (L : Let) : List ByteArray := [L.s, L.t, L.body]
def Let.head (L : Let) : List LTok := L.nums.map .n
def Let.toks (L : Let) : List LTok := L.head ++ (.n (one L.yes) :: L.txts.map .t) ++ (.n L.ps.length :: prToks L.ps) ++ (.n L.is.length :: itToks L.is)
def formsOf (T : List LTok) : List UInt8 := (T.map tokForm).flatten
def okNum (n : Int) : Prop := 0 ≤ n ∧ n ≤ 1099511627776
instance (n : Int) : Decidable (okNum n) := by unfold okNum; infer_instance
/-- no number is outside -/
def Let.inside (L : Let) : Prop := L.kind ≤ 255 ∧ (∀ n ∈ L.nums, okNum n) ∧ ∀ i ∈ L.is, okNum i.v
instance (L : Let) : Decidable L.inside := by unfold Let.inside; infer_instance
/-- what is wrong with a letter -/
def Let.err (L : Let) : Int := if ¬ L.inside then 1 else if 256 < L.ps.length ∨ 256 < L.is.length ∨ 65536 < (formsOf L.toks).length then 4 else 0
theorem formsOf_app (A B : List LTok) : formsOf (A ++ B) = formsOf A ++ formsOf B := by simp [formsOf]
theorem formsOf_one (x : LTok) : formsOf [x] = tokForm x := by simp [formsOf]
theorem prToks_app (A B : List LPr) : prToks (A ++ B) = prToks A ++ prToks B := by
  induction A with
  | nil => rfl
  | cons p l ih => simp [prToks, ih]
theorem itToks_app (A B : List LIt) : itToks (A ++ B) = itToks A ++ itToks B := by
  induction A with
  | nil => rfl
  | cons p l ih => simp [itToks, ih]
theorem take_snocA {α : Type} {l : List α} {k : Nat} {p : α} (hp : l[k]? = some p) : l.take (k + 1) = l.take k ++ [p] := by
  rw [List.take_add_one, hp]
  rfl
theorem prToks_succ {l : List LPr} {k : Nat} {p : LPr} (h : l[k]? = some p) : prToks (l.take (k + 1)) = prToks (l.take k) ++ [.t p.k] ++ [.t p.v] := by
  rw [take_snocA h, prToks_app]
  simp [prToks]
theorem itToks_succ {l : List LIt} {k : Nat} {p : LIt} (h : l[k]? = some p) : itToks (l.take (k + 1)) = itToks (l.take k) ++ [.t p.e] ++ [.n p.v] ++ [.n (one p.g)] := by
  rw [take_snocA h, itToks_app]
  simp [itToks]
end Go.Proofs.Ytabcoidjbigdbaa
