/- The slices that layer 5 has, beside those of integers: of slots of nodes, of nodes, of attributes, of the law's deeds. No condition. -/
import Derived.Test.YtddfkeilifcidaaKindI
import Derived.Test.YtddfkeilifcidaaPlain3
set_option linter.unusedVariables false
set_option linter.unusedSimpArgs false
namespace Go.Proofs.Ytddfkeilifcidaa.P4
open Go.RowKit Kd

/-- a slice, as a value that lies in a cell -/
structure Sv where
  A : Option Addr
  n : Nat
  c : Nat
def Sv.val (s : Sv) : Value := .slice s.A s.n s.c
/-- a node as its cells are -/
structure RN where
  id : Int
  par : Int
  tag : ByteArray
  txt : ByteArray
  key : ByteArray
  va : Sv
  vk : Sv
  note : Int
def RN.cells (a : RN) : List Value := [.int .i64 a.id, .int .i64 a.par, .string a.tag, .string a.txt, .string a.key, a.va.val, a.vk.val, .int .i64 a.note]
/-- a deed of the law, as its cells are -/
structure RE where
  what : Int
  next : Bool
  op : Int
  rid : Int
  par : Int
  bef : Int
  tag : ByteArray
  txt : ByteArray
  key : ByteArray
  va : Sv
  id : Int
  n : Int
def RE.cells (a : RE) : List Value := [.int .i64 a.what, .bool a.next, .int .i64 a.op, .int .i64 a.rid, .int .i64 a.par, .int .i64 a.bef, .string a.tag, .string a.txt, .string a.key, a.va.val, .int .i64 a.id, .int .i64 a.n]
end Go.Proofs.Ytddfkeilifcidaa.P4
