/- The walk of TreeBack, over the contracts of the program's calls: what was built is told as it was. -/
import Derived.Test.YtkagaobelhpojaaGreatM8
import Derived.Test.YtkagaobelhpojaaGreatM18
import Derived.Test.YtkagaobelhpojaaGreatM30
import Derived.Test.YtkagaobelhpojaaGreatM34
import Derived.Test.YtkagaobelhpojaaGreatM35
set_option linter.unusedVariables false
set_option linter.unusedSimpArgs false
namespace Go.Proofs.YtkagaobelhpojaaGreat.P8
open Go.RowKit Kd P4 P5 P7

def BuildC : Prop := ∀ (t : TV) (w : World) (B C g p : Nat) (x : Dx) (vd : Value) (rs : List RR) (par bef : Int), C ≤ B → WF x.d → x.n ≤ 50000 → rs.length + 3 * countP (er t) ≤ 900 → Dc w B p x → Lg w B g p vd rs → TOk w C t → fewP (er t) = true →
  Calls Tryz.prog 9 #[.pointer (some ⟨g, 0, none⟩), .pointer (some ⟨p, 0, none⟩), .int .i64 par, .int .i64 bef, .agg #[.string t.tag, .string t.txt, .string t.key, .slice t.sa.A t.sa.n t.sa.c, .slice t.sk.A t.sk.n t.sk.c]] w fun e w' =>
    (mayP (er t) = false ∧ e = .returned (.tuple #[.int .i64 0, .iface 41 (.int .i64 1)]) ∧ Below w.heap.size w w') ∨
    (mayP (er t) = true ∧ ∃ x' vd' rs', e = .returned (.tuple #[.int .i64 (idP x.d par bef (er t)), errV (buildP x.d par bef (er t)).err]) ∧ LDid w B g p x vd x' vd' rs' w' ∧ x'.d = (buildP x.d par bef (er t)).d ∧ rs'.map (·.r) = rs.map (·.r) ++ (buildP x.d par bef (er t)).done)
def OfC : Prop := ∀ (w : World) (B p : Nat) (x : Dx) (i : Int), WF x.d → x.n ≤ 100000 → Dc w B p x → Calls Tryz.prog 16 #[.pointer (some ⟨p, 0, none⟩), .int .i64 i] w fun e w' =>
    (hasL x.l i = true ∧ ∃ tv : TV, e = .returned (.tuple #[.agg #[.string tv.tag, .string tv.txt, .string tv.key, .slice tv.sa.A tv.sa.n tv.sa.c, .slice tv.sk.A tv.sk.n tv.sk.c], .bool true]) ∧ er tv = treeP x.l (x.l.length + 1) i ∧ TOk w' w'.heap.size tv ∧ Below w.heap.size w w') ∨
    (hasL x.l i = false ∧ e = .returned (.tuple #[.agg #[.string ⟨#[]⟩, .string ⟨#[]⟩, .string ⟨#[]⟩, .slice none 0 0, .slice none 0 0], .bool false]) ∧ Below w.heap.size w w')
end Go.Proofs.YtkagaobelhpojaaGreat.P8

/- What attr.Same (by slices.Equal) answers, for every list that isn't too long. -/
namespace Go.Proofs.YtkagaobelhpojaaGreat.P3
open Go.RowKit

set_option maxHeartbeats 400000 in
theorem equal_any (l m : List At) (A B : Option Addr) (n n' c d : Nat) (w : World) (hn : l.length = n) (hn' : m.length = n') (hl : n ≤ 1000000) (hm : n' ≤ 1000000) (H : Holds w w.heap.size A l) (H2 : Holds w w.heap.size B m) :
    Calls Tryz.prog 74 #[.slice A n c, .slice B n' d] w fun e w' => e = .returned (.bool (sameA l m)) ∧ Below w.heap.size w w' := by
  have HH := Lib.hid H
  have HH2 := Lib.hid H2
  have HN := Lib.hid hn
  have HN' := Lib.hid hn'
  clear H H2 hn hn'
  by_cases hlen : n = n'
  · subst hlen
    go_enter Tryz.func74, Tryz.ntmps74
    go_wp2_with fail
    go_loopw [13] (fun i wr => ∃ k : Nat, k ≤ n ∧ i = .int .i64 k ∧ Hid (Below w.heap.size w wr) ∧ Hid (SameTo l m k)) (fun i _ => n - (intOf i).toNat)
    case atStart => exact ⟨0, by omega, rfl, Lib.hid (Below.refl _ _), Lib.hid (SameTo.zero _ _)⟩
    case round =>
      obtain ⟨k, hk, rfl, HW, HS⟩ := hrel
      by_cases hlt : k < n
      · have hlt1 : k < l.length := by have := HN.out; omega
        have hlt2 : k < m.length := by have := HN'.out; omega
        obtain ⟨b, o, rfl, hb, h0, h1, h2⟩ := (HH.out.below HW.out (Nat.le_refl _)) k hlt1
        obtain ⟨b', o', rfl, hb', h0', h1', h2'⟩ := (HH2.out.below HW.out (Nat.le_refl _)) k hlt2
        have hg := eqg
        cases hat : atB l[k] m[k]
        · have hq := neq_at hat
          have HAT := Lib.hid hat
          clear hat
          go_wp2_with fail
          go_quiet (fail)
          go_wp2_with fail
          go_ret
          exact ⟨ret_bool (sameA_bad hlt1 hlt2 HAT.out).symm, Below_drewN HW.out _⟩
        · have hq := neq_at hat
          have HAT := Lib.hid hat
          clear hat
          go_wp2_with fail
          go_quiet (fail)
          go_wp2_with fail
          go_roundw
          case rel => exact ⟨k + 1, by omega, by go_num, Lib.hid (Below_drewN HW.out _), Lib.hid (HS.out.next hlt1 hlt2 HAT.out)⟩
          case measure => simp [intOf]; omega
      · obtain rfl : k = n := by omega
        go_wp2_with fail
        go_ret
        exact ⟨ret_bool (HS.out.all HN.out HN'.out).symm, HW.out⟩
  · have he : ((n : Int) != (n' : Int)) = true := by simp; omega
    have HL : Hid (l.length ≠ m.length) := Lib.hid (by rw [HN.out, HN'.out]; exact hlen)
    clear hlen
    go_enter Tryz.func74, Tryz.ntmps74
    go_wp2_with fail
    go_ret
    exact ⟨ret_bool (sameA_len HL.out).symm, Below.refl _ _⟩

theorem same_any (l m : List At) (A B : Option Addr) (n n' c d : Nat) (w : World) (hn : l.length = n) (hn' : m.length = n') (hl : n ≤ 1000000) (hm : n' ≤ 1000000) (H : Holds w w.heap.size A l) (H2 : Holds w w.heap.size B m) :
    Calls Tryz.prog 46 #[.slice A n c, .slice B n' d] w fun e w' => e = .returned (.bool (sameA l m)) ∧ Below w.heap.size w w' := by
  have HH := Lib.hid H
  have HH2 := Lib.hid H2
  have HN := Lib.hid hn
  have HN' := Lib.hid hn'
  clear H H2 hn hn'
  go_enter Tryz.func46, Tryz.ntmps46
  go_wp2_with fail
  refine (equal_any l m A B n n' c d _ HN.out HN'.out hl hm HH.out HH2.out).mono ?_
  rintro e w1 ⟨rfl, b1⟩
  have B1 := Lib.hid b1
  clear b1
  go_wp2_with fail
  go_ret
  exact ⟨rfl, B1.out⟩
theorem same_at (l m : List At) (A B : Option Addr) (n n' c d : Nat) (w : World) {r : Bool} (hr : sameA l m = r) (hn : l.length = n) (hn' : m.length = n') (hl : n ≤ 1000000) (hm : n' ≤ 1000000) (H : Holds w w.heap.size A l) (H2 : Holds w w.heap.size B m) :
    Calls Tryz.prog 46 #[.slice A n c, .slice B n' d] w fun e w' => e = .returned (.bool r) ∧ Below w.heap.size w w' := by
  subst hr; exact same_any l m A B n n' c d w hn hn' hl hm H H2
end Go.Proofs.YtkagaobelhpojaaGreat.P3
