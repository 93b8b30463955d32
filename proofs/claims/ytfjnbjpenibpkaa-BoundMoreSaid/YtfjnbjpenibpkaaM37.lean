/- What the program's Check keeps while it goes through instructions, as it lies in memory; what its readers answer. No condition but those stated. -/
import Derived.Test.YtfjnbjpenibpkaaM11
import Derived.Test.YtfjnbjpenibpkaaM35
import Derived.Test.YtfjnbjpenibpkaaM36
set_option linter.unusedVariables false
set_option linter.unusedSimpArgs false
set_option linter.unusedVariables false
set_option linter.unusedSimpArgs false
namespace Go.Proofs.Ytfjnbjpenibpkaa.P13
open Go.RowKit Kd P4 P11 P12 Mv

/-- a place: the block of its keys, and whether it is skipped -/
structure Pl where
  m : Nat
  sk : Bool
theorem infoPl : (Try.prog.info? 50).map (fun i => (i.zero, i.size, i.bytes)) = some (some (.agg #[.map none, .bool false]), 2, 16) := by kernel_rfl
def kPl : Kind Try.prog Pl where
  t := 52
  e := 50
  size := 2
  bytes := 16
  z := .agg #[.map none, .bool false]
  cs := fun a => [.map (some a.m), .bool a.sk]
  ht := Try.underlying52
  info := info_ex infoPl
  hzs := rfl
  hpos := by decide
  hbb := by decide
  len := fun _ => rfl
  one := fun a u hu => by simp at hu; rcases hu with rfl | rfl <;> rfl
theorem lawS : Go.Maps.Keyed Try.prog 9 := Go.Maps.string_keyed Try.underlying9
theorem zeroU (w : World) : (zeroValue 67).run Try.prog w = .ok (.agg #[]) w := by kernel_rfl
def skB (L : List In) : Bool := L.any (fun y => decide (y.op = 7))
def hasK (L : List In) (s : List UInt8) : Bool := !s.isEmpty && L.any (fun y => makesO y.op && (y.b.toList == s))
/-- what lies under a key at a place -/
def keysF (L : List In) : Lit → Option Value
  | .string s => if hasK L s then some (.agg #[]) else none
  | _ => none
theorem keysF_nil : keysF [] = fun _ => none := by
  funext x
  cases x <;> simp [keysF, hasK]
def keyedB (x : In) : Bool := makesO x.op && !x.b.toList.isEmpty
theorem hasK_snoc (L : List In) (x : In) (s : List UInt8) : hasK (L ++ [x]) s = (hasK L s || (keyedB x && (x.b.toList == s))) := by
  unfold hasK keyedB
  rw [List.any_append, List.any_cons, List.any_nil, Bool.or_false]
  by_cases h : x.b.toList = s
  · subst h
    cases x.b.toList.isEmpty <;> cases makesO x.op <;> simp
  · have h' : (x.b.toList == s) = false := beq_eq_false_iff_ne.2 h
    rw [h']
    simp
theorem keysF_not {L : List In} {x : In} (h : keyedB x = false) : keysF (L ++ [x]) = keysF L := by
  funext y
  cases y <;> simp [keysF, hasK_snoc, h]
theorem keysF_put {L : List In} {x : In} (h : keyedB x = true) : PutF (keysF L) (keysF (L ++ [x])) (.string x.b.toList) (some (.agg #[])) := by
  constructor
  · simp [keysF, hasK_snoc, h]
  · intro y hy
    cases y with
    | string s =>
      have hs : (x.b.toList == s) = false := beq_eq_false_iff_ne.2 (fun e => hy (by rw [e]))
      simp [keysF, hasK_snoc, hs]
    | _ => rfl
/-- the front: its own block, its places, the names that were told -/
def FrIs (w : World) (B p k : Nat) (P : List (List In)) (nm : Option (List (List UInt8))) : Prop :=
  ∃ (g c d : Nat) (ps : List Pl) (A : Option Addr) (n c' : Nat) (td : List ByteArray), B ≤ p ∧ P.length = d + 1 ∧ d ≤ 8 ∧ w.heap[p]? = some (.cells #[.slice (some ⟨g, 0, none⟩) (d + 1) c, .bool nm.isSome, .slice A n c'] 55 (0, 0)) ∧
    kPl.Own w B (.slice (some ⟨g, 0, none⟩) (d + 1) c) ps ∧ kStr.Own w B (.slice A n c') td ∧ ps.length = d + 1 ∧ (ps.map Pl.m).Nodup ∧
    (∀ i (h : i < ps.length) (h2 : i < P.length), B ≤ ps[i].m ∧ ps[i].sk = skB P[i] ∧ ∃ s, MapIs Try.prog 9 w ps[i].m k s (keysF P[i])) ∧ td.map (·.toList) = nm.getD [] ∧ td.length = n ∧ n ≤ k
/-! ### Readers -/
theorem wp_look_unit {P : Program} {ops : Array Oper} {rest : List Oper} {o : Oper} {a : Act} {Q : Exit → Act → World → Prop} {w : World} {k : TypeId} {b n s : Nat} {f : Lit → Option Value} (hg : o.guard = none) (m x : Operand) {t e : TypeId} (hop : o.op = Op.lookup t m x true) (K : Go.Maps.Keyed P k) (ht : P.underlying t = some (.map k e)) (hz : (zeroValue e).run P w = .ok (.agg #[]) w)
    (hm : a.eval m = .map (some b)) (h : MapIs P k w b n s f) {key : Value} {l : Lit} (hx : a.eval x = key) (hkey : keyOf P k key = some l) {r : Bool} (hr : f l = if r then some (.agg #[]) else none)
    (hK : wpList P ops Q rest (a.put o.dst (.tuple #[.agg #[], .bool r])) w) : wpList P ops Q (o :: rest) a w := by
  refine wp_look_ok hg m x hop K ht hz hm h hx hkey ?_
  rw [hr]
  cases r <;> exact hK
theorem depth_any (p d c : Nat) (A : Option Addr) (w : World) (h0 : w.cell? ⟨p, 0, none⟩ = some (.slice A (d + 1) c)) (hd : d ≤ 1000) :
    Calls Try.prog 18 #[.pointer (some ⟨p, 0, none⟩)] w fun e w' => e = .returned (.int .i64 d) ∧ w = w' := by
  have hw : IntKind.i64.wrap ((d : Int) + 1 - 1) = d := by
    simp [IntKind.wrap, IntKind.bits, IntKind.signed]
    omega
  go_enter Try.func18, Try.ntmps18
  go_wp2_with fail
  go_ret
  exact ⟨by first | rfl | simp, rfl⟩
theorem here_any (p g d c : Nat) (w : World) (h0 : w.cell? ⟨p, 0, none⟩ = some (.slice (some ⟨g, 0, none⟩) (d + 1) c)) (hd : d ≤ 1000) :
    Calls Try.prog 23 #[.pointer (some ⟨p, 0, none⟩)] w fun e w' => e = .returned (.pointer (some ⟨g, d * 2, none⟩)) ∧ ∃ j, w' = w.drewN j := by
  have HD : Hid (∀ w9 : World, w9.cell? ⟨p, 0, none⟩ = some (.slice (some ⟨g, 0, none⟩) (d + 1) c) → _) := Lib.hid (fun w9 h9 => depth_any p d c (some ⟨g, 0, none⟩) w9 h9 hd)
  have i0 : (0 : Int) ≤ (d : Int) := by omega
  have i1 : (d : Int) < (d : Int) + 1 := by omega
  go_enter Try.func23, Try.ntmps23
  go_upto_region 1 with fail
  go_region_held3 (fun w' => w'.cell? ⟨p, 0, none⟩ = some (.slice (some ⟨g, 0, none⟩) (d + 1) c)) (go_keep) ((first
    | (go_at_call 18; refine (HD.out _ (by first | assumption | go_keep)).mono ?_; rintro e w' ⟨rfl, rfl⟩)
    | fail))
  go_wp2_with fail
  go_ret
  exact ⟨by first | rfl | simp, 1, rfl⟩
theorem begins_any (op : Int) (w : World) : Calls Try.prog 26 #[.int .i64 op] w fun e w' => e = .returned (.bool (makesO op)) ∧ w = w' := by
  by_cases h1 : op = 1
  · subst h1
    go_enter Try.func26, Try.ntmps26
    go_wp2_with fail
    go_ret
    exact ⟨rfl, rfl⟩
  by_cases h3 : op = 3
  · subst h3
    go_enter Try.func26, Try.ntmps26
    go_wp2_with fail
    go_ret
    exact ⟨rfl, rfl⟩
  have e : makesO op = false := by simp [makesO, h1, h3]
  rw [e]
  have q1 := int_ne h1
  have q3 := int_ne h3
  go_enter Try.func26, Try.ntmps26
  go_wp2_with fail
  go_ret
  exact ⟨rfl, rfl⟩
theorem keyed_any (op : Int) (a b : ByteArray) (w : World) : Calls Try.prog 24 #[.agg #[.int .i64 op, .string a, .string b]] w fun e w' => e = .returned (.bool (keyedB ⟨op, a, b⟩)) ∧ Below w.heap.size w w' := by
  have B1 : Hid (Below w.heap.size w (w.alloc (.cells #[.int .i64 op, .string a, .string b] 38))) := Lib.hid ((Below.refl _ _).alloc (Nat.le_refl _) _)
  have N1 : Hid (XB (w.alloc (.cells #[.int .i64 op, .string a, .string b] 38)) w.heap.size ⟨op, a, b⟩) := Lib.hid (XB.new w ⟨op, a, b⟩)
  obtain ⟨r, hr⟩ : ∃ r, makesO op = r := ⟨_, rfl⟩
  have HB : Hid (∀ w9, Calls Try.prog 26 #[.int .i64 op] w9 fun e w' => e = .returned (.bool r) ∧ w9 = w') := Lib.hid (fun w9 => by subst hr; exact begins_any op w9)
  have hk : keyedB ⟨op, a, b⟩ = (r && !b.toList.isEmpty) := by unfold keyedB; rw [hr]
  rw [hk]
  go_enter Try.func24, Try.ntmps24
  go_upto_region 1 with fail
  generalize w.alloc (.cells #[.int .i64 op, .string a, .string b] 38) = W at B1 N1 ⊢
  have c0 := N1.out.c0; have c2 := N1.out.c2
  simp only at c0 c2
  cases r
  · go_wp2_with fail
    refine (HB.out _).mono ?_
    rintro e w' ⟨rfl, rfl⟩
    go_wp2_with fail
    go_ret
    exact ⟨rfl, B1.out⟩
  · by_cases hb : b.toList = []
    · have hq : (b.toList == (⟨#[]⟩ : ByteArray).toList) = true := by rw [hb]; simp [ByteArray.toList_eq]
      have hE : b.toList.isEmpty = true := by rw [hb]; rfl
      go_wp2_with fail
      refine (HB.out _).mono ?_
      rintro e w' ⟨rfl, rfl⟩
      go_wp2_with fail
      go_ret
      exact ⟨by rw [hE]; rfl, B1.out⟩
    · have hq : (b.toList == []) = false := beq_eq_false_iff_ne.2 hb
      have hE : b.toList.isEmpty = false := by cases h : b.toList with | nil => exact absurd h hb | cons _ _ => rfl
      go_wp2_with fail
      refine (HB.out _).mono ?_
      rintro e w' ⟨rfl, rfl⟩
      go_wp2_with fail
      go_ret
      exact ⟨by rw [hE]; rfl, B1.out⟩
theorem has_any (g o m n s : Nat) (f : Lit → Option Value) (key : ByteArray) (w : World) (h0 : w.cell? ⟨g, o, none⟩ = some (.map (some m))) (M : MapIs Try.prog 9 w m n s f) (hk : key.size ≤ maxLen) {r : Bool} (hr : f (.string key.toList) = if r then some (.agg #[]) else none) :
    Calls Try.prog 25 #[.pointer (some ⟨g, o, none⟩), .string key] w fun e w' => e = .returned (.bool r) ∧ Below w.heap.size w w' := by
  have HM := Lib.hid M
  have HK : Hid (keyOf Try.prog 9 (.string key) = some (.string key.toList)) := Lib.hid (by rw [ByteArray.toList_eq]; exact Go.WideMaps.keyOf_string_mk Try.underlying9 hk)
  have HR := Lib.hid hr
  clear M hk hr
  go_enter Try.func25, Try.ntmps25
  go_wp2_with (at_lookup; refine wp_look_unit rfl _ _ rfl lawS Try.underlying48 (zeroU _) rfl HM.out rfl HK.out HR.out ?_)
  go_ret
  exact ⟨rfl, (Below.refl _ _).alloc (Nat.le_refl _) _⟩
theorem newPlace_any (w : World) : Calls Try.prog 15 #[] w fun e w' => ∃ m, e = .returned (.agg #[.map (some m), .bool false]) ∧ w.heap.size ≤ m ∧ MapIs Try.prog 9 w' m 0 0 (fun _ => none) ∧ Below w.heap.size w w' := by
  have hmm := @run_makeMap Try.prog
  go_enter Try.func15, Try.ntmps15
  go_wp2_with fail
  refine bodyPost_ret (v := .agg #[.map (some (w.heap.size + 1)), .bool false]) (by simp [results, Try.results15, go_sem]) rfl ⟨w.heap.size + 1, rfl, by omega, ?_, ?_⟩
  · have := MapIs.made Try.prog 9 (w.alloc (.cells #[.map (some (w.heap.size + 1)), .bool false] 50))
    simpa using this
  · exact ((Below.refl _ w).alloc (Nat.le_refl _) _).alloc (by simp) _
theorem mayTell_any (p n c : Nat) (A : Option Addr) (tl : Bool) (td : List ByteArray) (s : ByteArray) (w : World) {r : Bool} (hr : r = true ↔ tl = true ∧ n < 8 ∧ s ∉ td) (h1 : w.cell? ⟨p, 1, none⟩ = some (.bool tl)) (h2 : w.cell? ⟨p, 2, none⟩ = some (.slice A n c))
    (hn : td.length = n) (hn2 : n ≤ 1000000) (H : kStr.Holds w w.heap.size A td) :
    Calls Try.prog 22 #[.pointer (some ⟨p, 0, none⟩), .string s] w fun e w' => e = .returned (.bool r) ∧ w = w' := by
  have HH := Lib.hid H
  have HN := Lib.hid hn
  clear H hn
  cases tl with
  | false =>
    obtain rfl : r = false := by cases r with | true => exact absurd (hr.1 rfl).1 (by decide) | false => rfl
    clear hr
    go_enter Try.func22, Try.ntmps22
    go_wp2_with fail
    go_ret
    exact ⟨rfl, rfl⟩
  | true =>
    by_cases h8 : n < 8
    · have i8 : (n : Int) < 8 := by omega
      by_cases hs : s ∈ td
      · obtain rfl : r = false := by cases r with | true => exact absurd hs (hr.1 rfl).2.2 | false => rfl
        have HC : Hid (∀ w9 : World, kStr.Holds w9 w9.heap.size A td → Calls Try.prog 31 #[.slice A n c, .string s] w9 fun e w' => e = .returned (.bool true) ∧ w9 = w') := Lib.hid (fun w9 h9 => scontains_any td s A n c w9 ⟨fun _ => hs, fun _ => rfl⟩ HN.out hn2 h9)
        clear hr hs
        go_enter Try.func22, Try.ntmps22
        go_wp2_with fail
        refine (HC.out _ HH.out).mono ?_
        rintro e w' ⟨rfl, rfl⟩
        go_wp2_with fail
        go_ret
        exact ⟨rfl, rfl⟩
      · obtain rfl : r = true := hr.2 ⟨rfl, h8, hs⟩
        have HC : Hid (∀ w9 : World, kStr.Holds w9 w9.heap.size A td → Calls Try.prog 31 #[.slice A n c, .string s] w9 fun e w' => e = .returned (.bool false) ∧ w9 = w') := Lib.hid (fun w9 h9 => scontains_any td s A n c w9 ⟨fun e => (by cases e), fun e => absurd e hs⟩ HN.out hn2 h9)
        clear hr hs
        go_enter Try.func22, Try.ntmps22
        go_wp2_with fail
        refine (HC.out _ HH.out).mono ?_
        rintro e w' ⟨rfl, rfl⟩
        go_wp2_with fail
        go_ret
        exact ⟨rfl, rfl⟩
    · have i8 : ¬ (n : Int) < 8 := by omega
      obtain rfl : r = false := by cases r with | true => exact absurd (hr.1 rfl).2.1 h8 | false => rfl
      clear hr
      go_enter Try.func22, Try.ntmps22
      go_wp2_with fail
      go_ret
      exact ⟨rfl, rfl⟩
end Go.Proofs.Ytfjnbjpenibpkaa.P13
