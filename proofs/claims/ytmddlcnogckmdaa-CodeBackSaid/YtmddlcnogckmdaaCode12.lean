/- What the program's code.texts, putText, put and getText answer. No condition but those stated. -/
import Derived.Test.YtmddlcnogckmdaaLaw12
import Derived.Test.YtmddlcnogckmdaaTake
import Derived.Lib.AppendStr
import Derived.Deep.DrawnRows
import Derived.Deep.RegionHeld3
set_option linter.unusedVariables false
set_option linter.unusedSimpArgs false
namespace Go.Proofs.Ytmddlcnogckmdaa.P12
open Go.RowKit Kd P4 P5 P11

theorem ptexts_any (op : Int) (w : World) : Calls Try.prog 27 #[.int .i64 op] w fun e w' => e = .returned (.int .i64 (textsN op : Nat)) ∧ w = w' := by
  by_cases h1 : op = 1
  · subst h1
    go_enter Try.func27, Try.ntmps27
    go_wp2_with fail
    go_ret
    exact ⟨rfl, rfl⟩
  by_cases h3 : op = 3
  · subst h3
    go_enter Try.func27, Try.ntmps27
    go_wp2_with fail
    go_ret
    exact ⟨rfl, rfl⟩
  by_cases h5 : op = 5
  · subst h5
    go_enter Try.func27, Try.ntmps27
    go_wp2_with fail
    go_ret
    exact ⟨rfl, rfl⟩
  by_cases h6 : op = 6
  · subst h6
    go_enter Try.func27, Try.ntmps27
    go_wp2_with fail
    go_ret
    exact ⟨rfl, rfl⟩
  by_cases h4 : op = 4
  · subst h4
    go_enter Try.func27, Try.ntmps27
    go_wp2_with fail
    go_ret
    exact ⟨rfl, rfl⟩
  have HT : Hid (textsN op = 0) := Lib.hid (by unfold textsN; rw [if_neg (by omega), if_neg h4])
  have q1 := int_ne h1; have q3 := int_ne h3; have q4 := int_ne h4; have q5 := int_ne h5; have q6 := int_ne h6
  go_enter Try.func27, Try.ntmps27
  go_wp2_with fail
  go_ret
  exact ⟨by rw [HT.out]; rfl, rfl⟩
/-! ### Texts behind bytes of one's own -/
theorem str_cells (s : ByteArray) : Lib.strCells s = kB.cells s.data.toList := by
  unfold Lib.strCells Kind.cells
  induction s.data.toList with
  | nil => rfl
  | cons a l ih => rw [List.map_cons, ih]; rfl
theorem own_str {w : World} {B : Nat} {v : Value} {l : List UInt8} {s : ByteArray} (h : w.ownsRow B 5 1 v (l.length + s.size) (kB.cells l ++ Lib.strCells s)) : kB.Own w B v (l ++ s.data.toList) := by
  unfold Kind.Own
  rw [List.length_append, len_size, kB.cells_append, ← str_cells]
  exact h
/-- a string appended onto bytes of one's own -/
theorem wp_app_str {ops : Array Oper} {rest : List Oper} {o : Oper} {a : Act} {Q : Exit → Act → World → Prop} {w : World} (hgd : o.guard = none) (s x : Operand)
    (ho : o.op = .call { callee := .builtin .append, args := #[s, x], argTypes := #[25, 9] })
    {v : Value} {l : List UInt8} {B : Nat} {z : ByteArray} (hs : a.eval s = v) (hown : kB.Own w B v l) (hx : a.eval x = .string z)
    (hl : l.length + z.size ≤ 1000000000) (hB : B ≤ w.heap.size)
    (h : ∀ v' w', kB.Own w' B v' (l ++ z.data.toList) → w.grownBy w' v.ownBlock → wpList Try.prog ops Q rest (a.put o.dst v') w') : wpList Try.prog ops Q (o :: rest) a w := by
  obtain ⟨i, hi, h0, h1, h2⟩ := kB.info
  refine Lib.wpList_append_own_string w hgd s x _ _ ho B 5 i kB.ht Try.underlying9 hi h0 h1 h2 v l.length (kB.cells l) hs hown z hx (by unfold maxLen; omega) (by omega) hB ?_
  intro v' w' h3 h4 _
  exact h v' w' (own_str h3) h4
/-- all blocks but bytes stay -/
def Rest (w w' : World) : Prop := ∀ (g : Nat) (cur : Array Value) (t : TypeId) (f : Nat × Nat), w.heap[g]? = some (Obj.cells cur t f) → t ≠ 5 → w'.heap[g]? = some (Obj.cells cur t f)
theorem Rest.refl (w : World) : Rest w w := fun _ _ _ _ h _ => h
theorem Rest.trans {a b c : World} (h : Rest a b) (k : Rest b c) : Rest a c := fun g cur t f e ht => k g cur t f (h g cur t f e ht) ht
theorem Rest.alloc (w : World) (o : Obj) : Rest w (w.alloc o) := fun _ _ _ _ h _ => heap_up h
theorem Rest.grown {w w' : World} {B : Nat} {v : Value} {l : List UInt8} (hown : kB.Own w B v l) (hg : w.grownBy w' v.ownBlock) : Rest w w' := fun g cur t f e ht => by
  refine (hg.block g (heap_lt e) (fun c => ?_)).trans e
  obtain ⟨cur', h'⟩ := hown.ty c.symm
  exact heap_ne e h' ht rfl
theorem Rest.xb {w w' : World} {g : Nat} {i : In} (h : Rest w w') (hx : XB w g i) : XB w' g i := h g _ _ _ hx (by decide)
/-- bytes of one's own, handed on -/
def AppV (B : Nat) (w : World) (l : List UInt8) (e : Ending) (w' : World) : Prop := ∃ (A : Option Addr) (n c : Nat), e = .returned (.slice A n c) ∧ kB.Own w' B (.slice A n c) l ∧ Below B w w' ∧ Rest w w'
set_option maxHeartbeats 2000000 in
theorem putText_any (l : List UInt8) (s : ByteArray) (A : Option Addr) (n c B : Nat) (w : World) (hown : kB.Own w B (.slice A n c) l) (hB : B ≤ w.heap.size) (hs : s.size ≤ 255) (hl : l.length ≤ 1000000) : Calls Try.prog 28 #[.slice A n c, .string s] w (AppV B w (l ++ textH s)) := by
  have hn : IntKind.u8.wrap (s.size : Int) = (s.size : Int) := by
    simp [IntKind.wrap, IntKind.bits, IntKind.signed]
    omega
  have HO := Lib.hid hown
  have HLD : Hid (kB.Holds (w.alloc (.cells #[.int .u8 (s.size : Int)] 5)) (w.heap.size + 1) (some ⟨w.heap.size, 0, none⟩) [UInt8.ofNat s.size]) := Lib.hid (Kind.Holds.lit (heap_alloc_new w _) (by
    show [Value.int .u8 (s.size : Int)] = [Value.int .u8 ((UInt8.ofNat s.size).toNat : Int)]
    rw [byte_size hs]))
  have EQ : Hid ((l ++ [UInt8.ofNat s.size]) ++ s.data.toList = l ++ textH s) := Lib.hid (by rw [textH, List.append_assoc]; rfl)
  have hB1 : B ≤ (w.alloc (.cells #[.int .u8 (s.size : Int)] 5)).heap.size := by simp; omega
  clear hown
  go_enter Try.func28, Try.ntmps28
  go_wp2_with (at_builtin; first
    | (refine kB.wp_app rfl _ _ rfl (v := .slice A n c) (l := l) (m := [UInt8.ofNat s.size]) (B := B) rfl (HO.out.alloc _) rfl rfl (fun e => by cases e) HLD.out (by simp; omega) hB1 ?_; intro v' w4 hown' hgrow hat; obtain ⟨A4, n4, c4, rfl, e1, e2, e3, e4, e5⟩ := hown'.slice; have B4 : Hid (Below B w w4) := Lib.hid (below_app (Below.refl _ _) HO.out hB hgrow); have R4 : Hid (Rest w w4) := Lib.hid ((Rest.alloc w _).trans (Rest.grown (HO.out.alloc _) hgrow)); have O4 := Lib.hid hown'; clear hown' hgrow hat e1 e2 e3 e4 e5)
    | (refine wp_app_str rfl _ _ rfl (v := .slice A4 n4 c4) (l := l ++ [UInt8.ofNat s.size]) (z := s) (B := B) rfl O4.out rfl (by simp; omega) (Nat.le_trans hB B4.out.size) ?_; intro v' w5 hown' hgrow; obtain ⟨A5, n5, c5, rfl, e1, e2, e3, e4, e5⟩ := hown'.slice; have B5 : Hid (Below B w w5) := Lib.hid (below_app0 B4.out O4.out (Nat.le_trans hB B4.out.size) hgrow); have R5 : Hid (Rest w w5) := Lib.hid (R4.out.trans (Rest.grown O4.out hgrow)); have O5 := Lib.hid hown'; clear hown' hgrow e1 e2 e3 e4 e5)
    | fail)
  go_ret
  exact ⟨A5, n5, c5, rfl, by rw [← EQ.out]; exact O5.out, B5.out, R5.out⟩
set_option maxRecDepth 100000 in
set_option maxHeartbeats 4000000 in
theorem put_any (l : List UInt8) (i : In) (A : Option Addr) (n c B : Nat) (w : World) (hown : kB.Own w B (.slice A n c) l) (hB : B ≤ w.heap.size) (hm : mayI i = true) (hl : l.length ≤ 500000) : Calls Try.prog 16 #[.slice A n c, .agg #[.int .i64 i.op, .string i.a, .string i.b]] w (AppV B w (l ++ insH i)) := by
  obtain ⟨m1, m2, m3, m4, _⟩ := may_small hm
  have hbo := byteOf_nat m3 m4
  obtain ⟨op, a, b⟩ := i
  simp only at m1 m2 m3 m4 hbo
  have hn : IntKind.u8.wrap op = op := by
    simp [IntKind.wrap, IntKind.bits, IntKind.signed]
    omega
  have HI : Hid (insH ⟨op, a, b⟩ = byteOf op :: ((if 0 < textsN op then textH a else []) ++ (if 1 < textsN op then textH b else []))) := Lib.hid rfl
  have hta : (textH a).length ≤ 300 := by rw [textH, List.length_cons, len_size]; omega
  have HO := Lib.hid (hown.alloc (.cells #[.int .i64 op, .string a, .string b] 32))
  have B1 : Hid (Below B w (w.alloc (.cells #[.int .i64 op, .string a, .string b] 32))) := Lib.hid ((Below.refl _ _).alloc hB _)
  have N1 : Hid (XB (w.alloc (.cells #[.int .i64 op, .string a, .string b] 32)) w.heap.size ⟨op, a, b⟩) := Lib.hid (XB.new w ⟨op, a, b⟩)
  have R1 : Hid (Rest w (w.alloc (.cells #[.int .i64 op, .string a, .string b] 32))) := Lib.hid (Rest.alloc w _)
  show Calls Try.prog 16 #[.slice A n c, .agg #[.int .i64 op, .string a, .string b]] w _
  clear hown hm
  go_enter Try.func16, Try.ntmps16
  go_upto_region 1 with fail
  generalize w.alloc (.cells #[.int .i64 op, .string a, .string b] 32) = W at HO B1 N1 R1 ⊢
  have hBW : B ≤ W.heap.size := Nat.le_trans hB B1.out.size
  have LD : Hid (kB.Holds (W.alloc (.cells #[.int .u8 op] 5)) (W.heap.size + 1) (some ⟨W.heap.size, 0, none⟩) [byteOf op]) := Lib.hid (Kind.Holds.lit (heap_alloc_new W _) (by
    show [Value.int .u8 op] = [Value.int .u8 ((byteOf op).toNat : Int)]
    rw [hbo]))
  have c0 := N1.out.c0
  simp only at c0
  go_upto_region 2 with (at_builtin; refine kB.wp_app rfl _ _ rfl (v := .slice A n c) (l := l) (m := [byteOf op]) (B := B) rfl (HO.out.alloc _) rfl rfl (fun e => by cases e) LD.out (by simp; omega) (by simp; omega) ?_; intro v' w4 hown' hgrow hat; obtain ⟨A4, n4, c4, rfl, e1, e2, e3, e4, e5⟩ := hown'.slice; have B4 : Hid (Below B w w4) := Lib.hid (below_app B1.out HO.out hBW hgrow); have S4 : Hid (Rest W w4) := Lib.hid ((Rest.alloc W _).trans (Rest.grown (HO.out.alloc _) hgrow)); have O4 := Lib.hid hown'; clear hown' hgrow hat e1 e2 e3 e4 e5)
  have N4 := Lib.hid (S4.out.xb N1.out)
  have R4 := Lib.hid (R1.out.trans S4.out)
  clear c0 LD HO B1 N1 R1 S4 hbo hn
  have c0 := N4.out.c0; have c1 := N4.out.c1; have c2 := N4.out.c2
  simp only at c0 c1 c2
  have hB4 : B ≤ w4.heap.size := Nat.le_trans hB B4.out.size
  go_wp2_with fail
  refine (ptexts_any op w4).mono ?_
  rintro e w' ⟨rfl, rfl⟩
  rcases textsN_cases op with e | e | e
  · rw [e]
    go_wp2_with fail
    go_ret
    exact ⟨A4, n4, c4, rfl, by rw [HI.out, e]; simpa using O4.out, B4.out, R4.out⟩
  · rw [e]
    have C1 : Hid (Calls Try.prog 28 #[.slice A4 n4 c4, .string a] w4 (AppV B w4 (l ++ [byteOf op] ++ textH a))) := Lib.hid (putText_any _ a A4 n4 c4 B w4 O4.out hB4 (by omega) (by simp; omega))
    go_wp2_with fail
    refine C1.out.mono ?_
    rintro e2 w5 ⟨A5, n5, c5, rfl, o5, b5, r5⟩
    have O5 := Lib.hid o5
    have B5 := Lib.hid (B4.out.trans b5)
    have R5 := Lib.hid (R4.out.trans r5)
    clear o5 b5 r5 C1
    go_wp2_with fail
    go_ret
    exact ⟨A5, n5, c5, rfl, by rw [HI.out, e]; simpa using O5.out, B5.out, R5.out⟩
  · rw [e]
    have C1 : Hid (Calls Try.prog 28 #[.slice A4 n4 c4, .string a] w4 (AppV B w4 (l ++ [byteOf op] ++ textH a))) := Lib.hid (putText_any _ a A4 n4 c4 B w4 O4.out hB4 (by omega) (by simp; omega))
    go_wp2_with fail
    refine C1.out.mono ?_
    rintro e2 w5 ⟨A5, n5, c5, rfl, o5, b5, r5⟩
    have O5 := Lib.hid o5
    have N5 := Lib.hid (r5.xb N4.out)
    have B5 := Lib.hid (B4.out.trans b5)
    have R5 := Lib.hid (R4.out.trans r5)
    clear o5 b5 r5 C1 c0 c1 c2
    have c2 := N5.out.c2
    simp only at c2
    have C2 : Hid (Calls Try.prog 28 #[.slice A5 n5 c5, .string b] w5 (AppV B w5 (l ++ [byteOf op] ++ textH a ++ textH b))) := Lib.hid (putText_any _ b A5 n5 c5 B w5 O5.out (Nat.le_trans hB B5.out.size) (by omega) (by simp only [List.length_append, List.length_cons, List.length_nil]; omega))
    go_wp2_with fail
    refine C2.out.mono ?_
    rintro e3 w6 ⟨A6, n6, c6, rfl, o6, b6, r6⟩
    have O6 := Lib.hid o6
    have B6 := Lib.hid (B5.out.trans b6)
    have R6 := Lib.hid (R5.out.trans r6)
    clear o6 b6 r6 C2
    go_wp2_with fail
    go_ret
    exact ⟨A6, n6, c6, rfl, by rw [HI.out, e]; simpa using O6.out, B6.out, R6.out⟩
/-! ### getText -/
/-- a text cut off bytes, and what stands behind -/
def CutV (w : World) (C : Nat) (p : Option (List UInt8 × List UInt8)) (e : Ending) (w' : World) : Prop :=
  ((p = none ∧ e = .returned (.tuple #[.string ⟨#[]⟩, .slice none 0 0, .bool false])) ∨
    ∃ t r A n c, p = some (t, r) ∧ e = .returned (.tuple #[.string (bs t), .slice A n c, .bool true]) ∧ r.length = n ∧ n ≤ c ∧ c ≤ maxLen ∧ kB.Holds w C A r) ∧ Below w.heap.size w w'
set_option maxRecDepth 100000 in
set_option maxHeartbeats 4000000 in
theorem getText_any (l : List UInt8) (A : Option Addr) (n c C : Nat) (w : World) (hh : kB.Holds w C A l) (hC : C ≤ w.heap.size) (hn : l.length = n) (hnc : n ≤ c) (hl : n ≤ 100000) (hcm : c ≤ maxLen) : Calls Try.prog 30 #[.slice A n c] w (CutV w C (cut1 l)) := by
  have KH := Lib.hid hh
  have KL := Lib.hid hn
  have hcm' : c ≤ 9223372036854775807 := by unfold maxLen at hcm; omega
  by_cases h0 : n = 0
  · subst h0
    have HN : Hid (cut1 l = none) := Lib.hid (by rw [List.eq_nil_of_length_eq_zero hn]; rfl)
    clear hh hn
    go_enter Try.func30, Try.ntmps30
    go_wp2_with fail
    go_ret3
    exact ⟨.inl ⟨HN.out, rfl⟩, Below.refl _ _⟩
  have h0l : 0 < l.length := by omega
  obtain ⟨b, o, rfl, hb, g0⟩ := byte_cell hh h0l
  simp only [Nat.add_zero] at g0
  have CA := Lib.hid (cut_at h0l)
  rw [List.drop_zero] at CA
  obtain ⟨y, hy⟩ : ∃ y, l[0].toNat = y := ⟨_, rfl⟩
  have hk := l[0].toNat_lt
  rw [hy] at g0 hk CA
  clear hy hn hh h0l hcm
  have hyi : IntKind.i64.wrap (y : Int) = (y : Int) := by
    simp [IntKind.wrap, IntKind.bits, IntKind.signed]
    omega
  have q0 : ((n : Int) == 0) = false := by simp; omega
  have i0 : (0 : Int) < (n : Int) := by omega
  by_cases hend : n < 0 + 1 + y
  · have HN : Hid (cut1 l = none) := Lib.hid (by rw [CA.out, if_pos (by rw [KL.out]; exact hend)])
    have q1 : decide ((n : Int) - 1 < (y : Int)) = true := by simp; omega
    go_enter Try.func30, Try.ntmps30
    go_wp2_with fail
    go_ret3
    exact ⟨.inl ⟨HN.out, rfl⟩, Below.refl _ _⟩
  · obtain ⟨e, he⟩ : ∃ e, 1 + y = e := ⟨_, rfl⟩
    have hlen : ((l.drop (0 + 1)).take y).length = e - 1 := by rw [List.length_take, List.length_drop, KL.out]; omega
    obtain ⟨t, ht⟩ : ∃ t, (l.drop (0 + 1)).take y = t := ⟨_, rfl⟩
    have HTK : Hid ((l.drop 1).take (e - 1) = t) := Lib.hid (by rw [← ht, show e - 1 = y by omega])
    rw [ht] at hlen
    have HS : Hid (cut1 l = some (t, l.drop e)) := Lib.hid (by rw [CA.out, if_neg (by rw [KL.out]; exact hend), ht, show 0 + 1 + y = e by omega])
    have HRL : Hid ((l.drop e).length + e = n) := Lib.hid (by rw [List.length_drop, KL.out]; omega)
    have HD : Hid (kB.Holds w C (some ⟨b, o + e, none⟩) (l.drop e)) := Lib.hid (by
      have := KH.out.drop e
      simpa [kB] using this)
    have HDn : Hid (n = e → ∀ A, kB.Holds w C A (l.drop e)) := Lib.hid (fun h A => by
      have : l.drop e = [] := List.eq_nil_of_length_eq_zero (by have := HRL.out; omega)
      rw [this]
      exact Kind.Holds.nil _ _ _)
    clear ht CA
    have q1 : decide ((n : Int) - 1 < (y : Int)) = false := by simp; omega
    have j1 : (1 : Int) ≤ (e : Int) := by omega
    have j2 : (e : Int) ≤ (n : Int) := by omega
    have j3 : (0 : Int) ≤ (e : Int) := by omega
    have j4 : (e : Int) ≤ (c : Int) := by omega
    have j5 : (n : Int) ≤ (c : Int) := by omega
    have j6 : IntKind.i64.wrap ((1 : Int) + (y : Int)) = (e : Int) := by
      rw [← he]
      simp [IntKind.wrap, IntKind.bits, IntKind.signed]
      omega
    have KC : Hid (∀ wz k, kB.Holds wz C (some ⟨b, o, none⟩) l → (convert 25 9 (.slice (some ⟨b, o + 1, none⟩) (e - 1) k)).run Try.prog wz = .ok (.string (bs t)) wz) := Lib.hid (fun wz k h => conv_at (cap := k) h 1 hlen HTK.out)
    have KZ : Hid (e = 1 → ∀ wz, kB.Holds wz C (some ⟨b, o, none⟩) l → (convert 25 9 (.slice (some ⟨b, o, none⟩) 0 0)).run Try.prog wz = .ok (.string (bs t)) wz) := Lib.hid (fun h1 wz h => by
      have ht0 : t = [] := List.eq_nil_of_length_eq_zero (by omega)
      have := conv_at (cap := 0) (n := 0) h 0 (t := t) (by rw [ht0]; rfl) (by rw [ht0, List.take_zero])
      simpa only [Nat.add_zero] using this)
    by_cases hcap : c = e
    · subst hcap
      obtain rfl : n = c := by omega
      by_cases hy0 : n = 1
      · subst hy0
        obtain rfl : y = 0 := by omega
        have HDe : Hid (∀ A, kB.Holds w C A (l.drop 1)) := Lib.hid (HDn.out rfl)
        clear HDn
        go_enter Try.func30, Try.ntmps30
        go_upto_region 4 with fail
        go_region_held3 (fun w' => (convert 25 9 (.slice (some ⟨b, o, none⟩) 0 0)).run Try.prog w' = .ok (.string (bs t)) w') (first | go_keep | exact KZ.out rfl _ KH.out.drew) (fail)
        all_goals (go_wp2_with fail)
        all_goals go_ret3
        all_goals exact ⟨.inr ⟨t, _, _, _, _, HS.out, rfl, by have := HRL.out; omega, by omega, by unfold maxLen; omega, HDe.out _⟩, Below_drewN (Below.refl _ _) _⟩
      · have HDe : Hid (∀ A, kB.Holds w C A (l.drop n)) := Lib.hid (HDn.out rfl)
        clear HDn
        go_enter Try.func30, Try.ntmps30
        go_upto_region 4 with fail
        go_region_held3 (fun w' => (convert 25 9 (.slice (some ⟨b, o + 1, none⟩) (n - 1) (n - 1))).run Try.prog w' = .ok (.string (bs t)) w') (first | go_keep | exact KC.out _ _ KH.out.drew) (fail)
        all_goals (go_wp2_with fail)
        all_goals go_ret3
        all_goals exact ⟨.inr ⟨t, _, _, _, _, HS.out, rfl, by have := HRL.out; omega, by omega, by unfold maxLen; omega, HDe.out _⟩, Below_drewN (Below.refl _ _) _⟩
    · have hc1 : ¬ c = 1 := by omega
      have hc2 : ¬ c - 1 = 0 := by omega
      clear HDn
      go_enter Try.func30, Try.ntmps30
      go_upto_region 4 with fail
      go_region_held3 (fun w' => (convert 25 9 (.slice (some ⟨b, o + 1, none⟩) (e - 1) (c - 1))).run Try.prog w' = .ok (.string (bs t)) w') (first | go_keep | exact KC.out _ _ KH.out.drew) (fail)
      all_goals (go_wp2_with fail)
      all_goals go_ret3
      all_goals exact ⟨.inr ⟨t, _, _, _, _, HS.out, rfl, by have := HRL.out; omega, by omega, by unfold maxLen; omega, HD.out⟩, Below_drewN (Below.refl _ _) _⟩
end Go.Proofs.Ytmddlcnogckmdaa.P12
