/- Whether a node may be made; a node that is made, or the error; a new document. -/
import Derived.Test.YtihjdmdafiifhaaGreatM15
set_option linter.unusedVariables false
set_option linter.unusedSimpArgs false
set_option linter.unusedVariables false
set_option linter.unusedSimpArgs false
namespace Go.Proofs.YtihjdmdafiifhaaGreat.P5
open Go.RowKit Kd P4
variable {B p : Nat} {x : Dx}

theorem empty_iff (s : ByteArray) : s.toList.isEmpty = true ↔ s.toList = [] := List.isEmpty_iff
set_option maxHeartbeats 1000000 in
theorem mayMake_any (tag txt key : ByteArray) (w : World) (h1 : tag.size ≤ maxLen) (h2 : txt.size ≤ maxLen) (h3 : key.size ≤ maxLen) :
    Calls Tryz.prog 47 #[.string tag, .string txt, .string key] w fun e w' => e = .returned (.bool (mayMake tag txt key)) ∧ w = w' := by
  cases ht : tag.toList.isEmpty with
  | true =>
    have hT := (empty_iff tag).1 ht
    cases hx : P1.textB txt.data.toList with
    | false =>
      have HM : Hid (mayMake tag txt key = false) := Lib.hid (by unfold mayMake; rw [if_pos hT, hx]; rfl)
      have HX := Lib.hid hx
      clear hx hT
      go_enter Tryz.func47, Tryz.ntmps47
      go_wp2_with fail
      refine (P3.ntext_at txt w HX.out h2).mono ?_
      rintro e w' ⟨rfl, rfl⟩
      go_wp2_with fail
      go_ret
      exact ⟨ret_bool HM.out.symm, rfl⟩
    | true =>
      cases hk : key.toList.isEmpty with
      | false =>
        have HM : Hid (mayMake tag txt key = false) := Lib.hid (by unfold mayMake; rw [if_pos hT, hx]; simpa using (fun e => by rw [← empty_iff, hk] at e; cases e))
        have HX := Lib.hid hx
        clear hx hT
        go_enter Tryz.func47, Tryz.ntmps47
        go_wp2_with fail
        refine (P3.ntext_at txt w HX.out h2).mono ?_
        rintro e w' ⟨rfl, rfl⟩
        go_wp2_with fail
        go_ret
        exact ⟨ret_bool HM.out.symm, rfl⟩
      | true =>
        have HM : Hid (mayMake tag txt key = true) := Lib.hid (by unfold mayMake; rw [if_pos hT, hx]; simpa using (empty_iff key).1 hk)
        have HX := Lib.hid hx
        clear hx hT
        go_enter Tryz.func47, Tryz.ntmps47
        go_wp2_with fail
        refine (P3.ntext_at txt w HX.out h2).mono ?_
        rintro e w' ⟨rfl, rfl⟩
        go_wp2_with fail
        go_ret
        exact ⟨ret_bool HM.out.symm, rfl⟩
  | false =>
    have hT : ¬ tag.toList = [] := by rw [← empty_iff, ht]; simp
    cases hn : P1.nameB tag.data.toList with
    | false =>
      have HM : Hid (mayMake tag txt key = false) := Lib.hid (by unfold mayMake; rw [if_neg hT, hn]; rfl)
      have HX := Lib.hid hn
      clear hn hT
      go_enter Tryz.func47, Tryz.ntmps47
      go_wp2_with fail
      refine (P3.nmay_at tag w HX.out h1).mono ?_
      rintro e w' ⟨rfl, rfl⟩
      go_wp2_with fail
      go_ret
      exact ⟨ret_bool HM.out.symm, rfl⟩
    | true =>
      cases hk : P1.textB key.data.toList with
      | false =>
        have HM : Hid (mayMake tag txt key = false) := Lib.hid (by unfold mayMake; rw [if_neg hT, hn, hk]; rfl)
        have HX := Lib.hid hn
        have HK := Lib.hid hk
        clear hn hT hk
        go_enter Tryz.func47, Tryz.ntmps47
        go_wp2_with fail
        refine (P3.nmay_at tag w HX.out h1).mono ?_
        rintro e w' ⟨rfl, rfl⟩
        go_wp2_with fail
        refine (P3.ntext_at key w HK.out h3).mono ?_
        rintro e w' ⟨rfl, rfl⟩
        go_wp2_with fail
        go_ret
        exact ⟨ret_bool HM.out.symm, rfl⟩
      | true =>
        cases hx : txt.toList.isEmpty with
        | false =>
          have HM : Hid (mayMake tag txt key = false) := Lib.hid (by unfold mayMake; rw [if_neg hT, hn, hk]; simpa using (fun e => by rw [← empty_iff, hx] at e; cases e))
          have HX := Lib.hid hn
          have HK := Lib.hid hk
          clear hn hT hk
          go_enter Tryz.func47, Tryz.ntmps47
          go_wp2_with fail
          refine (P3.nmay_at tag w HX.out h1).mono ?_
          rintro e w' ⟨rfl, rfl⟩
          go_wp2_with fail
          refine (P3.ntext_at key w HK.out h3).mono ?_
          rintro e w' ⟨rfl, rfl⟩
          go_wp2_with fail
          go_ret
          exact ⟨ret_bool HM.out.symm, rfl⟩
        | true =>
          have HM : Hid (mayMake tag txt key = true) := Lib.hid (by unfold mayMake; rw [if_neg hT, hn, hk]; simpa using (empty_iff txt).1 hx)
          have HX := Lib.hid hn
          have HK := Lib.hid hk
          clear hn hT hk
          go_enter Tryz.func47, Tryz.ntmps47
          go_wp2_with fail
          refine (P3.nmay_at tag w HX.out h1).mono ?_
          rintro e w' ⟨rfl, rfl⟩
          go_wp2_with fail
          refine (P3.ntext_at key w HK.out h3).mono ?_
          rintro e w' ⟨rfl, rfl⟩
          go_wp2_with fail
          go_ret
          exact ⟨ret_bool HM.out.symm, rfl⟩
theorem mayMake_at (tag txt key : ByteArray) {r : Bool} (w : World) (hr : mayMake tag txt key = r) (h1 : tag.size ≤ maxLen) (h2 : txt.size ≤ maxLen) (h3 : key.size ≤ maxLen) :
    Calls Tryz.prog 47 #[.string tag, .string txt, .string key] w fun e w' => e = .returned (.bool r) ∧ w = w' := by
  subst hr; exact mayMake_any tag txt key w h1 h2 h3

/-! ### create -/
set_option maxHeartbeats 1000000 in
theorem create_id (op i pa be : Int) (tag txt key : ByteArray) (A : Option Addr) (n c : Nat) (w : World) (hn : x.n ≤ 100000) (hi : (i != x.n + 1) = true) (h : Dc w B p x) : Calls Tryz.prog 27 #[.pointer (some ⟨p, 0, none⟩), .agg #[.int .i64 op, .int .i64 i, .int .i64 pa, .int .i64 be, .string tag, .string txt, .string key, .slice A n c]] w fun e w' => e = .returned (.iface 97 (.int .i64 1)) ∧ Below w.heap.size w w' := by
  have H := Lib.hid h
  have H1 := Lib.hid (h.alloc (.cells #[.int .i64 op, .int .i64 i, .int .i64 pa, .int .i64 be, .string tag, .string txt, .string key, .slice A n c] 54))
  have QN : Hid (∀ k, Calls Tryz.prog 34 #[.pointer (some ⟨p, 0, none⟩)] ((w.alloc (.cells #[.int .i64 op, .int .i64 i, .int .i64 pa, .int .i64 be, .string tag, .string txt, .string key, .slice A n c] 54)).drewN k) fun e w' => e = .returned (.int .i64 (x.n + 1)) ∧ ∃ m, w' = (w.alloc (.cells #[.int .i64 op, .int .i64 i, .int .i64 pa, .int .i64 be, .string tag, .string txt, .string key, .slice A n c] 54)).drewN m) :=
    Lib.hid (fun k => (next_any _ hn rfl (H1.out.drewN k)).mono fun _ _ ⟨he, hw⟩ => ⟨he, k, hw.symm⟩)
  clear h
  go_enter Tryz.func27, Tryz.ntmps27
  go_wp2_with fail
  go_quiet ((go_at_call 34; exact QN.out _))
  go_wp2_with fail
  go_ret
  exact ⟨rfl, Below_drewN ((Below.refl _ _).alloc (Nat.le_refl _) _) _⟩
set_option maxHeartbeats 1000000 in
theorem create_may (op i pa be : Int) (tag txt key : ByteArray) (A : Option Addr) (n c : Nat) (w : World) (hn : x.n ≤ 100000) (h1 : tag.size ≤ maxLen) (h2 : txt.size ≤ maxLen) (h3 : key.size ≤ maxLen) (hi : (i != x.n + 1) = false) (hm : mayMake tag txt key = false) (h : Dc w B p x) : Calls Tryz.prog 27 #[.pointer (some ⟨p, 0, none⟩), .agg #[.int .i64 op, .int .i64 i, .int .i64 pa, .int .i64 be, .string tag, .string txt, .string key, .slice A n c]] w fun e w' => e = .returned (.iface 97 (.int .i64 1)) ∧ Below w.heap.size w w' := by
  have H := Lib.hid h
  have H1 := Lib.hid (h.alloc (.cells #[.int .i64 op, .int .i64 i, .int .i64 pa, .int .i64 be, .string tag, .string txt, .string key, .slice A n c] 54))
  have QN : Hid (∀ k, Calls Tryz.prog 34 #[.pointer (some ⟨p, 0, none⟩)] ((w.alloc (.cells #[.int .i64 op, .int .i64 i, .int .i64 pa, .int .i64 be, .string tag, .string txt, .string key, .slice A n c] 54)).drewN k) fun e w' => e = .returned (.int .i64 (x.n + 1)) ∧ ∃ m, w' = (w.alloc (.cells #[.int .i64 op, .int .i64 i, .int .i64 pa, .int .i64 be, .string tag, .string txt, .string key, .slice A n c] 54)).drewN m) :=
    Lib.hid (fun k => (next_any _ hn rfl (H1.out.drewN k)).mono fun _ _ ⟨he, hw⟩ => ⟨he, k, hw.symm⟩)
  have QM : Hid (∀ k, Calls Tryz.prog 47 #[.string tag, .string txt, .string key] ((w.alloc (.cells #[.int .i64 op, .int .i64 i, .int .i64 pa, .int .i64 be, .string tag, .string txt, .string key, .slice A n c] 54)).drewN k) fun e w' => e = .returned (.bool false) ∧ ∃ m, w' = (w.alloc (.cells #[.int .i64 op, .int .i64 i, .int .i64 pa, .int .i64 be, .string tag, .string txt, .string key, .slice A n c] 54)).drewN m) :=
    Lib.hid (fun k => (mayMake_at tag txt key _ hm h1 h2 h3).mono fun _ _ ⟨he, hw⟩ => ⟨he, k, hw.symm⟩)
  clear h hm
  go_enter Tryz.func27, Tryz.ntmps27
  go_wp2_with fail
  go_quiet ((first | (go_at_call 34; exact QN.out _) | (go_at_call 47; exact QM.out _)))
  go_wp2_with fail
  go_ret
  exact ⟨rfl, Below_drewN ((Below.refl _ _).alloc (Nat.le_refl _) _) _⟩
set_option maxHeartbeats 1000000 in
theorem create_full (op i pa be : Int) (tag txt key : ByteArray) (A : Option Addr) (n c : Nat) (w : World) (hn : x.n ≤ 100000) (h1 : tag.size ≤ maxLen) (h2 : txt.size ≤ maxLen) (h3 : key.size ≤ maxLen) (hi : (i != x.n + 1) = false) (hm : mayMake tag txt key = true) (hl : x.rs.length = x.R) (h : Dc w B p x) : Calls Tryz.prog 27 #[.pointer (some ⟨p, 0, none⟩), .agg #[.int .i64 op, .int .i64 i, .int .i64 pa, .int .i64 be, .string tag, .string txt, .string key, .slice A n c]] w fun e w' => e = .returned (.iface 97 (.int .i64 6)) ∧ Below w.heap.size w w' := by
  have H := Lib.hid h
  have H1 := Lib.hid (h.alloc (.cells #[.int .i64 op, .int .i64 i, .int .i64 pa, .int .i64 be, .string tag, .string txt, .string key, .slice A n c] 54))
  have QN : Hid (∀ k, Calls Tryz.prog 34 #[.pointer (some ⟨p, 0, none⟩)] ((w.alloc (.cells #[.int .i64 op, .int .i64 i, .int .i64 pa, .int .i64 be, .string tag, .string txt, .string key, .slice A n c] 54)).drewN k) fun e w' => e = .returned (.int .i64 (x.n + 1)) ∧ ∃ m, w' = (w.alloc (.cells #[.int .i64 op, .int .i64 i, .int .i64 pa, .int .i64 be, .string tag, .string txt, .string key, .slice A n c] 54)).drewN m) :=
    Lib.hid (fun k => (next_any _ hn rfl (H1.out.drewN k)).mono fun _ _ ⟨he, hw⟩ => ⟨he, k, hw.symm⟩)
  have QM : Hid (∀ k, Calls Tryz.prog 47 #[.string tag, .string txt, .string key] ((w.alloc (.cells #[.int .i64 op, .int .i64 i, .int .i64 pa, .int .i64 be, .string tag, .string txt, .string key, .slice A n c] 54)).drewN k) fun e w' => e = .returned (.bool true) ∧ ∃ m, w' = (w.alloc (.cells #[.int .i64 op, .int .i64 i, .int .i64 pa, .int .i64 be, .string tag, .string txt, .string key, .slice A n c] 54)).drewN m) :=
    Lib.hid (fun k => (mayMake_at tag txt key _ hm h1 h2 h3).mono fun _ _ ⟨he, hw⟩ => ⟨he, k, hw.symm⟩)
  have HL := Lib.hid hl
  clear h hm hl
  go_enter Tryz.func27, Tryz.ntmps27
  go_wp2_with fail
  go_quiet ((first | (go_at_call 34; exact QN.out _) | (go_at_call 47; exact QM.out _)))
  go_wp2_with fail
  refine (add_full 0 tag txt key _ hn HL.out (H1.out.drewN _)).mono ?_
  rintro e w2 ⟨rfl, b2⟩
  have B2 := Lib.hid ((Below_drewN ((Below.refl _ w).alloc (Nat.le_refl _) _) _).trans (b2.mono (by show w.heap.size ≤ (w.alloc _).heap.size; simp)))
  clear b2
  go_wp2_with fail
  go_ret
  exact ⟨rfl, B2.out⟩
set_option maxHeartbeats 1000000 in
theorem create_yes (op i pa be : Int) (tag txt key : ByteArray) (A : Option Addr) (n c : Nat) (w : World) (hn : x.n ≤ 100000) (h1 : tag.size ≤ maxLen) (h2 : txt.size ≤ maxLen) (h3 : key.size ≤ maxLen) (hi : (i != x.n + 1) = false) (hm : mayMake tag txt key = true) (hl : x.rs.length < x.R) (h : Dc w B p x) : Calls Tryz.prog 27 #[.pointer (some ⟨p, 0, none⟩), .agg #[.int .i64 op, .int .i64 i, .int .i64 pa, .int .i64 be, .string tag, .string txt, .string key, .slice A n c]] w (Added w B p x tag txt key) := by
  have H := Lib.hid h
  have H1 := Lib.hid (h.alloc (.cells #[.int .i64 op, .int .i64 i, .int .i64 pa, .int .i64 be, .string tag, .string txt, .string key, .slice A n c] 54))
  have QN : Hid (∀ k, Calls Tryz.prog 34 #[.pointer (some ⟨p, 0, none⟩)] ((w.alloc (.cells #[.int .i64 op, .int .i64 i, .int .i64 pa, .int .i64 be, .string tag, .string txt, .string key, .slice A n c] 54)).drewN k) fun e w' => e = .returned (.int .i64 (x.n + 1)) ∧ ∃ m, w' = (w.alloc (.cells #[.int .i64 op, .int .i64 i, .int .i64 pa, .int .i64 be, .string tag, .string txt, .string key, .slice A n c] 54)).drewN m) :=
    Lib.hid (fun k => (next_any _ hn rfl (H1.out.drewN k)).mono fun _ _ ⟨he, hw⟩ => ⟨he, k, hw.symm⟩)
  have QM : Hid (∀ k, Calls Tryz.prog 47 #[.string tag, .string txt, .string key] ((w.alloc (.cells #[.int .i64 op, .int .i64 i, .int .i64 pa, .int .i64 be, .string tag, .string txt, .string key, .slice A n c] 54)).drewN k) fun e w' => e = .returned (.bool true) ∧ ∃ m, w' = (w.alloc (.cells #[.int .i64 op, .int .i64 i, .int .i64 pa, .int .i64 be, .string tag, .string txt, .string key, .slice A n c] 54)).drewN m) :=
    Lib.hid (fun k => (mayMake_at tag txt key _ hm h1 h2 h3).mono fun _ _ ⟨he, hw⟩ => ⟨he, k, hw.symm⟩)
  have HL := Lib.hid hl
  clear h hm hl
  go_enter Tryz.func27, Tryz.ntmps27
  go_wp2_with fail
  go_quiet ((first | (go_at_call 34; exact QN.out _) | (go_at_call 47; exact QM.out _)))
  go_wp2_with fail
  refine (add_yes 0 tag txt key _ hn HL.out (H1.out.drewN _)).mono ?_
  rintro e w2 ⟨rfl, x', d2, hd2⟩
  have D2 := Lib.hid d2
  have HD2 := Lib.hid hd2
  clear d2 hd2
  go_wp2_with fail
  go_ret
  exact ⟨rfl, x', (Did.below_ H.out (Below_drewN ((Below.refl _ w).alloc (Nat.le_refl _) _) _)).trans D2.out, HD2.out⟩
theorem create_any (r : Rc) (A : Option Addr) (n c : Nat) (w : World) (hn : x.n ≤ 100000) (h1 : r.tag.size ≤ maxLen) (h2 : r.txt.size ≤ maxLen) (h3 : r.key.size ≤ maxLen) (hR : x.rs.length ≤ x.R) (h : Dc w B p x) :
    Calls Tryz.prog 27 #[.pointer (some ⟨p, 0, none⟩), .agg #[.int .i64 r.op, .int .i64 r.id, .int .i64 r.par, .int .i64 r.bef, .string r.tag, .string r.txt, .string r.key, .slice A n c]] w (Made w B p x (errV (makeD x.d r).1) (makeD x.d r).2) := by
  have hlen : x.d.l.length = x.rs.length := l_len x
  by_cases hi : r.id = x.n + 1
  · have hi2 : (r.id != x.n + 1) = false := by simpa using hi
    cases hm : mayMake r.tag r.txt r.key with
    | false =>
      have hd : makeD x.d r = (1, x.d) := by unfold makeD; exact if_pos (.inr hm)
      rw [hd]
      refine (create_may r.op r.id r.par r.bef r.tag r.txt r.key A n c w hn h1 h2 h3 hi2 hm h).mono ?_
      rintro e w' ⟨rfl, hb⟩
      exact Made.same h hb rfl rfl
    | true =>
      have c1 : ¬ (r.id ≠ x.d.n + 1 ∨ mayMake r.tag r.txt r.key = false) := by
        rintro (e | e)
        · exact e hi
        · rw [hm] at e; cases e
      by_cases hl : x.R ≤ x.rs.length
      · have hd : makeD x.d r = (6, x.d) := by unfold makeD; rw [if_neg c1]; exact if_pos (by rw [hlen]; exact hl)
        rw [hd]
        refine (create_full r.op r.id r.par r.bef r.tag r.txt r.key A n c w hn h1 h2 h3 hi2 hm (by omega) h).mono ?_
        rintro e w' ⟨rfl, hb⟩
        exact Made.same h hb rfl rfl
      · have hd : makeD x.d r = (0, { x.d with l := x.d.l ++ [newN (x.n + 1) r.tag r.txt r.key], n := x.n + 1 }) := by
          unfold makeD; rw [if_neg c1, if_neg (by rw [hlen]; exact hl), hi]; rfl
        rw [hd]
        exact create_yes r.op r.id r.par r.bef r.tag r.txt r.key A n c w hn h1 h2 h3 hi2 hm (by omega) h
  · have hi2 : (r.id != x.n + 1) = true := by simpa using hi
    have hd : makeD x.d r = (1, x.d) := by unfold makeD; exact if_pos (.inl hi)
    rw [hd]
    refine (create_id r.op r.id r.par r.bef r.tag r.txt r.key A n c w hn hi2 h).mono ?_
    rintro e w' ⟨rfl, hb⟩
    exact Made.same h hb rfl rfl

/-! ### New -/
def NewDoc (w : World) (R : Nat) (e : Ending) (w' : World) : Prop :=
  ∃ (p : Nat) (x : Dx), e = .returned (.tuple #[.pointer (some ⟨p, 0, none⟩), .nilIface]) ∧ Dc w' w.heap.size p x ∧ x.d = newD R ∧ Below w.heap.size w w'
set_option maxHeartbeats 1000000 in
theorem newDoc_no (r : Int) (w : World) (h : r < 1 ∨ 200 < r) : Calls Tryz.prog 16 #[.int .i64 r] w fun e w' => e = .returned (.tuple #[.pointer none, .iface 97 (.int .i64 1)]) ∧ w = w' := by
  have q1 := err_neq_nil
  go_enter Tryz.func16, Tryz.ntmps16
  go_wp2_with fail
  refine (newP_no r w h).mono ?_
  rintro e w' ⟨rfl, rfl⟩
  go_wp2_with fail
  go_ret2
  exact ⟨rfl, rfl⟩
set_option maxHeartbeats 1000000 in
theorem newDoc_yes (R : Nat) (w : World) (h1 : 1 ≤ R) (h2 : R ≤ 200) : Calls Tryz.prog 16 #[.int .i64 R] w (NewDoc w R) := by
  have q1 := nil_neq_nil
  go_enter Tryz.func16, Tryz.ntmps16
  go_wp2_with fail
  refine (newP_yes (R : Int) w (by omega) (by omega)).mono ?_
  rintro e w1 ⟨a, rfl, a1, b1⟩
  rw [Int.toNat_natCast] at a1
  have A1 := Lib.hid a1
  have B1 := Lib.hid b1
  clear a1 b1
  go_wp2_with fail
  have dc : Dc (w1.alloc (.cells #[.pointer (some ⟨a, 0, none⟩), .slice none 0 0, .int .i64 0] 90)) w.heap.size w1.heap.size ⟨a, .slice none 0 0, .slice none 0 0, R, 0, 0, []⟩ :=
    ⟨heap_alloc_new w1 _, B1.out.size, A1.out.below ((Below.refl _ _).alloc (Nat.le_refl _) _) (Nat.le_refl _), Kind.Own.nil _ _ _, fun _ h => absurd h (by simp), fun _ h => absurd h (by simp), List.Pairwise.nil⟩
  have DC := Lib.hid dc
  have B2 := Lib.hid (B1.out.alloc B1.out.size (.cells #[.pointer (some ⟨a, 0, none⟩), .slice none 0 0, .int .i64 0] 90))
  clear dc
  refine (add_yes (x := ⟨a, .slice none 0 0, .slice none 0 0, R, 0, 0, []⟩) 0 ⟨#[114, 111, 111, 116]⟩ ⟨#[]⟩ ⟨#[]⟩ _ (by show (0 : Int) ≤ 100000; omega) (by show 0 < R; omega) DC.out).mono ?_
  rintro e w2 ⟨rfl, x', d2, hd2⟩
  have D2 := Lib.hid d2
  have HD2 := Lib.hid hd2
  clear d2 hd2
  go_wp2_with fail
  go_ret2
  exact ⟨_, x', rfl, D2.out.dc, HD2.out, B2.out.trans (D2.out.to_below DC.out)⟩
end Go.Proofs.YtihjdmdafiifhaaGreat.P5
