/- One call behind the other, to a document and its log; what a call that made memory alone has done. No condition. -/
import Derived.Deep.Cut
import Derived.Test.YtkagaobelhpojaaGreatM31
import Derived.Test.YtkagaobelhpojaaGreatM36
import Derived.Test.YtkagaobelhpojaaGreatM37
set_option linter.unusedVariables false
set_option linter.unusedSimpArgs false
namespace Go.Proofs.YtkagaobelhpojaaGreat.P8
open Go.RowKit Kd P4 P5 P7
variable {w w1 w2 : World} {B g p : Nat} {x x1 x2 : Dx} {vd vd1 vd2 : Value} {rs rs1 rs2 : List RR}
theorem LDid.trans (h : LDid w B g p x vd x1 vd1 rs1 w1) (k : LDid w1 B g p x1 vd1 x2 vd2 rs2 w2) : LDid w B g p x vd x2 vd2 rs2 w2 := by
  have hs := h.but.size
  refine ⟨k.dc, k.lg, h.but.trans k.but (fun i hi hf => ?_), fun i hi => ?_, fun i hi => ?_⟩
  · rcases hf with hf | hf | hf
    · rcases h.ft i hf with e | e
      · exact .inl e
      · omega
    · exact .inr (.inl hf)
    · rcases h.lf i hf with e | e
      · exact .inr (.inr e)
      · omega
  · rcases k.ft i hi with e | e
    · exact h.ft i e
    · exact .inr (by omega)
  · rcases k.lf i hi with e | e
    · exact h.lf i e
    · exact .inr (by omega)
theorem LDid.same (h : Dc w B p x) (l : Lg w B g p vd rs) (hb : Below w.heap.size w w1) : LDid w B g p x vd x vd rs w1 := ⟨h.below hb, l.below hb, But.of_below hb _, fun _ hi => .inl hi, fun _ hi => .inl hi⟩
theorem LDid.below (h : LDid w B g p x vd x1 vd1 rs1 w1) (hb : Below w1.heap.size w1 w2) : LDid w B g p x vd x1 vd1 rs1 w2 := LDid.trans h (LDid.same h.dc h.lg hb)
end Go.Proofs.YtkagaobelhpojaaGreat.P8

/- The program's build of a tree: its changes, and what they come to; Build. No condition but those stated. -/
namespace Go.Proofs.YtkagaobelhpojaaGreat.P8
open Go.RowKit Kd P4 P5 P7

/-! ### changes -/
def Changed (w : World) (C : Nat) (L : List Rc) (e : Ending) (w' : World) : Prop :=
  ∃ (A : Option Addr) (n c : Nat) (ls : List RR), e = .returned (.slice A n c) ∧ kR.Own w' w.heap.size (.slice A n c) ls ∧ ls.map (·.r) = L ∧ (∀ a ∈ ls, RecIn w' C a) ∧ Below w.heap.size w w'
set_option maxHeartbeats 4000000 in
theorem changes_any (t : TV) (i par bef : Int) (w : World) (C : Nat) (hCw : C ≤ w.heap.size) (ht : TOk w C t) (hfew : fewP (er t) = true) : Calls Tryz.prog 59 #[.int .i64 i, .int .i64 par, .int .i64 bef, .agg #[.string t.tag, .string t.txt, .string t.key, .slice t.sa.A t.sa.n t.sa.c, .slice t.sk.A t.sk.n t.sk.c]] w (Changed w C (headR i par bef (er t))) := by
  obtain ⟨tag, txt, key, ⟨A, n, c⟩, attrs, ⟨A2, n2, c2⟩, kids⟩ := t
  have al : attrs.length = n := ht.al
  have ac : n ≤ c := ht.ac
  have az : A = none → c = 0 := ht.az
  have AH : Hid (kA.Holds w C A attrs) := Lib.hid ht.ah
  rw [er, fewP] at hfew
  simp only [Bool.and_eq_true, decide_eq_true_eq] at hfew
  obtain ⟨⟨⟨⟨f1, f2⟩, f3⟩, f4⟩, f5⟩ := hfew
  obtain ⟨hwfa, h20⟩ := few_wf f4
  have hn20 : n ≤ 20 := by omega
  have m1 : tag.size ≤ maxLen := by unfold maxLen; omega
  have m2 : txt.size ≤ maxLen := by unfold maxLen; omega
  have m3 : key.size ≤ maxLen := by unfold maxLen; omega
  have AL := Lib.hid al
  have AZ := Lib.hid az
  have HWA := Lib.hid hwfa
  have B1 : Hid (Below w.heap.size w (w.alloc (.cells #[.string tag, .string txt, .string key, .slice A n c, .slice A2 n2 c2] 26))) := Lib.hid ((Below.refl _ _).alloc (Nat.le_refl _) _)
  have N1 : Hid (TB (w.alloc (.cells #[.string tag, .string txt, .string key, .slice A n c, .slice A2 n2 c2] 26)) w.heap.size (.mk tag txt key ⟨A, n, c⟩ attrs ⟨A2, n2, c2⟩ kids)) := Lib.hid (TB.new w (.mk tag txt key ⟨A, n, c⟩ attrs ⟨A2, n2, c2⟩ kids))
  have RI1 : Hid (∀ w9, Below w.heap.size w w9 → ∀ a ∈ [(⟨rMake i (er (.mk tag txt key ⟨A, n, c⟩ attrs ⟨A2, n2, c2⟩ kids)), ⟨none, 0, 0⟩⟩ : RR), ⟨rPut i par bef, ⟨none, 0, 0⟩⟩], RecIn w9 C a) := Lib.hid (fun w9 _ a ha => by
    simp only [List.mem_cons, List.not_mem_nil, or_false] at ha
    rcases ha with rfl | rfl
    · exact ⟨rfl, by simp, Nat.le_refl _, fun _ => rfl, fun a h => absurd h (by simp [rMake]), Kind.Holds.nil _ _ _, by rw [er]; exact m1, by rw [er]; exact m2, by rw [er]; exact m3⟩
    · exact ⟨rfl, by simp, Nat.le_refl _, fun _ => rfl, fun a h => absurd h (by simp [rPut]), Kind.Holds.nil _ _ _, size_nil, size_nil, size_nil⟩)
  have RI4 : Hid (∀ w9, Below w.heap.size w w9 → RecIn w9 C (⟨rAttrs i attrs, ⟨A, n, c⟩⟩ : RR)) := Lib.hid (fun w9 h => ⟨AL.out, by show n ≤ 1000; omega, ac, AZ.out, HWA.out, AH.out.below h hCw, size_nil, size_nil, size_nil⟩)
  clear al az hwfa ht f4 f5 f1 f2 f3 h20
  show Calls Tryz.prog 59 #[.int .i64 i, .int .i64 par, .int .i64 bef, .agg #[.string tag, .string txt, .string key, .slice A n c, .slice A2 n2 c2]] w _
  go_enter Tryz.func59, Tryz.ntmps59
  go_upto_region 1 with fail
  generalize w.alloc (.cells #[.string tag, .string txt, .string key, .slice A n c, .slice A2 n2 c2] 26) = W at B1 N1 ⊢
  have a0 : W.cell? ⟨w.heap.size, 0, none⟩ = some (.string tag) := N1.out.c0
  have a1 : W.cell? ⟨w.heap.size, 1, none⟩ = some (.string txt) := N1.out.c1
  have a2 : W.cell? ⟨w.heap.size, 2, none⟩ = some (.string key) := N1.out.c2
  go_upto_region 2 with fail
  have B2 : Hid (Below w.heap.size w (W.alloc (.cells #[.int .i64 1, .int .i64 i, .int .i64 0, .int .i64 0, .string tag, .string txt, .string key, .slice none 0 0, .int .i64 2, .int .i64 i, .int .i64 par, .int .i64 bef, .string ⟨#[]⟩, .string ⟨#[]⟩, .string ⟨#[]⟩, .slice none 0 0] 57))) := Lib.hid (B1.out.alloc B1.out.size _)
  have N2 : Hid (TB (W.alloc (.cells #[.int .i64 1, .int .i64 i, .int .i64 0, .int .i64 0, .string tag, .string txt, .string key, .slice none 0 0, .int .i64 2, .int .i64 i, .int .i64 par, .int .i64 bef, .string ⟨#[]⟩, .string ⟨#[]⟩, .string ⟨#[]⟩, .slice none 0 0] 57)) w.heap.size (.mk tag txt key ⟨A, n, c⟩ attrs ⟨A2, n2, c2⟩ kids)) := Lib.hid (heap_up N1.out)
  have O2 : Hid (kR.Own (W.alloc (.cells #[.int .i64 1, .int .i64 i, .int .i64 0, .int .i64 0, .string tag, .string txt, .string key, .slice none 0 0, .int .i64 2, .int .i64 i, .int .i64 par, .int .i64 bef, .string ⟨#[]⟩, .string ⟨#[]⟩, .string ⟨#[]⟩, .slice none 0 0] 57)) w.heap.size (.slice (some ⟨W.heap.size, 0, none⟩) 2 2) [(⟨rMake i (er (.mk tag txt key ⟨A, n, c⟩ attrs ⟨A2, n2, c2⟩ kids)), ⟨none, 0, 0⟩⟩ : RR), ⟨rPut i par bef, ⟨none, 0, 0⟩⟩]) := Lib.hid (Kind.own_mk (K := kR) rfl B1.out.size (heap_alloc_new W _) (Nat.le_refl _) (by simp [maxLen]) rfl rfl)
  generalize W.alloc (.cells #[.int .i64 1, .int .i64 i, .int .i64 0, .int .i64 0, .string tag, .string txt, .string key, .slice none 0 0, .int .i64 2, .int .i64 i, .int .i64 par, .int .i64 bef, .string ⟨#[]⟩, .string ⟨#[]⟩, .string ⟨#[]⟩, .slice none 0 0] 57) = W2 at B2 N2 O2 ⊢
  generalize W.heap.size = g2 at O2 ⊢
  clear a0 a1 a2 B1 N1
  have a3 : W2.cell? ⟨w.heap.size, 3, none⟩ = some (.slice A n c) := N2.out.c3
  by_cases hn0 : n = 0
  · have hat : attrs = [] := by have := AL.out; rw [hn0] at this; exact List.length_eq_zero_iff.1 this
    have q1 : decide ((0 : Int) < (n : Int)) = false := by simp; omega
    have q2 : decide (0 < n) = false := by simp; omega
    have HLs : Hid (([(⟨rMake i (er (.mk tag txt key ⟨A, n, c⟩ attrs ⟨A2, n2, c2⟩ kids)), ⟨none, 0, 0⟩⟩ : RR), ⟨rPut i par bef, ⟨none, 0, 0⟩⟩]).map (·.r) = headR i par bef (er (.mk tag txt key ⟨A, n, c⟩ attrs ⟨A2, n2, c2⟩ kids))) := Lib.hid (by rw [er]; unfold headR; rw [show (PT.mk tag txt key attrs (erL kids)).attrs = attrs from rfl, hat]; rfl)
    go_wp2_with fail
    go_ret
    exact ⟨_, _, _, _, rfl, O2.out, HLs.out, RI1.out W2 B2.out, B2.out⟩
  · have q1 : decide ((0 : Int) < (n : Int)) = true := by simp; omega
    have q2 : decide (0 < n) = true := by simp; omega
    have HLs : Hid (([(⟨rMake i (er (.mk tag txt key ⟨A, n, c⟩ attrs ⟨A2, n2, c2⟩ kids)), ⟨none, 0, 0⟩⟩ : RR), ⟨rPut i par bef, ⟨none, 0, 0⟩⟩] ++ [(⟨rAttrs i attrs, ⟨A, n, c⟩⟩ : RR)] : List RR).map (·.r) = headR i par bef (er (.mk tag txt key ⟨A, n, c⟩ attrs ⟨A2, n2, c2⟩ kids))) := Lib.hid (by
      rw [er]
      unfold headR
      rw [show (PT.mk tag txt key attrs (erL kids)).attrs = attrs from rfl, if_neg (by have := AL.out; cases attrs <;> simp_all)]
      rfl)
    go_wp2_with (at_builtin; refine kR.wp_app rfl _ _ rfl (v := .slice (some ⟨g2, 0, none⟩) 2 2) (l := [(⟨rMake i (er (.mk tag txt key ⟨A, n, c⟩ attrs ⟨A2, n2, c2⟩ kids)), ⟨none, 0, 0⟩⟩ : RR), ⟨rPut i par bef, ⟨none, 0, 0⟩⟩]) (m := [(⟨rAttrs i attrs, ⟨A, n, c⟩⟩ : RR)]) (B := w.heap.size) (A := some ⟨W2.heap.size, 0, none⟩) (n := 1) (c := 1) rfl (O2.out.alloc _) rfl rfl (fun e => by cases e) (Kind.Holds.lit (heap_alloc_new _ _) rfl) (by simp) (by have := B2.out.size; simp; omega) ?_; intro v8 w8 hown8 hgrow8 hat8; obtain ⟨A12, n12, c12, rfl, hxa, hxb, hxc, hxd, hxe⟩ := hown8.slice; clear hxa hxb hxc hxd hxe; have b8 := app_but hgrow8; have O3 := Lib.hid hown8; have B3 : Hid (Below w.heap.size w w8) := Lib.hid (B2.out.trans (b8.to_below (fun i _ hi => (O2.out.lt hi).1) B2.out.size)); clear hown8 hgrow8 hat8 b8)
    go_ret
    exact ⟨_, _, _, _, rfl, O3.out, HLs.out, (fun a ha => by
      rcases List.mem_append.1 ha with h | h
      · exact RI1.out w8 B3.out a h
      · rw [List.mem_singleton.1 h]; exact RI4.out w8 B3.out), B3.out⟩

/-! ### build -/
theorem ldid_tb {w w' : World} {B g p s : Nat} {x x' : Dx} {vd vd' : Value} {rs rs' : List RR} {t : TV} (h : Dc w B p x) (l : Lg w B g p vd rs) (k : LDid w B g p x vd x' vd' rs' w') (ht : TB w s t) : TB w' s t := (k.but.block s ht.lt (fun e => by
  rcases e with e | e
  · exact h.other ht (by decide) (by decide) (by decide) (by decide) (by decide) e
  · obtain ⟨c, t', h1, h2⟩ := l.ty e
    rcases h2 with rfl | rfl <;> exact heap_ne h1 ht (by decide) rfl)).trans ht
/-- the first loop: the tree's own changes -/
def PLoop1 (w : World) (B C g p : Nat) (x : Dx) (vd : Value) (rs : List RR) (t : TV) (A12 : Option Addr) (n12 c12 : Nat) (Ls : List RR) (s28 : Value) (wr : World) : Prop :=
  ∃ (k : Nat) (xk : Dx) (vk : Value) (rk : List RR), k ≤ n12 ∧ s28 = .int .i64 k ∧ xk.n ≤ x.n + k ∧ rk.length ≤ rs.length + k ∧ Hid (LDid w B g p x vd xk vk rk wr) ∧ Hid (WF xk.d) ∧ Hid (kR.Own wr w.heap.size (.slice A12 n12 c12) Ls) ∧ Hid (Apart (.slice A12 n12 c12) vk) ∧
    Hid (∀ a ∈ Ls, RecIn wr C a) ∧ Hid (runR x.d (Ls.map (·.r)) = (⟨(Ls.map (·.r)).take k, 0, xk.d⟩ : Ran).on (runR xk.d ((Ls.map (·.r)).drop k))) ∧ Hid (rk.map (·.r) = rs.map (·.r) ++ (Ls.map (·.r)).take k) ∧ Hid (TB wr w.heap.size t)
/-- the second: its children -/
def PLoop2 (w : World) (B g p : Nat) (x : Dx) (vd : Value) (rs : List RR) (d1 : D) (head : List Rc) (L : List PT) (n2 : Nat) (s42 : Value) (wr : World) : Prop :=
  ∃ (k : Nat) (xk : Dx) (vk : Value) (rk : List RR) (dn : List Rc), k ≤ n2 ∧ s42 = .int .i64 k ∧ xk.n ≤ x.n + 1 + countL (L.take k) ∧ rk.length ≤ rs.length + 3 + 3 * countL (L.take k) ∧ Hid (LDid w B g p x vd xk vk rk wr) ∧ Hid (WF xk.d) ∧ Hid (rk.map (·.r) = rs.map (·.r) ++ (head ++ dn)) ∧
    Hid (buildL d1 (x.n + 1) L = (⟨dn, 0, xk.d⟩ : Ran).on (buildL xk.d (x.n + 1) (L.drop k)))
def BuiltC (w : World) (B g p : Nat) (x : Dx) (vd : Value) (rs : List RR) (r : Ran) (e : Ending) (w' : World) : Prop :=
  ∃ x' vd' rs', e = .returned (.tuple #[.int .i64 (if r.err = 0 then x.n + 1 else 0), errV r.err]) ∧ LDid w B g p x vd x' vd' rs' w' ∧ x'.d = r.d ∧ rs'.map (·.r) = rs.map (·.r) ++ r.done
set_option maxRecDepth 100000 in
set_option maxHeartbeats 40000000 in
theorem build_any : ∀ (t : TV) (par bef : Int) (w : World) (B C g p : Nat) (x : Dx) (vd : Value) (rs : List RR), C ≤ B → WF x.d → x.n + countP (er t) ≤ 90000 → rs.length + 3 * countP (er t) ≤ 1000 → Dc w B p x → Lg w B g p vd rs → TOk w C t → fewP (er t) = true →
    Calls Tryz.prog 29 #[.pointer (some ⟨g, 0, none⟩), .pointer (some ⟨p, 0, none⟩), .int .i64 par, .int .i64 bef, .agg #[.string t.tag, .string t.txt, .string t.key, .slice t.sa.A t.sa.n t.sa.c, .slice t.sk.A t.sk.n t.sk.c]] w (BuiltC w B g p x vd rs (buildP x.d par bef (er t))) := by
  intro t
  induction t using TV.ind with
  | h tag txt key sa attrs sk kids ih =>
    obtain ⟨A, n, c⟩ := sa
    obtain ⟨A2, n2, c2⟩ := sk
    intro par bef w B C g p x vd rs hCB hwf hxn hrs hd hl ht hfew
    have KL : Hid (kids.length = n2) := Lib.hid ht.kl
    have KH : Hid (kT.Holds w C A2 kids) := Lib.hid ht.kh
    have KS : Hid (∀ k ∈ kids, TOk w C k) := Lib.hid ht.ks
    have HTT : Hid (TOk w C (.mk tag txt key ⟨A, n, c⟩ attrs ⟨A2, n2, c2⟩ kids)) := Lib.hid ht
    have HFW : Hid (fewP (er (.mk tag txt key ⟨A, n, c⟩ attrs ⟨A2, n2, c2⟩ kids)) = true) := Lib.hid hfew
    rw [er, fewP] at hfew
    simp only [Bool.and_eq_true, decide_eq_true_eq] at hfew
    obtain ⟨⟨⟨⟨f1, f2⟩, f3⟩, f4⟩, f5⟩ := hfew
    have F5 : Hid (∀ k (hk : k < kids.length), fewP (er kids[k]) = true) := Lib.hid (fun k hk => by
      have hk' : k < (erL kids).length := by rw [erL_map]; simpa using hk
      have := fewL_at hk' f5
      simpa [erL_map] using this)
    have hcp : countP (er (.mk tag txt key ⟨A, n, c⟩ attrs ⟨A2, n2, c2⟩ kids)) = countL (erL kids) + 1 := by rw [er, countP]
    have CL : Hid (rs.length + 3 + 3 * countL (erL kids) ≤ 1000) := Lib.hid (by omega)
    have hxn2 : x.n + 1 + countL (erL kids) ≤ 90000 := by rw [hcp] at hxn; simp at hxn; omega
    have hle : n2 ≤ 1000 := by have h1 := len_le_count (erL kids); rw [erL_map, List.length_map] at h1; have h2 := KL.out; have h3 := CL.out; rw [erL_map] at h3; omega
    have hBw : B ≤ w.heap.size := by have := hd.base; have := hd.lt (.inl rfl : foot p x p); omega
    have hx0 : 1 ≤ x.n := hwf.n0
    have hgw : g < w.heap.size := hl.lt (.inl rfl)
    have HDc := Lib.hid hd
    have HLg := Lib.hid hl
    have HWF := Lib.hid hwf
    have IH := Lib.hid ih
    have q1 := err_neq_nil
    have q2 := nil_neq_nil
    have B1 : Hid (Below w.heap.size w (w.alloc (.cells #[.string tag, .string txt, .string key, .slice A n c, .slice A2 n2 c2] 26))) := Lib.hid ((Below.refl _ _).alloc (Nat.le_refl _) _)
    have N1 : Hid (TB (w.alloc (.cells #[.string tag, .string txt, .string key, .slice A n c, .slice A2 n2 c2] 26)) w.heap.size (.mk tag txt key ⟨A, n, c⟩ attrs ⟨A2, n2, c2⟩ kids)) := Lib.hid (TB.new w (.mk tag txt key ⟨A, n, c⟩ attrs ⟨A2, n2, c2⟩ kids))
    clear hd hl hwf ih ht f4 f5 f1 f2 f3 hxn hcp
    show Calls Tryz.prog 29 #[.pointer (some ⟨g, 0, none⟩), .pointer (some ⟨p, 0, none⟩), .int .i64 par, .int .i64 bef, .agg #[.string tag, .string txt, .string key, .slice A n c, .slice A2 n2 c2]] w _
    go_enter Tryz.func29, Tryz.ntmps29
    go_upto_region 1 with fail
    generalize w.alloc (.cells #[.string tag, .string txt, .string key, .slice A n c, .slice A2 n2 c2] 26) = W at B1 N1 ⊢
    go_wp2_with fail
    refine (next_any W (by omega) rfl (HDc.out.below B1.out)).mono ?_
    rintro e w' ⟨rfl, rfl⟩
    have a0 : W.cell? ⟨w.heap.size, 0, none⟩ = some (.string tag) := N1.out.c0
    have a1 : W.cell? ⟨w.heap.size, 1, none⟩ = some (.string txt) := N1.out.c1
    have a2 : W.cell? ⟨w.heap.size, 2, none⟩ = some (.string key) := N1.out.c2
    have a3 : W.cell? ⟨w.heap.size, 3, none⟩ = some (.slice A n c) := N1.out.c3
    have a4 : W.cell? ⟨w.heap.size, 4, none⟩ = some (.slice A2 n2 c2) := N1.out.c4
    go_wp2_with fail
    refine (changes_any (.mk tag txt key ⟨A, n, c⟩ attrs ⟨A2, n2, c2⟩ kids) (x.n + 1) par bef W C (by have := B1.out.size; omega) (HTT.out.later B1.out (by omega)) HFW.out).mono ?_
    rintro e w3 ⟨A12, n12, c12, Ls, rfl, o3, hls, hri, b3⟩
    have O3 : Hid (kR.Own w3 w.heap.size (.slice A12 n12 c12) Ls) := Lib.hid (o3.base_le B1.out.size)
    have HLs := Lib.hid hls
    have RI3 := Lib.hid hri
    have B3 := Lib.hid (B1.out.trans (b3.mono B1.out.size))
    have N3 := Lib.hid (N1.out.below b3 N1.out.lt)
    have LD3 : Hid (LDid w B g p x vd x vd rs w3) := Lib.hid (LDid.same HDc.out HLg.out B3.out)
    have AP3 : Hid (Apart (.slice A12 n12 c12) vd) := Lib.hid (fun i hi e => by have h1 := (O3.out.lt hi).1; have h2 := (HLg.out.lt (.inr e)); omega)
    obtain ⟨_, _, _, hv, hl12, _, _, _, _⟩ := own_r O3.out
    injection hv with e1 e2 e3
    have hn12 : n12 ≤ 3 := by
      have h1 := congrArg List.length hls
      have h2 := headR_size (x.n + 1) par bef (er (.mk tag txt key ⟨A, n, c⟩ attrs ⟨A2, n2, c2⟩ kids))
      simp at h1
      omega
    have HL12 : Hid (Ls.length = n12) := Lib.hid (by rw [hl12]; exact e2.symm)
    clear o3 hls hri b3 e1 e2 e3 hl12 a0 a1 a2 a3 a4 HFW HTT N1 B1
    go_wp2_with fail
    go_loopw [28] (fun s28 wr => PLoop1 w B C g p x vd rs (.mk tag txt key ⟨A, n, c⟩ attrs ⟨A2, n2, c2⟩ kids) A12 n12 c12 Ls s28 wr) (fun s28 _ => n12 - (intOf s28).toNat)
    case atStart => exact ⟨0, x, vd, rs, by omega, rfl, by omega, by omega, LD3, HWF, O3, AP3, RI3, Lib.hid (run_start _ _), Lib.hid (by simp), N3⟩
    case round =>
      obtain ⟨k, xk, vk, rk, hk, rfl, hkn, hkr, HLD, HWk, HO12, HAp, HRI, HRun, HRk, HNT⟩ := hrel
      by_cases hkl : k < n12
      · obtain ⟨_, _, _, hv, _, _, _, _, hh12⟩ := own_r HO12.out
        injection hv with e1 e2 e3
        subst e1
        have hkL : k < Ls.length := by have := HL12.out; omega
        obtain ⟨b, o, hA12, hb, g0, g1, g2, g3, g4, g5, g6, g7⟩ := cell_of_recs hh12 hkL
        subst hA12
        have hdr := Lib.hid (HRI.out _ (List.getElem_mem hkL))
        have hkM : k < (Ls.map (·.r)).length := by simpa using hkL
        have hrk : (Ls.map (·.r))[k] = Ls[k].r := by simp
        have RN := Lib.hid (fun h0 => run_next hkM HRun.out h0)
        have RBd := Lib.hid (fun h0 => run_bad hkM HRun.out h0)
        have TK : Hid ((Ls.map (·.r)).take (k + 1) = (Ls.map (·.r)).take k ++ [Ls[k].r]) := Lib.hid (by rw [List.take_add_one, List.getElem?_eq_getElem hkM, hrk]; rfl)
        rw [hrk] at RN RBd
        clear hrk hkM e2 e3 hh12
        generalize Ls[k] = d at g0 g1 g2 g3 g4 g5 g6 g7 hdr RN RBd TK
        obtain ⟨cd, hcd⟩ : ∃ c, (applyD xk.d d.r).1 = c := ⟨_, rfl⟩
        rw [hcd] at RN RBd
        have HCD := Lib.hid hcd
        clear hcd
        have hbw : B ≤ wr.heap.size := by have := HLD.out.but.size; omega
        go_upto_region 5 with fail
        have NA := Lib.hid (RcB.new wr d.r d.va.A d.va.n d.va.c)
        have BA : Hid (Below wr.heap.size wr (wr.alloc (.cells #[.int .i64 d.r.op, .int .i64 d.r.id, .int .i64 d.r.par, .int .i64 d.r.bef, .string d.r.tag, .string d.r.txt, .string d.r.key, .slice d.va.A d.va.n d.va.c] 57))) := Lib.hid ((Below.refl _ _).alloc (Nat.le_refl _) _)
        generalize wr.alloc (.cells #[.int .i64 d.r.op, .int .i64 d.r.id, .int .i64 d.r.par, .int .i64 d.r.bef, .string d.r.tag, .string d.r.txt, .string d.r.key, .slice d.va.A d.va.n d.va.c] 57) = wa at NA BA ⊢
        clear g0 g1 g2 g3 g4 g5 g6 g7
        have a0 := NA.out.c0
        have a1 := NA.out.c1
        have a2 := NA.out.c2
        have a3 := NA.out.c3
        have a4 := NA.out.c4
        have a5 := NA.out.c5
        have a6 := NA.out.c6
        have a7 := NA.out.c7
        have LDa := Lib.hid (LDid.below HLD.out BA.out)
        have OA : Hid (kR.Own wa w.heap.size (.slice (some ⟨b, o, none⟩) n12 c12) Ls) := Lib.hid (HO12.out.below BA.out (Nat.le_refl _))
        have TA := Lib.hid (HNT.out.below BA.out HNT.out.lt)
        have RIa : Hid (∀ a ∈ Ls, RecIn wa C a) := Lib.hid (fun a ha => (HRI.out a ha).later BA.out (by omega))
        have HARG : Hid (∀ w9, Below B wa w9 → ArgR w9 d.va.A d.va.n d.va.c d.r) := Lib.hid (fun w9 h9 => ((hdr.out.later BA.out (by omega)).later h9 hCB).arg (by have := h9.size; have := BA.out.size; omega))
        go_wp2_with fail
        refine (do_any d.r d.va.A d.va.n d.va.c wa HCD.out HWk.out (by omega) HARG.out (by have := CL.out; omega) LDa.out.dc LDa.out.lg).mono ?_
        rintro e w5 ⟨rfl, x5, vd5, rs5, ld5, hx5, hm5, hl5⟩
        have LD5 := Lib.hid (LDid.trans LDa.out ld5)
        have O5 : Hid (kR.Own w5 w.heap.size (.slice (some ⟨b, o, none⟩) n12 c12) Ls) := Lib.hid (ld5.own LDa.out.dc LDa.out.lg OA.out HAp.out)
        have AP5 := Lib.hid (ld5.apart OA.out HAp.out)
        have T5 := Lib.hid (ldid_tb LDa.out.dc LDa.out.lg ld5 TA.out)
        have bb5 := ld5.to_below LDa.out.dc LDa.out.lg
        have RI5 : Hid (∀ a ∈ Ls, RecIn w5 C a) := Lib.hid (fun a ha => (RIa.out a ha).later bb5 hCB)
        have HX5 := Lib.hid hx5
        have HM5 := Lib.hid hm5
        have hn5 : x5.n ≤ x.n + k + 1 := by have h1 := congrArg D.n hx5; have h2 := (apply_n xk.d d.r).2; rw [← h1] at h2; have h3 : x5.n ≤ xk.n + 1 := h2; omega
        have W5 : Hid (WF x5.d) := Lib.hid (by rw [hx5]; exact wf_apply HWk.out _)
        clear ld5 hx5 hm5 bb5 a0 a1 a2 a3 a4 a5 a6 a7 HLD HO12 HNT HRI HRun HWk LDa OA TA RIa HARG NA BA HAp
        by_cases hc0 : cd = 0
        · subst hc0
          have RN2 := Lib.hid (RN.out rfl)
          clear RN RBd
          rw [errV0]
          go_wp2_with fail
          go_roundw
          case rel =>
            exact ⟨k + 1, x5, vd5, rs5, by omega, by go_num, by simp; omega, by omega, LD5, W5, O5, AP5, RI5, Lib.hid (by rw [HX5.out]; exact RN2.out), Lib.hid (by rw [HM5.out, if_pos True.intro, HRk.out, TK.out, List.append_assoc]), T5⟩
          case measure => simp [intOf]; omega
        · have RB2 := Lib.hid (RBd.out hc0)
          have HC0 := Lib.hid hc0
          have he : errV cd = .iface 41 (.int .i64 cd) := by unfold errV; rw [if_neg hc0]
          rw [he]
          clear RN RBd hc0
          go_wp2_with fail
          go_ret2
          have e : buildP x.d par bef (er (.mk tag txt key ⟨A, n, c⟩ attrs ⟨A2, n2, c2⟩ kids)) = ⟨(Ls.map (·.r)).take k, cd, (applyD xk.d d.r).2⟩ := by
            have h1 := RB2.out
            rw [HLs.out] at h1
            rw [buildP_eq, show x.d.n = x.n from rfl, h1, if_neg HC0.out, HLs.out]
          rw [e]
          exact ⟨x5, vd5, rs5, by rw [if_neg HC0.out, he]; rfl, LD5.out, HX5.out, by rw [HM5.out, if_neg HC0.out, HRk.out]⟩
      · obtain rfl : n12 = k := by omega
        have RE := run_end (by have h1 := HRun.out; rw [show n12 = (Ls.map (·.r)).length by rw [List.length_map, HL12.out]] at h1; exact h1)
        rw [HLs.out] at RE
        have HRE := Lib.hid RE
        have hn1 : xk.n ≤ x.n + 1 := by
          have h1 := (head_n x.d par bef (er (.mk tag txt key ⟨A, n, c⟩ attrs ⟨A2, n2, c2⟩ kids))).2
          rw [show x.d.n + 1 = x.n + 1 from rfl, RE] at h1
          exact h1
        have HM1 : Hid (rk.map (·.r) = rs.map (·.r) ++ (headR (x.n + 1) par bef (er (.mk tag txt key ⟨A, n, c⟩ attrs ⟨A2, n2, c2⟩ kids)) ++ [])) := Lib.hid (by rw [HRk.out, List.take_of_length_le (by rw [List.length_map]; have := HL12.out; omega), HLs.out, List.append_nil])
        have a4 : wr.cell? ⟨w.heap.size, 4, none⟩ = some (.slice A2 n2 c2) := HNT.out.c4
        clear RE HRun HAp HO12 HRI
        have BE : Hid (∀ X : Ran, buildL xk.d (x.n + 1) (erL kids) = X → buildP x.d par bef (er (.mk tag txt key ⟨A, n, c⟩ attrs ⟨A2, n2, c2⟩ kids)) = (⟨headR (x.n + 1) par bef (er (.mk tag txt key ⟨A, n, c⟩ attrs ⟨A2, n2, c2⟩ kids)), 0, xk.d⟩ : Ran).on X) := Lib.hid (fun X hX => by
          rw [buildP_eq, show x.d.n = x.n from rfl, HRE.out, if_pos rfl]
          show (⟨_, 0, xk.d⟩ : Ran).on (buildL xk.d (x.n + 1) (er (.mk tag txt key ⟨A, n, c⟩ attrs ⟨A2, n2, c2⟩ kids)).kids) = _
          rw [show (er (.mk tag txt key ⟨A, n, c⟩ attrs ⟨A2, n2, c2⟩ kids)).kids = erL kids by rw [er]; rfl, hX])
        go_wp2_with fail
        obtain ⟨wo, rfl⟩ : ∃ wo : World, wo = wr := ⟨_, rfl⟩
        go_loopw [42] (fun s42 wr => PLoop2 w B g p x vd rs xk.d (headR (x.n + 1) par bef (er (.mk tag txt key ⟨A, n, c⟩ attrs ⟨A2, n2, c2⟩ kids))) (erL kids) n2 s42 wr) (fun s42 _ => n2 - (intOf s42).toNat)
        case atStart => exact ⟨0, xk, vk, rk, [], by omega, rfl, by simp [countL]; omega, by omega, HLD, HWk, HM1, Lib.hid (by unfold Ran.on; simp)⟩
        case round =>
          obtain ⟨j, xj, vj, rj, dn, hj, rfl, hjn, hjr, HLj, HWj, HMj, HBj⟩ := hrel
          by_cases hjl : j < n2
          · have hkl2 : j < kids.length := by have := KL.out; omega
            have hke : j < (erL kids).length := by rw [erL_map]; simpa using hkl2
            have hee : (erL kids)[j] = er kids[j] := by simp [erL_map]
            have hbx : w.heap.size ≤ wr.heap.size := HLj.out.but.size
            have bjw := HLj.out.to_below HDc.out HLg.out
            have hct := countL_take hke
            have hcl := countL_le (erL kids) (j + 1)
            have hpos := count_pos (erL kids)[j]
            rw [hee] at hct hpos
            obtain ⟨b, o, hA2, hb, g0, g1, g2, g3, g4⟩ := cell_of_trees (KH.out.below bjw hCB) hkl2
            subst hA2
            have CK : Hid (∀ wz, Below wr.heap.size wr wz → Calls Tryz.prog 29 #[.pointer (some ⟨g, 0, none⟩), .pointer (some ⟨p, 0, none⟩), .int .i64 (x.n + 1), .int .i64 0, .agg #[.string kids[j].tag, .string kids[j].txt, .string kids[j].key, .slice kids[j].sa.A kids[j].sa.n kids[j].sa.c, .slice kids[j].sk.A kids[j].sk.n kids[j].sk.c]] wz (BuiltC wz B g p xj vj rj (buildP xj.d (x.n + 1) 0 (er kids[j])))) := Lib.hid (fun wz hz => IH.out kids[j] (List.getElem_mem hkl2) (x.n + 1) 0 wz B C g p xj vj rj hCB HWj.out (by omega) (by have := CL.out; omega) (HLj.out.dc.below hz) (HLj.out.lg.below hz) (((KS.out _ (List.getElem_mem hkl2)).later bjw hCB).later hz (by omega)) (F5.out j hkl2))
            have KN := Lib.hid (fun h0 => kids_next (d := xj.d) (p := x.n + 1) hke h0)
            have KB := Lib.hid (fun h0 => kids_bad (d := xj.d) (p := x.n + 1) hke h0)
            have BK := Lib.hid (build_keep (er kids[j]) xj.d (x.n + 1) 0)
            have BKL := Lib.hid (build_len (er kids[j]) xj.d (x.n + 1) 0)
            rw [hee] at KN KB
            obtain ⟨cj, hcj⟩ : ∃ cj, countP (er kids[j]) = cj := ⟨_, rfl⟩
            rw [hcj] at hct hpos BK BKL
            generalize buildP xj.d (x.n + 1) 0 (er kids[j]) = rn at CK KN KB BK BKL
            have HCT := Lib.hid hct
            have hcj1000 : cj ≤ 1000 := by have := CL.out; omega
            clear hcj hee hct
            generalize kids[j] = d at g0 g1 g2 g3 g4 CK
            go_upto_region 12 with fail
            have NA : Hid (TB (wr.alloc (.cells #[.string d.tag, .string d.txt, .string d.key, .slice d.sa.A d.sa.n d.sa.c, .slice d.sk.A d.sk.n d.sk.c] 26)) wr.heap.size d) := Lib.hid (TB.new wr d)
            have BA : Hid (Below wr.heap.size wr (wr.alloc (.cells #[.string d.tag, .string d.txt, .string d.key, .slice d.sa.A d.sa.n d.sa.c, .slice d.sk.A d.sk.n d.sk.c] 26))) := Lib.hid ((Below.refl _ _).alloc (Nat.le_refl _) _)
            generalize wr.alloc (.cells #[.string d.tag, .string d.txt, .string d.key, .slice d.sa.A d.sa.n d.sa.c, .slice d.sk.A d.sk.n d.sk.c] 26) = wa at NA BA ⊢
            clear g0 g1 g2 g3 g4 bjw
            have a0 := NA.out.c0; have a1 := NA.out.c1; have a2 := NA.out.c2; have a3 := NA.out.c3; have a4 := NA.out.c4
            have LDa := Lib.hid (LDid.below HLj.out BA.out)
            go_wp2_with fail
            refine (CK.out wa BA.out).mono ?_
            rintro e w5 ⟨x5, vd5, rs5, rfl, ld5, hx5, hm5⟩
            have LD5 := Lib.hid (LDid.trans LDa.out ld5)
            have HX5 := Lib.hid hx5
            have HM5 := Lib.hid hm5
            have hn5 : x5.n ≤ xj.n + cj := by have h1 := congrArg D.n hx5; have h2 := BK.out.2.2.2; rw [← h1] at h2; exact h2
            have W5 : Hid (WF x5.d) := Lib.hid (by rw [hx5]; exact BK.out.1 HWj.out)
            have hl5 : rs5.length ≤ rj.length + 3 * cj := by have h1 := congrArg List.length hm5; have h2 := BKL.out; simp at h1; omega
            clear ld5 hx5 hm5 a0 a1 a2 a3 a4 HLj LDa NA BA
            by_cases hc0 : rn.err = 0
            · have KN2 := Lib.hid (KN.out hc0)
              have he : errV rn.err = .nilIface := by rw [hc0]; exact errV0
              rw [he, if_pos hc0]
              clear KN KB
              go_wp2_with fail
              go_roundw
              case rel =>
                refine ⟨j + 1, x5, vd5, rs5, dn ++ rn.done, by omega, by go_num, by rw [HCT.out]; simp; omega, by rw [HCT.out]; omega, LD5, W5, Lib.hid (by rw [HM5.out, HMj.out]; simp [List.append_assoc]), Lib.hid ?_⟩
                rw [HBj.out, KN2.out, HX5.out, ← on_assoc]
                rfl
              case measure => simp [intOf]; omega
            · have KB2 := Lib.hid (KB.out hc0)
              have HC0 := Lib.hid hc0
              have he : errV rn.err = .iface 41 (.int .i64 rn.err) := by unfold errV; rw [if_neg hc0]
              rw [he, if_neg hc0]
              clear KN KB hc0
              go_wp2_with fail
              go_ret2
              rw [BE.out ⟨dn ++ rn.done, rn.err, rn.d⟩ (by rw [HBj.out, KB2.out]; rfl)]
              exact ⟨x5, vd5, rs5, by unfold Ran.on; rw [if_neg HC0.out, he]; rfl, LD5.out, HX5.out, by rw [HM5.out, HMj.out]; simp [Ran.on, List.append_assoc]⟩
          · obtain rfl : j = n2 := by omega
            go_wp2_with fail
            go_ret2
            have h1 := HBj.out
            rw [List.drop_eq_nil_of_le (by have := KL.out; rw [erL_map]; simp; omega), buildL] at h1
            rw [BE.out ⟨dn, 0, xj.d⟩ (by rw [h1]; unfold Ran.on; simp)]
            exact ⟨xj, vj, rj, by unfold Ran.on; rw [if_pos rfl, errV0]; rfl, HLj.out, rfl, HMj.out⟩

/-! ### Build -/
def BPost (w : World) (B g p : Nat) (x : Dx) (vd : Value) (rs : List RR) (par bef : Int) (t : PT) (e : Ending) (w' : World) : Prop :=
    (mayP t = false ∧ e = .returned (.tuple #[.int .i64 0, .iface 41 (.int .i64 1)]) ∧ Below w.heap.size w w') ∨
    (mayP t = true ∧ ∃ x' vd' rs', e = .returned (.tuple #[.int .i64 (idP x.d par bef t), errV (buildP x.d par bef t).err]) ∧ LDid w B g p x vd x' vd' rs' w' ∧ x'.d = (buildP x.d par bef t).d ∧ rs'.map (·.r) = rs.map (·.r) ++ (buildP x.d par bef t).done)
set_option maxHeartbeats 4000000 in
theorem build_post (t : TV) (w : World) (B C g p : Nat) (x : Dx) (vd : Value) (rs : List RR) (par bef : Int) (hCB : C ≤ B) (hwf : WF x.d) (hxn : x.n ≤ 50000) (hrs : rs.length + 3 * countP (er t) ≤ 900) (hd : Dc w B p x) (hl : Lg w B g p vd rs) (ht : TOk w C t) (hfew : fewP (er t) = true) :
    Calls Tryz.prog 9 #[.pointer (some ⟨g, 0, none⟩), .pointer (some ⟨p, 0, none⟩), .int .i64 par, .int .i64 bef, .agg #[.string t.tag, .string t.txt, .string t.key, .slice t.sa.A t.sa.n t.sa.c, .slice t.sk.A t.sk.n t.sk.c]] w (BPost w B g p x vd rs par bef (er t)) := by
  have hBw : B ≤ w.heap.size := by have := hd.base; have := hd.lt (.inl rfl : foot p x p); omega
  have hTW : TOk w w.heap.size t := ht.more (by omega)
  have hcp : countP (er t) ≤ 300 := by omega
  have HDc := Lib.hid hd
  have HLg := Lib.hid hl
  have HWF := Lib.hid hwf
  have HT := Lib.hid ht
  have HF := Lib.hid hfew
  have HTW := Lib.hid hTW
  have B1 : Hid (Below w.heap.size w (w.alloc (.cells #[.string t.tag, .string t.txt, .string t.key, .slice t.sa.A t.sa.n t.sa.c, .slice t.sk.A t.sk.n t.sk.c] 26))) := Lib.hid ((Below.refl _ _).alloc (Nat.le_refl _) _)
  have N1 : Hid (TB (w.alloc (.cells #[.string t.tag, .string t.txt, .string t.key, .slice t.sa.A t.sa.n t.sa.c, .slice t.sk.A t.sk.n t.sk.c] 26)) w.heap.size t) := Lib.hid (TB.new w t)
  obtain ⟨bm, hbm⟩ : ∃ b, mayP (er t) = b := ⟨_, rfl⟩
  have HBM := Lib.hid hbm
  have CM : Hid (∀ w9, Below w.heap.size w w9 → Calls Tryz.prog 21 #[.agg #[.string t.tag, .string t.txt, .string t.key, .slice t.sa.A t.sa.n t.sa.c, .slice t.sk.A t.sk.n t.sk.c]] w9 fun e w' => e = .returned (.bool bm) ∧ Below w9.heap.size w9 w') := Lib.hid (fun w9 h9 => by have := may_c t w9 (hTW.on h9) hfew (by omega); rw [hbm] at this; exact this)
  clear hd hl hwf ht hfew hTW hbm
  go_enter Tryz.func9, Tryz.ntmps9
  go_upto_region 1 with fail
  generalize w.alloc (.cells #[.string t.tag, .string t.txt, .string t.key, .slice t.sa.A t.sa.n t.sa.c, .slice t.sk.A t.sk.n t.sk.c] 26) = W at B1 N1 ⊢
  have a0 := N1.out.c0; have a1 := N1.out.c1; have a2 := N1.out.c2; have a3 := N1.out.c3; have a4 := N1.out.c4
  go_wp2_with fail
  refine (CM.out W B1.out).mono ?_
  rintro e w2 ⟨rfl, b2⟩
  have B2 := Lib.hid (B1.out.trans (b2.mono B1.out.size))
  have N2 := Lib.hid (N1.out.below b2 N1.out.lt)
  clear b2 a0 a1 a2 a3 a4 B1 N1
  cases bm with
  | false =>
    go_wp2_with fail
    go_ret2
    exact .inl ⟨HBM.out, rfl, B2.out⟩
  | true =>
    have a0 := N2.out.c0; have a1 := N2.out.c1; have a2 := N2.out.c2; have a3 := N2.out.c3; have a4 := N2.out.c4
    go_wp2_with fail
    refine (build_any t par bef w2 B C g p x vd rs hCB HWF.out (by omega) (by omega) (HDc.out.below B2.out) (HLg.out.below B2.out) (HT.out.later B2.out (by omega)) HF.out).mono ?_
    rintro e w5 ⟨x5, vd5, rs5, rfl, ld5, hx5, hm5⟩
    have LD5 := Lib.hid (LDid.trans (LDid.same HDc.out HLg.out B2.out) ld5)
    have HX5 := Lib.hid hx5
    have HM5 := Lib.hid hm5
    clear ld5 hx5 hm5 a0 a1 a2 a3 a4
    have HI : Hid ((if (buildP x.d par bef (er t)).err = 0 then x.n + 1 else 0) = idP x.d par bef (er t)) := Lib.hid rfl
    rw [HI.out]
    obtain ⟨ev, hev⟩ : ∃ ev, errV (buildP x.d par bef (er t)).err = ev := ⟨_, rfl⟩
    have HEV := Lib.hid hev
    rw [hev]
    clear hev
    go_wp2_with fail
    go_ret2
    exact .inr ⟨HBM.out, x5, vd5, rs5, by rw [HEV.out]; rfl, LD5.out, HX5.out, HM5.out⟩
theorem build_c : BuildC := fun t w B C g p x vd rs par bef hCB hwf hxn hrs hd hl ht hfew => build_post t w B C g p x vd rs par bef hCB hwf hxn hrs hd hl ht hfew
end Go.Proofs.YtkagaobelhpojaaGreat.P8
