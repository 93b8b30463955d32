/- The reference's Build: the changes of a tree, one behind the other, up to the first that fails. No condition but those stated. -/
import Derived.Deep.Cut
import Derived.Test.YtkagaobelhpojaaGreatM18
import Derived.Test.YtkagaobelhpojaaGreatM28
import Derived.Test.YtkagaobelhpojaaGreatM31
set_option linter.unusedVariables false
set_option linter.unusedSimpArgs false
namespace Go.Proofs.YtkagaobelhpojaaGreat.P8
open Go.RowKit Kd P4 P5 P7

theorem rdid_own {w w' : World} {B C q : Nat} {y y' : Rx} {v : Value} {m : List RR} (hy : Rf w B q y) (k : Rdid w B q y y' w') (h : kR.Own w C v m) : kR.Own w' C v m := h.but k.but (fun i hi e => by
  subst e
  obtain ⟨d, hd⟩ := h.ty hi
  exact heap_ne hd hy.blk (by decide) rfl)
def RbuiltC (w : World) (B C q : Nat) (y : Rx) (r : Ran) (e : Ending) (w' : World) : Prop :=
  ∃ (A : Option Addr) (n c : Nat) (y' : Rx) (ms : List RR), e = .returned (.tuple #[.slice A n c, .int .i64 (if r.err = 0 then y.n + 1 else 0), .int .i64 r.err]) ∧ Rdid w B q y y' w' ∧ y'.d = r.d ∧ kR.Own w' w.heap.size (.slice A n c) ms ∧ ms.map (·.r) = r.done ∧ ∀ a ∈ ms, RecIn w' C a
theorem rdid_tb {w w' : World} {B q s : Nat} {y y' : Rx} {t : TV} (hy : Rf w B q y) (k : Rdid w B q y y' w') (h : TB w s t) : TB w' s t := (k.but.block s h.lt (fun e => by subst e; exact heap_ne hy.blk h (by decide) rfl)).trans h
/-- a slice of changes of one's own has turned: the reference's document is as it was -/
theorem rdid_rec {w w5 w8 : World} {B q : Nat} {y y5 : Rx} {v : Value} {ms : List RR} (h : Rdid w B q y y5 w5) (ho : kR.Own w5 w.heap.size v ms) (hb : But (fun i => v.ownBlock = some i) w5 w8) : Rdid w B q y y5 w8 := by
  refine ⟨h.rf.but hb (fun i hi e => ?_) (rec_noA ho), h.but.trans hb (fun i hi e => ?_), h.ft⟩
  · obtain ⟨d, hd⟩ := ho.ty e
    obtain ⟨c, t, h3, h4⟩ := P7.Rf.ty h.rf hi
    rcases h4 with rfl | rfl | rfl <;> exact heap_ne hd h3 (by decide) rfl
  · have := (ho.lt e).1; omega
/-- the first loop: the tree's own changes -/
def Loop1 (w : World) (B C q : Nat) (y : Rx) (t : TV) (A12 : Option Addr) (n12 c12 : Nat) (Ls : List RR) (s13 s14 : Value) (wr : World) : Prop :=
  ∃ (k : Nat) (yk : Rx) (A13 : Option Addr) (n13 c13 : Nat), k ≤ n12 ∧ s14 = .int .i64 k ∧ s13 = .slice A13 n13 c13 ∧ yk.n ≤ y.n + k ∧ Hid (Rdid w B q y yk wr) ∧ Hid (WF yk.d) ∧ Hid (kR.Own wr w.heap.size (.slice A13 n13 c13) (Ls.take k)) ∧ Hid (kR.Own wr w.heap.size (.slice A12 n12 c12) Ls) ∧ Hid (Apart (.slice A13 n13 c13) (.slice A12 n12 c12)) ∧
    Hid (∀ a ∈ Ls, RecIn wr C a) ∧ Hid (runR y.d (Ls.map (·.r)) = (⟨(Ls.map (·.r)).take k, 0, yk.d⟩ : Ran).on (runR yk.d ((Ls.map (·.r)).drop k))) ∧ Hid (TB wr w.heap.size t)
/-- the second: its children -/
def Loop2 (w : World) (B C q : Nat) (y : Rx) (t : TV) (d1 : D) (head : List Rc) (L : List PT) (n2 : Nat) (s13 s16 : Value) (wr : World) : Prop :=
  ∃ (k : Nat) (yk : Rx) (A13 : Option Addr) (n13 c13 : Nat) (ms : List RR) (dn : List Rc), k ≤ n2 ∧ s16 = .int .i64 k ∧ s13 = .slice A13 n13 c13 ∧ yk.n ≤ y.n + 1 + countL (L.take k) ∧ Hid (Rdid w B q y yk wr) ∧ Hid (WF yk.d) ∧ Hid (kR.Own wr w.heap.size (.slice A13 n13 c13) ms) ∧ Hid (ms.map (·.r) = head ++ dn) ∧ Hid (∀ a ∈ ms, RecIn wr C a) ∧ ms.length ≤ 3 + 3 * countL (L.take k) ∧
    Hid (buildL d1 (y.n + 1) L = (⟨dn, 0, yk.d⟩ : Ran).on (buildL yk.d (y.n + 1) (L.drop k))) ∧ Hid (TB wr w.heap.size t)
set_option maxRecDepth 100000 in
set_option maxHeartbeats 40000000 in
theorem rbuild8_any : ∀ (t : TV) (par bef : Int) (w : World) (B C q : Nat) (y : Rx), C ≤ B → WF y.d → y.n + countP (er t) ≤ 90000 → Rf w B q y → TOk w C t → fewP (er t) = true → countP (er t) ≤ 300 →
    Calls Tryz.prog 12 #[.pointer (some ⟨q, 0, none⟩), .int .i64 par, .int .i64 bef, .agg #[.string t.tag, .string t.txt, .string t.key, .slice t.sa.A t.sa.n t.sa.c, .slice t.sk.A t.sk.n t.sk.c]] w (RbuiltC w B C q y (buildP y.d par bef (er t))) := by
  intro t
  induction t using TV.ind with
  | h tag txt key sa attrs sk kids ih =>
    obtain ⟨A, n, c⟩ := sa
    obtain ⟨A2, n2, c2⟩ := sk
    intro par bef w B C q y hCB hwf hyn hy ht hfew hcnt
    have al : attrs.length = n := ht.al
    have ac : n ≤ c := ht.ac
    have az : A = none → c = 0 := ht.az
    have AH : Hid (kA.Holds w C A attrs) := Lib.hid ht.ah
    have KL : Hid (kids.length = n2) := Lib.hid ht.kl
    have KH : Hid (kT.Holds w C A2 kids) := Lib.hid ht.kh
    have KS : Hid (∀ k ∈ kids, TOk w C k) := Lib.hid ht.ks
    rw [er, fewP] at hfew
    simp only [Bool.and_eq_true, decide_eq_true_eq] at hfew
    obtain ⟨⟨⟨⟨f1, f2⟩, f3⟩, f4⟩, f5⟩ := hfew
    obtain ⟨hwfa, h20⟩ := few_wf f4
    have F5 : Hid (∀ k (hk : k < kids.length), fewP (er kids[k]) = true) := Lib.hid (fun k hk => by
      have hk' : k < (erL kids).length := by rw [erL_map]; simpa using hk
      have := fewL_at hk' f5
      simpa [erL_map] using this)
    have CL : Hid (countL (erL kids) ≤ 300 ∧ True) := Lib.hid ⟨by rw [er, countP] at hcnt; omega, trivial⟩
    have CL : Hid (countL (erL kids) ≤ 300) := Lib.hid CL.out.1
    have hyn2 : y.n + 1 + countL (erL kids) ≤ 90000 := by rw [er, countP] at hyn; simp at hyn; omega
    have hn20 : n ≤ 20 := by omega
    have hle : n2 ≤ 300 := by have h1 := len_le_count (erL kids); rw [erL_map, List.length_map] at h1; have h2 := KL.out; have h3 := CL.out; rw [erL_map] at h3; omega
    have hBw : B ≤ w.heap.size := by have := hy.base; have := hy.lt (.inl rfl : rfoot q y q); omega
    have hy0 : 1 ≤ y.n := hwf.n0
    have m1 : tag.size ≤ maxLen := by unfold maxLen; omega
    have m2 : txt.size ≤ maxLen := by unfold maxLen; omega
    have m3 : key.size ≤ maxLen := by unfold maxLen; omega
    have HY := Lib.hid hy
    have HWF := Lib.hid hwf
    have IH := Lib.hid ih
    have AL := Lib.hid al
    have AZ := Lib.hid az
    have HWA := Lib.hid hwfa
    have B1 : Hid (Below w.heap.size w (w.alloc (.cells #[.string tag, .string txt, .string key, .slice A n c, .slice A2 n2 c2] 26))) := Lib.hid ((Below.refl _ _).alloc (Nat.le_refl _) _)
    have N1 : Hid (TB (w.alloc (.cells #[.string tag, .string txt, .string key, .slice A n c, .slice A2 n2 c2] 26)) w.heap.size (.mk tag txt key ⟨A, n, c⟩ attrs ⟨A2, n2, c2⟩ kids)) := Lib.hid (TB.new w (.mk tag txt key ⟨A, n, c⟩ attrs ⟨A2, n2, c2⟩ kids))
    have RI1 : Hid (∀ w9, Below w.heap.size w w9 → ∀ a ∈ [(⟨rMake (y.n + 1) (er (.mk tag txt key ⟨A, n, c⟩ attrs ⟨A2, n2, c2⟩ kids)), ⟨none, 0, 0⟩⟩ : RR), ⟨rPut (y.n + 1) par bef, ⟨none, 0, 0⟩⟩], RecIn w9 C a) := Lib.hid (fun w9 _ a ha => by
      simp only [List.mem_cons, List.not_mem_nil, or_false] at ha
      rcases ha with rfl | rfl
      · exact ⟨rfl, by simp, Nat.le_refl _, fun _ => rfl, fun a h => absurd h (by simp [rMake]), Kind.Holds.nil _ _ _, by rw [er]; exact m1, by rw [er]; exact m2, by rw [er]; exact m3⟩
      · exact ⟨rfl, by simp, Nat.le_refl _, fun _ => rfl, fun a h => absurd h (by simp [rPut]), Kind.Holds.nil _ _ _, size_nil, size_nil, size_nil⟩)
    have RI4 : Hid (∀ w9, Below w.heap.size w w9 → RecIn w9 C (⟨rAttrs (y.n + 1) attrs, ⟨A, n, c⟩⟩ : RR)) := Lib.hid (fun w9 h => ⟨AL.out, by show n ≤ 1000; omega, ac, AZ.out, HWA.out, AH.out.below h (by omega), size_nil, size_nil, size_nil⟩)
    clear hy hwf ih al az hwfa ht f4 f5 hcnt hyn f1 f2 f3 h20
    show Calls Tryz.prog 12 #[.pointer (some ⟨q, 0, none⟩), .int .i64 par, .int .i64 bef, .agg #[.string tag, .string txt, .string key, .slice A n c, .slice A2 n2 c2]] w _
    go_enter Tryz.func12, Tryz.ntmps12
    go_upto_region 1 with fail
    generalize w.alloc (.cells #[.string tag, .string txt, .string key, .slice A n c, .slice A2 n2 c2] 26) = W at B1 N1 ⊢
    have H1 := Lib.hid (HY.out.below B1.out)
    have y1 := H1.out.c1
    have a0 : W.cell? ⟨w.heap.size, 0, none⟩ = some (.string tag) := N1.out.c0
    have a1 : W.cell? ⟨w.heap.size, 1, none⟩ = some (.string txt) := N1.out.c1
    have a2 : W.cell? ⟨w.heap.size, 2, none⟩ = some (.string key) := N1.out.c2
    go_upto_region 3 with fail
    have B2 : Hid (Below w.heap.size w (W.alloc (.cells #[.int .i64 1, .int .i64 (y.n + 1), .int .i64 0, .int .i64 0, .string tag, .string txt, .string key, .slice none 0 0, .int .i64 2, .int .i64 (y.n + 1), .int .i64 par, .int .i64 bef, .string ⟨#[]⟩, .string ⟨#[]⟩, .string ⟨#[]⟩, .slice none 0 0] 57))) := Lib.hid (B1.out.alloc B1.out.size _)
    have N2 : Hid (TB (W.alloc (.cells #[.int .i64 1, .int .i64 (y.n + 1), .int .i64 0, .int .i64 0, .string tag, .string txt, .string key, .slice none 0 0, .int .i64 2, .int .i64 (y.n + 1), .int .i64 par, .int .i64 bef, .string ⟨#[]⟩, .string ⟨#[]⟩, .string ⟨#[]⟩, .slice none 0 0] 57)) w.heap.size (.mk tag txt key ⟨A, n, c⟩ attrs ⟨A2, n2, c2⟩ kids)) := Lib.hid (heap_up N1.out)
    have O2 : Hid (kR.Own (W.alloc (.cells #[.int .i64 1, .int .i64 (y.n + 1), .int .i64 0, .int .i64 0, .string tag, .string txt, .string key, .slice none 0 0, .int .i64 2, .int .i64 (y.n + 1), .int .i64 par, .int .i64 bef, .string ⟨#[]⟩, .string ⟨#[]⟩, .string ⟨#[]⟩, .slice none 0 0] 57)) w.heap.size (.slice (some ⟨W.heap.size, 0, none⟩) 2 2) [(⟨rMake (y.n + 1) (er (.mk tag txt key ⟨A, n, c⟩ attrs ⟨A2, n2, c2⟩ kids)), ⟨none, 0, 0⟩⟩ : RR), ⟨rPut (y.n + 1) par bef, ⟨none, 0, 0⟩⟩]) := Lib.hid (Kind.own_mk (K := kR) rfl B1.out.size (heap_alloc_new W _) (Nat.le_refl _) (by simp [maxLen]) rfl rfl)
    generalize W.alloc (.cells #[.int .i64 1, .int .i64 (y.n + 1), .int .i64 0, .int .i64 0, .string tag, .string txt, .string key, .slice none 0 0, .int .i64 2, .int .i64 (y.n + 1), .int .i64 par, .int .i64 bef, .string ⟨#[]⟩, .string ⟨#[]⟩, .string ⟨#[]⟩, .slice none 0 0] 57) = W2 at B2 N2 O2 ⊢
    generalize W.heap.size = g2 at O2 ⊢
    clear y1 a0 a1 a2 B1 N1 H1
    have a3 : W2.cell? ⟨w.heap.size, 3, none⟩ = some (.slice A n c) := N2.out.c3
    by_cases hn0 : n = 0
    · have hat : attrs = [] := by have := AL.out; rw [hn0] at this; exact List.length_eq_zero_iff.1 this
      have q1 : decide ((0 : Int) < (n : Int)) = false := by simp; omega
      have q2 : decide (0 < n) = false := by simp; omega
      have HLs : Hid (([(⟨rMake (y.n + 1) (er (.mk tag txt key ⟨A, n, c⟩ attrs ⟨A2, n2, c2⟩ kids)), ⟨none, 0, 0⟩⟩ : RR), ⟨rPut (y.n + 1) par bef, ⟨none, 0, 0⟩⟩]).map (·.r) = headR (y.n + 1) par bef (er (.mk tag txt key ⟨A, n, c⟩ attrs ⟨A2, n2, c2⟩ kids))) := Lib.hid (by rw [er]; unfold headR; rw [show (PT.mk tag txt key attrs (erL kids)).attrs = attrs from rfl, hat]; rfl)
      have RI3 : Hid (∀ a ∈ [(⟨rMake (y.n + 1) (er (.mk tag txt key ⟨A, n, c⟩ attrs ⟨A2, n2, c2⟩ kids)), ⟨none, 0, 0⟩⟩ : RR), ⟨rPut (y.n + 1) par bef, ⟨none, 0, 0⟩⟩], RecIn W2 C a) := Lib.hid (RI1.out W2 B2.out)
      have O3 := O2
      have B3 := B2
      have N3 := N2
      generalize Value.slice (some ⟨g2, 0, none⟩) 2 2 = v12 at O3 ⊢
      obtain ⟨A12, n12, c12, rfl, hxa, hxb, hxc, hxd, hxe⟩ := own_r O3.out
      have hn12 : n12 ≤ 3 := by rw [← hxa]; simp
      clear hxa hxb hxc hxd hxe
      obtain ⟨Ls, hLs⟩ : ∃ Ls, [(⟨rMake (y.n + 1) (er (.mk tag txt key ⟨A, n, c⟩ attrs ⟨A2, n2, c2⟩ kids)), ⟨none, 0, 0⟩⟩ : RR), ⟨rPut (y.n + 1) par bef, ⟨none, 0, 0⟩⟩] = Ls := ⟨_, rfl⟩
      rw [hLs] at O3 HLs RI3
      clear hLs hat O2 B2 N2 RI1 RI4 hn0
      go_wp2_with fail
      go_loopw [13, 14] (fun s13 s14 wr => Loop1 w B C q y (.mk tag txt key ⟨A, n, c⟩ attrs ⟨A2, n2, c2⟩ kids) A12 n12 c12 Ls s13 s14 wr) (fun _ s14 _ => n12 - (intOf s14).toNat)
      case atStart => exact ⟨0, y, none, 0, 0, by omega, rfl, rfl, by omega, Lib.hid (Rdid.below_ HY.out B3.out), HWF, Lib.hid (Kind.Own.nil _ _ _), O3, Lib.hid (fun i hi => by cases hi), RI3, Lib.hid (run_start _ _), N3⟩
      case round =>
        obtain ⟨k, yk, A13, n13, c13, hk, rfl, rfl, hkn, HR, HWk, HO13, HO12, HAp, HRI, HRun, HNT⟩ := hrel
        by_cases hkl : k < n12
        · obtain ⟨_, _, _, hv, hl12, _, _, _, hh12⟩ := own_r HO12.out
          injection hv with e1 e2 e3
          subst e1
          have hkL : k < (Ls).length := by omega
          obtain ⟨b, o, hA12, hb, g0, g1, g2, g3, g4, g5, g6, g7⟩ := cell_of_recs hh12 hkL
          subst hA12
          have hdr := Lib.hid (HRI.out _ (List.getElem_mem hkL))
          have hkM : k < ((Ls).map (·.r)).length := by simpa using hkL
          have hrk : ((Ls).map (·.r))[k] = (Ls)[k].r := by simp
          have RN := Lib.hid (fun h0 => run_next hkM HRun.out h0)
          have RBd := Lib.hid (fun h0 => run_bad hkM HRun.out h0)
          have TK : Hid ((Ls).take (k + 1) = (Ls).take k ++ [(Ls)[k]]) := Lib.hid (by rw [List.take_add_one, List.getElem?_eq_getElem hkL]; rfl)
          rw [hrk] at RN RBd
          clear hrk hkM e2 e3 hl12 hh12
          obtain ⟨d, hd⟩ : ∃ d, (Ls)[k] = d := ⟨_, rfl⟩
          rw [hd] at g0 g1 g2 g3 g4 g5 g6 g7 hdr RN RBd TK
          have HDD := Lib.hid hd
          clear hd
          obtain ⟨cd, hcd⟩ : ∃ c, (applyD yk.d d.r).1 = c := ⟨_, rfl⟩
          rw [hcd] at RN RBd
          have HCD := Lib.hid hcd
          clear hcd
          have hbw : B ≤ wr.heap.size := by have := HR.out.but.size; omega
          go_wp2_with fail
          refine (rapply_c d.r d.va.A d.va.n d.va.c wr HCD.out HWk.out (by omega) (hdr.out.arg (by omega)) HR.out.rf).mono ?_
          rintro e w5 ⟨rfl, y5, d5, hy5⟩
          have R5 := Lib.hid (HR.out.trans d5)
          have O13 := Lib.hid (rdid_own HR.out.rf d5 HO13.out)
          have O12 := Lib.hid (rdid_own HR.out.rf d5 HO12.out)
          have T5 := Lib.hid (rdid_tb HR.out.rf d5 HNT.out)
          have bb5 := d5.to_below HR.out.rf
          have RI5 : Hid (∀ a ∈ Ls, RecIn w5 C a) := Lib.hid (fun a ha => (HRI.out a ha).later bb5 hCB)
          have HY5 := Lib.hid hy5
          have hn5 : y5.n ≤ y.n + k + 1 := by have h1 := congrArg D.n hy5; have h2 := (apply_n yk.d d.r).2; rw [← h1] at h2; have h3 : y5.n ≤ yk.n + 1 := h2; omega
          have W5 : Hid (WF y5.d) := Lib.hid (by rw [hy5]; exact wf_apply HWk.out _)
          have hz5 : w.heap.size ≤ w5.heap.size := R5.out.but.size
          clear d5 hy5 bb5 g0 g1 g2 g3 g4 g5 g6 g7 HR HO13 HO12 HNT HRI HRun HWk
          by_cases hc0 : cd = 0
          · subst hc0
            have RN2 := Lib.hid (RN.out rfl)
            clear RN RBd
            obtain ⟨_, _, _, hv, hl12, _, _, _, hh12⟩ := own_r O12.out
            injection hv with e1 e2 e3
            subst e1
            obtain ⟨b', o', hA12, hb', g0, g1, g2, g3, g4, g5, g6, g7⟩ := cell_of_recs hh12 hkL
            injection hA12 with hA12
            injection hA12 with e4 e5
            subst e4; subst e5
            have HDK := HDD.out
            rw [HDK] at g0 g1 g2 g3 g4 g5 g6 g7
            clear HDK e2 e3 hl12 hh12
            have hl13 : ((Ls).take k).length ≤ 3 := by rw [List.length_take]; omega
            go_wp2_with (at_builtin; refine kR.wp_app rfl _ _ rfl (v := .slice A13 n13 c13) (l := (Ls).take k) (m := [d]) (B := w.heap.size) (A := some ⟨w5.heap.size, 0, none⟩) (n := 1) (c := 1) rfl (O13.out.alloc _) rfl rfl (fun e => by cases e) (Kind.Holds.lit (heap_alloc_new _ _) rfl) (by simp; omega) (by simp; omega) ?_; intro v8 w8 hown8 hgrow8 hat8; obtain ⟨A8, n8, c8, rfl, hxa, hxb, hxc, hxd, hxe⟩ := hown8.slice; clear hxa hxb hxc hxd hxe; have O8 := Lib.hid hown8; have G8 := Lib.hid hgrow8; have AT8 := Lib.hid hat8; clear hown8 hgrow8 hat8 g0 g1 g2 g3 g4 g5 g6 g7)
            have b8 := app_but G8.out
            have R8 := Lib.hid (rdid_rec R5.out O13.out b8)
            have T8 := Lib.hid (tb_rec O13.out b8 T5.out)
            have bl8 : Below w.heap.size w5 w8 := b8.to_below (fun i _ hi => (O13.out.lt hi).1) hz5
            have RI8 : Hid (∀ a ∈ Ls, RecIn w8 C a) := Lib.hid (fun a ha => (RI5.out a ha).later bl8 (by omega))
            have OL8 : Hid (kR.Own w8 w.heap.size (.slice (some ⟨b, o, none⟩) n12 c12) (Ls)) := Lib.hid (O12.out.but b8 (fun i hi e => HAp.out i e hi))
            have AP8 : Hid (Apart (.slice A8 n8 c8) (.slice (some ⟨b, o, none⟩) n12 c12)) := Lib.hid (fun i hi e => by
              rcases AT8.out with e2 | e2
              · rw [e2] at hi; exact HAp.out i hi e
              · rw [e2] at hi
                injection hi with hi
                have := (O12.out.lt e).2
                simp at hi
                omega)
            clear b8 bl8 G8
            go_roundw
            case rel =>
              refine ⟨k + 1, y5, A8, n8, c8, by omega, by go_num, rfl, by simp; omega, R8, W5, Lib.hid (by rw [TK.out]; exact O8.out), OL8, AP8, RI8, Lib.hid (by rw [HY5.out]; exact RN2.out), T8⟩
            case measure => simp [intOf]; omega
          · have RB2 := Lib.hid (RBd.out hc0)
            have HC0 := Lib.hid hc0
            have qc : (cd != 0) = true := by simpa using hc0
            clear RN RBd hc0
            go_wp2_with fail
            go_ret3
            have e : buildP y.d par bef (er (.mk tag txt key ⟨A, n, c⟩ attrs ⟨A2, n2, c2⟩ kids)) = ⟨((Ls).map (·.r)).take k, cd, (applyD yk.d d.r).2⟩ := by
              have h1 := RB2.out
              rw [HLs.out] at h1
              rw [buildP_eq, show y.d.n = y.n from rfl, h1, if_neg HC0.out, HLs.out]
            rw [e]
            exact ⟨A13, n13, c13, y5, (Ls).take k, by rw [if_neg HC0.out]; rfl, R5.out, HY5.out, O13.out, by rw [List.map_take], fun a ha => RI5.out a (List.mem_of_mem_take ha)⟩
        · obtain rfl : n12 = k := by omega
          have hl12 : (Ls).length = n12 := by
            obtain ⟨_, _, _, hv, h1, _⟩ := own_r HO12.out
            injection hv with e1 e2 e3
            rw [h1]; exact e2.symm
          have RE := run_end (by have h1 := HRun.out; rw [show n12 = ((Ls).map (·.r)).length by rw [List.length_map, hl12]] at h1; exact h1)
          rw [HLs.out] at RE
          have HRE := Lib.hid RE
          have hn1 : yk.n ≤ y.n + 1 := by
            have h1 := (head_n y.d par bef (er (.mk tag txt key ⟨A, n, c⟩ attrs ⟨A2, n2, c2⟩ kids))).2
            rw [show y.d.n + 1 = y.n + 1 from rfl, RE] at h1
            exact h1
          have OM : Hid (kR.Own wr w.heap.size (.slice A13 n13 c13) Ls) := Lib.hid (by have h1 := HO13.out; rw [List.take_of_length_le (by omega)] at h1; exact h1)
          have hln : (Ls).length ≤ 3 := by have h1 := congrArg List.length HLs.out; have h2 := headR_size (y.n + 1) par bef (er (.mk tag txt key ⟨A, n, c⟩ attrs ⟨A2, n2, c2⟩ kids)); simp at h1; omega
          clear RE HRun HAp HO12 HO13 hl12
          go_wp2_with fail
          obtain ⟨wo, rfl⟩ : ∃ wo : World, wo = wr := ⟨_, rfl⟩
          have BE : Hid (∀ X : Ran, buildL yk.d (y.n + 1) (erL kids) = X → buildP y.d par bef (er (.mk tag txt key ⟨A, n, c⟩ attrs ⟨A2, n2, c2⟩ kids)) = (⟨headR (y.n + 1) par bef (er (.mk tag txt key ⟨A, n, c⟩ attrs ⟨A2, n2, c2⟩ kids)), 0, yk.d⟩ : Ran).on X) := Lib.hid (fun X hX => by
            rw [buildP_eq, show y.d.n = y.n from rfl, HRE.out, if_pos rfl]
            show (⟨_, 0, yk.d⟩ : Ran).on (buildL yk.d (y.n + 1) (er (.mk tag txt key ⟨A, n, c⟩ attrs ⟨A2, n2, c2⟩ kids)).kids) = _
            rw [show (er (.mk tag txt key ⟨A, n, c⟩ attrs ⟨A2, n2, c2⟩ kids)).kids = erL kids by rw [er]; rfl, hX])
          go_loopw [13, 16] (fun s13 s16 wr => Loop2 w B C q y (.mk tag txt key ⟨A, n, c⟩ attrs ⟨A2, n2, c2⟩ kids) yk.d (headR (y.n + 1) par bef (er (.mk tag txt key ⟨A, n, c⟩ attrs ⟨A2, n2, c2⟩ kids))) (erL kids) n2 s13 s16 wr) (fun _ s16 _ => n2 - (intOf s16).toNat)
          case atStart => exact ⟨0, yk, A13, n13, c13, Ls, [], by omega, rfl, rfl, by simp [countL]; omega, HR, HWk, OM, Lib.hid (by rw [HLs.out]; simp), HRI, by omega, Lib.hid (by unfold Ran.on; simp), HNT⟩
          case round =>
            obtain ⟨j, yj, A14, n14, c14, ms, dn, hj, rfl, rfl, hjn, HRj, HWj, HOj, HMj, HIj, hmsl, HBj, HTj⟩ := hrel
            have a4 : wr.cell? ⟨w.heap.size, 4, none⟩ = some (.slice A2 n2 c2) := HTj.out.c4
            by_cases hjl : j < n2
            · have hkl2 : j < kids.length := by have := KL.out; omega
              have hke : j < (erL kids).length := by rw [erL_map]; simpa using hkl2
              have hee : (erL kids)[j] = er kids[j] := by simp [erL_map]
              have hbx : B ≤ wr.heap.size := by have := HRj.out.but.size; omega
              have bjw := HRj.out.to_below HY.out
              have hct := countL_take hke
              have hcl := countL_le (erL kids) (j + 1)
              have hpos := count_pos (erL kids)[j]
              rw [hee] at hct hpos
              obtain ⟨b, o, hA2, hb, g0, g1, g2, g3, g4⟩ := cell_of_trees (KH.out.below bjw hCB) hkl2
              subst hA2
              have CK := Lib.hid (IH.out kids[j] (List.getElem_mem hkl2) (y.n + 1) 0 wr B C q yj hCB HWj.out (by have := CL.out; omega) HRj.out.rf ((KS.out _ (List.getElem_mem hkl2)).later bjw hCB) (F5.out j hkl2) (by have := CL.out; omega))
              have KN := Lib.hid (fun h0 => kids_next (d := yj.d) (p := y.n + 1) hke h0)
              have KB := Lib.hid (fun h0 => kids_bad (d := yj.d) (p := y.n + 1) hke h0)
              have BK := Lib.hid (build_keep (er kids[j]) yj.d (y.n + 1) 0)
              have BKL := Lib.hid (build_len (er kids[j]) yj.d (y.n + 1) 0)
              rw [hee] at KN KB
              have hcn : countL (erL kids) ≤ 300 := CL.out
              have hmsl3 : ms.length ≤ 1000 := by have h1 := countL_le (erL kids) j; omega
              obtain ⟨cj, hcj⟩ : ∃ cj, countP (er kids[j]) = cj := ⟨_, rfl⟩
              rw [hcj] at hct hpos BK BKL
              have hcj300 : cj ≤ 300 := by omega
              generalize buildP yj.d (y.n + 1) 0 (er kids[j]) = rj at CK KN KB BK BKL
              have HCT := Lib.hid hct
              clear hcj hee hct
              generalize kids[j] = d at g0 g1 g2 g3 g4 CK
              go_wp2_with fail
              refine CK.out.mono ?_
              rintro e w5 ⟨A5, n5, c5, y5, ms5, rfl, d5, hy5, o5, hm5, hr5⟩
              have R5 := Lib.hid (HRj.out.trans d5)
              have O14 := Lib.hid (rdid_own HRj.out.rf d5 HOj.out)
              have T5 := Lib.hid (rdid_tb HRj.out.rf d5 HTj.out)
              have bb5 := d5.to_below HRj.out.rf
              have RI5 : Hid (∀ a ∈ ms, RecIn w5 C a) := Lib.hid (fun a ha => (HIj.out a ha).later bb5 hCB)
              have RM5 := Lib.hid hr5
              have HY5 := Lib.hid hy5
              have HM5 := Lib.hid hm5
              have hn5 : y5.n ≤ yj.n + cj := by have h1 := congrArg D.n hy5; have h2 := BK.out.2.2.2; rw [← h1] at h2; exact h2
              have W5 : Hid (WF y5.d) := Lib.hid (by rw [hy5]; exact BK.out.1 HWj.out)
              have hz5 : w.heap.size ≤ w5.heap.size := R5.out.but.size
              obtain ⟨_, _, _, hv, hl5, hnc5, hcm5, hz5', hh5⟩ := own_r o5
              injection hv with e1 e2 e3
              subst e1; subst e2; subst e3
              have HL5 := Lib.hid hl5
              have HH5 := Lib.hid hh5
              have HZ5 := Lib.hid (fun e => (hz5' e).1)
              have hms5 : ms5.length ≤ 3 * cj := by have h1 := congrArg List.length hm5; have h2 := BKL.out; simp at h1; omega
              clear d5 hy5 bb5 o5 hm5 hr5 hl5 hh5 hz5' g0 g1 g2 g3 g4 HRj HOj HTj HIj bjw
              by_cases hc0 : rj.err = 0
              · have KN2 := Lib.hid (KN.out hc0)
                have HC0 := Lib.hid hc0
                have qc : (rj.err != 0) = false := by simpa using hc0
                have qi : (if rj.err = 0 then yj.n + 1 else 0) = yj.n + 1 := if_pos hc0
                clear KN KB hc0
                go_wp2_with (at_builtin; refine kR.wp_app rfl _ _ rfl (v := .slice A14 n14 c14) (l := ms) (m := ms5) (B := w.heap.size) (A := A5) (n := n5) (c := c5) rfl O14.out rfl HL5.out HZ5.out HH5.out (by have := HL5.out; omega) (by omega) ?_; intro v8 w8 hown8 hgrow8 hat8; obtain ⟨A8, n8, c8, rfl, hxa, hxb, hxc, hxd, hxe⟩ := hown8.slice; clear hxa hxb hxc hxd hxe; have O8 := Lib.hid hown8; have G8 := Lib.hid hgrow8; clear hown8 hgrow8 hat8)
                have b8 : But (fun i => (Value.slice A14 n14 c14).ownBlock = some i) w5 w8 := But.of_grown G8.out (fun i hi _ => hi)
                have R8 := Lib.hid (rdid_rec R5.out O14.out b8)
                have T8 := Lib.hid (tb_rec O14.out b8 T5.out)
                have bl8 : Below w.heap.size w5 w8 := b8.to_below (fun i _ hi => (O14.out.lt hi).1) hz5
                have RI8 : Hid (∀ a ∈ ms ++ ms5, RecIn w8 C a) := Lib.hid (fun a ha => by
                  rcases List.mem_append.1 ha with h | h
                  · exact (RI5.out a h).later bl8 (by omega)
                  · exact (RM5.out a h).later bl8 (by omega))
                clear b8 bl8 G8
                go_roundw
                case rel =>
                  refine ⟨j + 1, y5, A8, n8, c8, ms ++ ms5, dn ++ rj.done, by omega, by go_num, rfl, by rw [HCT.out]; simp; omega, R8, W5, O8, Lib.hid (by rw [List.map_append, HMj.out, HM5.out, List.append_assoc]), RI8, by rw [HCT.out, List.length_append]; omega, Lib.hid ?_, T8⟩
                  rw [HBj.out, KN2.out, HY5.out, ← on_assoc]
                  rfl
                case measure => simp [intOf]; omega
              · have KB2 := Lib.hid (KB.out hc0)
                have HC0 := Lib.hid hc0
                have qc : (rj.err != 0) = true := by simpa using hc0
                have qi : (if rj.err = 0 then yj.n + 1 else 0) = 0 := if_neg hc0
                clear KN KB hc0
                go_wp2_with (at_builtin; refine kR.wp_app rfl _ _ rfl (v := .slice A14 n14 c14) (l := ms) (m := ms5) (B := w.heap.size) (A := A5) (n := n5) (c := c5) rfl O14.out rfl HL5.out HZ5.out HH5.out (by have := HL5.out; omega) (by omega) ?_; intro v8 w8 hown8 hgrow8 hat8; obtain ⟨A8, n8, c8, rfl, hxa, hxb, hxc, hxd, hxe⟩ := hown8.slice; clear hxa hxb hxc hxd hxe; have O8 := Lib.hid hown8; have G8 := Lib.hid hgrow8; clear hown8 hgrow8 hat8)
                have b8 : But (fun i => (Value.slice A14 n14 c14).ownBlock = some i) w5 w8 := But.of_grown G8.out (fun i hi _ => hi)
                have R8 := Lib.hid (rdid_rec R5.out O14.out b8)
                have T8 := Lib.hid (tb_rec O14.out b8 T5.out)
                have bl8 : Below w.heap.size w5 w8 := b8.to_below (fun i _ hi => (O14.out.lt hi).1) hz5
                have RI8 : Hid (∀ a ∈ ms ++ ms5, RecIn w8 C a) := Lib.hid (fun a ha => by
                  rcases List.mem_append.1 ha with h | h
                  · exact (RI5.out a h).later bl8 (by omega)
                  · exact (RM5.out a h).later bl8 (by omega))
                clear b8 bl8 G8
                go_ret3
                rw [BE.out ⟨dn ++ rj.done, rj.err, rj.d⟩ (by rw [HBj.out, KB2.out]; rfl)]
                exact ⟨A8, n8, c8, y5, ms ++ ms5, by first | rfl | (rw [show ((⟨headR (y.n + 1) par bef _, 0, yk.d⟩ : Ran).on ⟨dn ++ rj.done, rj.err, rj.d⟩).err = rj.err from rfl, if_neg HC0.out]; rfl), R8.out, HY5.out, O8.out, by rw [List.map_append, HMj.out, HM5.out, List.append_assoc]; rfl, RI8.out⟩
            · obtain rfl : j = n2 := by omega
              go_wp2_with fail
              go_ret3
              have h1 := HBj.out
              rw [List.drop_eq_nil_of_le (by have := KL.out; rw [erL_map]; simp; omega), buildL] at h1
              rw [BE.out ⟨dn, 0, yj.d⟩ (by rw [h1]; unfold Ran.on; simp)]
              exact ⟨A14, n14, c14, yj, ms, by first | rfl | (rw [if_pos (by rfl)]; rfl), HRj.out, rfl, HOj.out, HMj.out, HIj.out⟩

    · have q1 : decide ((0 : Int) < (n : Int)) = true := by simp; omega
      have q2 : decide (0 < n) = true := by simp; omega
      have HLs : Hid (([(⟨rMake (y.n + 1) (er (.mk tag txt key ⟨A, n, c⟩ attrs ⟨A2, n2, c2⟩ kids)), ⟨none, 0, 0⟩⟩ : RR), ⟨rPut (y.n + 1) par bef, ⟨none, 0, 0⟩⟩] ++ [(⟨rAttrs (y.n + 1) attrs, ⟨A, n, c⟩⟩ : RR)] : List RR).map (·.r) = headR (y.n + 1) par bef (er (.mk tag txt key ⟨A, n, c⟩ attrs ⟨A2, n2, c2⟩ kids))) := Lib.hid (by
        rw [er]
        unfold headR
        rw [show (PT.mk tag txt key attrs (erL kids)).attrs = attrs from rfl, if_neg (by have := AL.out; cases attrs <;> simp_all)]
        rfl)
      go_wp2_with (at_builtin; refine kR.wp_app rfl _ _ rfl (v := .slice (some ⟨g2, 0, none⟩) 2 2) (l := [(⟨rMake (y.n + 1) (er (.mk tag txt key ⟨A, n, c⟩ attrs ⟨A2, n2, c2⟩ kids)), ⟨none, 0, 0⟩⟩ : RR), ⟨rPut (y.n + 1) par bef, ⟨none, 0, 0⟩⟩]) (m := [(⟨rAttrs (y.n + 1) attrs, ⟨A, n, c⟩⟩ : RR)]) (B := w.heap.size) (A := some ⟨W2.heap.size, 0, none⟩) (n := 1) (c := 1) rfl (O2.out.alloc _) rfl rfl (fun e => by cases e) (Kind.Holds.lit (heap_alloc_new _ _) rfl) (by simp) (by have := B2.out.size; simp; omega) ?_; intro v8 w8 hown8 hgrow8 hat8; obtain ⟨A12, n12, c12, rfl, hxa, hxb, hxc, hxd, hxe⟩ := hown8.slice; clear hxa hxb hxc hxd hxe; have b8 := app_but hgrow8; have O3 := Lib.hid hown8; have B3 : Hid (Below w.heap.size w w8) := Lib.hid (B2.out.trans (b8.to_below (fun i _ hi => (O2.out.lt hi).1) B2.out.size)); have N3 := Lib.hid (tb_rec O2.out b8 N2.out); clear hown8 hgrow8 hat8 b8)
      have RI3 : Hid (∀ a ∈ ([(⟨rMake (y.n + 1) (er (.mk tag txt key ⟨A, n, c⟩ attrs ⟨A2, n2, c2⟩ kids)), ⟨none, 0, 0⟩⟩ : RR), ⟨rPut (y.n + 1) par bef, ⟨none, 0, 0⟩⟩] ++ [(⟨rAttrs (y.n + 1) attrs, ⟨A, n, c⟩⟩ : RR)] : List RR), RecIn w8 C a) := Lib.hid (fun a ha => by
        rcases List.mem_append.1 ha with h | h
        · exact RI1.out w8 B3.out a h
        · rw [List.mem_singleton.1 h]; exact RI4.out w8 B3.out)
      obtain ⟨Ls, hLs⟩ : ∃ Ls, ([(⟨rMake (y.n + 1) (er (.mk tag txt key ⟨A, n, c⟩ attrs ⟨A2, n2, c2⟩ kids)), ⟨none, 0, 0⟩⟩ : RR), ⟨rPut (y.n + 1) par bef, ⟨none, 0, 0⟩⟩] ++ [(⟨rAttrs (y.n + 1) attrs, ⟨A, n, c⟩⟩ : RR)] : List RR) = Ls := ⟨_, rfl⟩
      rw [hLs] at O3 HLs RI3
      have hn12 : n12 ≤ 3 := by
        obtain ⟨_, _, _, hv, h1, _⟩ := own_r O3.out
        injection hv with e1 e2 e3
        have h2 := congrArg List.length hLs
        simp at h2
        omega
      clear hLs O2 B2 N2 RI1 RI4
      go_wp2_with fail
      go_loopw [13, 14] (fun s13 s14 wr => Loop1 w B C q y (.mk tag txt key ⟨A, n, c⟩ attrs ⟨A2, n2, c2⟩ kids) A12 n12 c12 Ls s13 s14 wr) (fun _ s14 _ => n12 - (intOf s14).toNat)
      case atStart => exact ⟨0, y, none, 0, 0, by omega, rfl, rfl, by omega, Lib.hid (Rdid.below_ HY.out B3.out), HWF, Lib.hid (Kind.Own.nil _ _ _), O3, Lib.hid (fun i hi => by cases hi), RI3, Lib.hid (run_start _ _), N3⟩
      case round =>
        obtain ⟨k, yk, A13, n13, c13, hk, rfl, rfl, hkn, HR, HWk, HO13, HO12, HAp, HRI, HRun, HNT⟩ := hrel
        by_cases hkl : k < n12
        · obtain ⟨_, _, _, hv, hl12, _, _, _, hh12⟩ := own_r HO12.out
          injection hv with e1 e2 e3
          subst e1
          have hkL : k < (Ls).length := by omega
          obtain ⟨b, o, hA12, hb, g0, g1, g2, g3, g4, g5, g6, g7⟩ := cell_of_recs hh12 hkL
          subst hA12
          have hdr := Lib.hid (HRI.out _ (List.getElem_mem hkL))
          have hkM : k < ((Ls).map (·.r)).length := by simpa using hkL
          have hrk : ((Ls).map (·.r))[k] = (Ls)[k].r := by simp
          have RN := Lib.hid (fun h0 => run_next hkM HRun.out h0)
          have RBd := Lib.hid (fun h0 => run_bad hkM HRun.out h0)
          have TK : Hid ((Ls).take (k + 1) = (Ls).take k ++ [(Ls)[k]]) := Lib.hid (by rw [List.take_add_one, List.getElem?_eq_getElem hkL]; rfl)
          rw [hrk] at RN RBd
          clear hrk hkM e2 e3 hl12 hh12
          obtain ⟨d, hd⟩ : ∃ d, (Ls)[k] = d := ⟨_, rfl⟩
          rw [hd] at g0 g1 g2 g3 g4 g5 g6 g7 hdr RN RBd TK
          have HDD := Lib.hid hd
          clear hd
          obtain ⟨cd, hcd⟩ : ∃ c, (applyD yk.d d.r).1 = c := ⟨_, rfl⟩
          rw [hcd] at RN RBd
          have HCD := Lib.hid hcd
          clear hcd
          have hbw : B ≤ wr.heap.size := by have := HR.out.but.size; omega
          go_wp2_with fail
          refine (rapply_c d.r d.va.A d.va.n d.va.c wr HCD.out HWk.out (by omega) (hdr.out.arg (by omega)) HR.out.rf).mono ?_
          rintro e w5 ⟨rfl, y5, d5, hy5⟩
          have R5 := Lib.hid (HR.out.trans d5)
          have O13 := Lib.hid (rdid_own HR.out.rf d5 HO13.out)
          have O12 := Lib.hid (rdid_own HR.out.rf d5 HO12.out)
          have T5 := Lib.hid (rdid_tb HR.out.rf d5 HNT.out)
          have bb5 := d5.to_below HR.out.rf
          have RI5 : Hid (∀ a ∈ Ls, RecIn w5 C a) := Lib.hid (fun a ha => (HRI.out a ha).later bb5 hCB)
          have HY5 := Lib.hid hy5
          have hn5 : y5.n ≤ y.n + k + 1 := by have h1 := congrArg D.n hy5; have h2 := (apply_n yk.d d.r).2; rw [← h1] at h2; have h3 : y5.n ≤ yk.n + 1 := h2; omega
          have W5 : Hid (WF y5.d) := Lib.hid (by rw [hy5]; exact wf_apply HWk.out _)
          have hz5 : w.heap.size ≤ w5.heap.size := R5.out.but.size
          clear d5 hy5 bb5 g0 g1 g2 g3 g4 g5 g6 g7 HR HO13 HO12 HNT HRI HRun HWk
          by_cases hc0 : cd = 0
          · subst hc0
            have RN2 := Lib.hid (RN.out rfl)
            clear RN RBd
            obtain ⟨_, _, _, hv, hl12, _, _, _, hh12⟩ := own_r O12.out
            injection hv with e1 e2 e3
            subst e1
            obtain ⟨b', o', hA12, hb', g0, g1, g2, g3, g4, g5, g6, g7⟩ := cell_of_recs hh12 hkL
            injection hA12 with hA12
            injection hA12 with e4 e5
            subst e4; subst e5
            have HDK := HDD.out
            rw [HDK] at g0 g1 g2 g3 g4 g5 g6 g7
            clear HDK e2 e3 hl12 hh12
            have hl13 : ((Ls).take k).length ≤ 3 := by rw [List.length_take]; omega
            go_wp2_with (at_builtin; refine kR.wp_app rfl _ _ rfl (v := .slice A13 n13 c13) (l := (Ls).take k) (m := [d]) (B := w.heap.size) (A := some ⟨w5.heap.size, 0, none⟩) (n := 1) (c := 1) rfl (O13.out.alloc _) rfl rfl (fun e => by cases e) (Kind.Holds.lit (heap_alloc_new _ _) rfl) (by simp; omega) (by simp; omega) ?_; intro v8 w8 hown8 hgrow8 hat8; obtain ⟨A8, n8, c8, rfl, hxa, hxb, hxc, hxd, hxe⟩ := hown8.slice; clear hxa hxb hxc hxd hxe; have O8 := Lib.hid hown8; have G8 := Lib.hid hgrow8; have AT8 := Lib.hid hat8; clear hown8 hgrow8 hat8 g0 g1 g2 g3 g4 g5 g6 g7)
            have b8 := app_but G8.out
            have R8 := Lib.hid (rdid_rec R5.out O13.out b8)
            have T8 := Lib.hid (tb_rec O13.out b8 T5.out)
            have bl8 : Below w.heap.size w5 w8 := b8.to_below (fun i _ hi => (O13.out.lt hi).1) hz5
            have RI8 : Hid (∀ a ∈ Ls, RecIn w8 C a) := Lib.hid (fun a ha => (RI5.out a ha).later bl8 (by omega))
            have OL8 : Hid (kR.Own w8 w.heap.size (.slice (some ⟨b, o, none⟩) n12 c12) (Ls)) := Lib.hid (O12.out.but b8 (fun i hi e => HAp.out i e hi))
            have AP8 : Hid (Apart (.slice A8 n8 c8) (.slice (some ⟨b, o, none⟩) n12 c12)) := Lib.hid (fun i hi e => by
              rcases AT8.out with e2 | e2
              · rw [e2] at hi; exact HAp.out i hi e
              · rw [e2] at hi
                injection hi with hi
                have := (O12.out.lt e).2
                simp at hi
                omega)
            clear b8 bl8 G8
            go_roundw
            case rel =>
              refine ⟨k + 1, y5, A8, n8, c8, by omega, by go_num, rfl, by simp; omega, R8, W5, Lib.hid (by rw [TK.out]; exact O8.out), OL8, AP8, RI8, Lib.hid (by rw [HY5.out]; exact RN2.out), T8⟩
            case measure => simp [intOf]; omega
          · have RB2 := Lib.hid (RBd.out hc0)
            have HC0 := Lib.hid hc0
            have qc : (cd != 0) = true := by simpa using hc0
            clear RN RBd hc0
            go_wp2_with fail
            go_ret3
            have e : buildP y.d par bef (er (.mk tag txt key ⟨A, n, c⟩ attrs ⟨A2, n2, c2⟩ kids)) = ⟨((Ls).map (·.r)).take k, cd, (applyD yk.d d.r).2⟩ := by
              have h1 := RB2.out
              rw [HLs.out] at h1
              rw [buildP_eq, show y.d.n = y.n from rfl, h1, if_neg HC0.out, HLs.out]
            rw [e]
            exact ⟨A13, n13, c13, y5, (Ls).take k, by rw [if_neg HC0.out]; rfl, R5.out, HY5.out, O13.out, by rw [List.map_take], fun a ha => RI5.out a (List.mem_of_mem_take ha)⟩
        · obtain rfl : n12 = k := by omega
          have hl12 : (Ls).length = n12 := by
            obtain ⟨_, _, _, hv, h1, _⟩ := own_r HO12.out
            injection hv with e1 e2 e3
            rw [h1]; exact e2.symm
          have RE := run_end (by have h1 := HRun.out; rw [show n12 = ((Ls).map (·.r)).length by rw [List.length_map, hl12]] at h1; exact h1)
          rw [HLs.out] at RE
          have HRE := Lib.hid RE
          have hn1 : yk.n ≤ y.n + 1 := by
            have h1 := (head_n y.d par bef (er (.mk tag txt key ⟨A, n, c⟩ attrs ⟨A2, n2, c2⟩ kids))).2
            rw [show y.d.n + 1 = y.n + 1 from rfl, RE] at h1
            exact h1
          have OM : Hid (kR.Own wr w.heap.size (.slice A13 n13 c13) Ls) := Lib.hid (by have h1 := HO13.out; rw [List.take_of_length_le (by omega)] at h1; exact h1)
          have hln : (Ls).length ≤ 3 := by have h1 := congrArg List.length HLs.out; have h2 := headR_size (y.n + 1) par bef (er (.mk tag txt key ⟨A, n, c⟩ attrs ⟨A2, n2, c2⟩ kids)); simp at h1; omega
          clear RE HRun HAp HO12 HO13 hl12
          go_wp2_with fail
          obtain ⟨wo, rfl⟩ : ∃ wo : World, wo = wr := ⟨_, rfl⟩
          have BE : Hid (∀ X : Ran, buildL yk.d (y.n + 1) (erL kids) = X → buildP y.d par bef (er (.mk tag txt key ⟨A, n, c⟩ attrs ⟨A2, n2, c2⟩ kids)) = (⟨headR (y.n + 1) par bef (er (.mk tag txt key ⟨A, n, c⟩ attrs ⟨A2, n2, c2⟩ kids)), 0, yk.d⟩ : Ran).on X) := Lib.hid (fun X hX => by
            rw [buildP_eq, show y.d.n = y.n from rfl, HRE.out, if_pos rfl]
            show (⟨_, 0, yk.d⟩ : Ran).on (buildL yk.d (y.n + 1) (er (.mk tag txt key ⟨A, n, c⟩ attrs ⟨A2, n2, c2⟩ kids)).kids) = _
            rw [show (er (.mk tag txt key ⟨A, n, c⟩ attrs ⟨A2, n2, c2⟩ kids)).kids = erL kids by rw [er]; rfl, hX])
          go_loopw [13, 16] (fun s13 s16 wr => Loop2 w B C q y (.mk tag txt key ⟨A, n, c⟩ attrs ⟨A2, n2, c2⟩ kids) yk.d (headR (y.n + 1) par bef (er (.mk tag txt key ⟨A, n, c⟩ attrs ⟨A2, n2, c2⟩ kids))) (erL kids) n2 s13 s16 wr) (fun _ s16 _ => n2 - (intOf s16).toNat)
          case atStart => exact ⟨0, yk, A13, n13, c13, Ls, [], by omega, rfl, rfl, by simp [countL]; omega, HR, HWk, OM, Lib.hid (by rw [HLs.out]; simp), HRI, by omega, Lib.hid (by unfold Ran.on; simp), HNT⟩
          case round =>
            obtain ⟨j, yj, A14, n14, c14, ms, dn, hj, rfl, rfl, hjn, HRj, HWj, HOj, HMj, HIj, hmsl, HBj, HTj⟩ := hrel
            have a4 : wr.cell? ⟨w.heap.size, 4, none⟩ = some (.slice A2 n2 c2) := HTj.out.c4
            by_cases hjl : j < n2
            · have hkl2 : j < kids.length := by have := KL.out; omega
              have hke : j < (erL kids).length := by rw [erL_map]; simpa using hkl2
              have hee : (erL kids)[j] = er kids[j] := by simp [erL_map]
              have hbx : B ≤ wr.heap.size := by have := HRj.out.but.size; omega
              have bjw := HRj.out.to_below HY.out
              have hct := countL_take hke
              have hcl := countL_le (erL kids) (j + 1)
              have hpos := count_pos (erL kids)[j]
              rw [hee] at hct hpos
              obtain ⟨b, o, hA2, hb, g0, g1, g2, g3, g4⟩ := cell_of_trees (KH.out.below bjw hCB) hkl2
              subst hA2
              have CK := Lib.hid (IH.out kids[j] (List.getElem_mem hkl2) (y.n + 1) 0 wr B C q yj hCB HWj.out (by have := CL.out; omega) HRj.out.rf ((KS.out _ (List.getElem_mem hkl2)).later bjw hCB) (F5.out j hkl2) (by have := CL.out; omega))
              have KN := Lib.hid (fun h0 => kids_next (d := yj.d) (p := y.n + 1) hke h0)
              have KB := Lib.hid (fun h0 => kids_bad (d := yj.d) (p := y.n + 1) hke h0)
              have BK := Lib.hid (build_keep (er kids[j]) yj.d (y.n + 1) 0)
              have BKL := Lib.hid (build_len (er kids[j]) yj.d (y.n + 1) 0)
              rw [hee] at KN KB
              have hcn : countL (erL kids) ≤ 300 := CL.out
              have hmsl3 : ms.length ≤ 1000 := by have h1 := countL_le (erL kids) j; omega
              obtain ⟨cj, hcj⟩ : ∃ cj, countP (er kids[j]) = cj := ⟨_, rfl⟩
              rw [hcj] at hct hpos BK BKL
              have hcj300 : cj ≤ 300 := by omega
              generalize buildP yj.d (y.n + 1) 0 (er kids[j]) = rj at CK KN KB BK BKL
              have HCT := Lib.hid hct
              clear hcj hee hct
              generalize kids[j] = d at g0 g1 g2 g3 g4 CK
              go_wp2_with fail
              refine CK.out.mono ?_
              rintro e w5 ⟨A5, n5, c5, y5, ms5, rfl, d5, hy5, o5, hm5, hr5⟩
              have R5 := Lib.hid (HRj.out.trans d5)
              have O14 := Lib.hid (rdid_own HRj.out.rf d5 HOj.out)
              have T5 := Lib.hid (rdid_tb HRj.out.rf d5 HTj.out)
              have bb5 := d5.to_below HRj.out.rf
              have RI5 : Hid (∀ a ∈ ms, RecIn w5 C a) := Lib.hid (fun a ha => (HIj.out a ha).later bb5 hCB)
              have RM5 := Lib.hid hr5
              have HY5 := Lib.hid hy5
              have HM5 := Lib.hid hm5
              have hn5 : y5.n ≤ yj.n + cj := by have h1 := congrArg D.n hy5; have h2 := BK.out.2.2.2; rw [← h1] at h2; exact h2
              have W5 : Hid (WF y5.d) := Lib.hid (by rw [hy5]; exact BK.out.1 HWj.out)
              have hz5 : w.heap.size ≤ w5.heap.size := R5.out.but.size
              obtain ⟨_, _, _, hv, hl5, hnc5, hcm5, hz5', hh5⟩ := own_r o5
              injection hv with e1 e2 e3
              subst e1; subst e2; subst e3
              have HL5 := Lib.hid hl5
              have HH5 := Lib.hid hh5
              have HZ5 := Lib.hid (fun e => (hz5' e).1)
              have hms5 : ms5.length ≤ 3 * cj := by have h1 := congrArg List.length hm5; have h2 := BKL.out; simp at h1; omega
              clear d5 hy5 bb5 o5 hm5 hr5 hl5 hh5 hz5' g0 g1 g2 g3 g4 HRj HOj HTj HIj bjw
              by_cases hc0 : rj.err = 0
              · have KN2 := Lib.hid (KN.out hc0)
                have HC0 := Lib.hid hc0
                have qc : (rj.err != 0) = false := by simpa using hc0
                have qi : (if rj.err = 0 then yj.n + 1 else 0) = yj.n + 1 := if_pos hc0
                clear KN KB hc0
                go_wp2_with (at_builtin; refine kR.wp_app rfl _ _ rfl (v := .slice A14 n14 c14) (l := ms) (m := ms5) (B := w.heap.size) (A := A5) (n := n5) (c := c5) rfl O14.out rfl HL5.out HZ5.out HH5.out (by have := HL5.out; omega) (by omega) ?_; intro v8 w8 hown8 hgrow8 hat8; obtain ⟨A8, n8, c8, rfl, hxa, hxb, hxc, hxd, hxe⟩ := hown8.slice; clear hxa hxb hxc hxd hxe; have O8 := Lib.hid hown8; have G8 := Lib.hid hgrow8; clear hown8 hgrow8 hat8)
                have b8 : But (fun i => (Value.slice A14 n14 c14).ownBlock = some i) w5 w8 := But.of_grown G8.out (fun i hi _ => hi)
                have R8 := Lib.hid (rdid_rec R5.out O14.out b8)
                have T8 := Lib.hid (tb_rec O14.out b8 T5.out)
                have bl8 : Below w.heap.size w5 w8 := b8.to_below (fun i _ hi => (O14.out.lt hi).1) hz5
                have RI8 : Hid (∀ a ∈ ms ++ ms5, RecIn w8 C a) := Lib.hid (fun a ha => by
                  rcases List.mem_append.1 ha with h | h
                  · exact (RI5.out a h).later bl8 (by omega)
                  · exact (RM5.out a h).later bl8 (by omega))
                clear b8 bl8 G8
                go_roundw
                case rel =>
                  refine ⟨j + 1, y5, A8, n8, c8, ms ++ ms5, dn ++ rj.done, by omega, by go_num, rfl, by rw [HCT.out]; simp; omega, R8, W5, O8, Lib.hid (by rw [List.map_append, HMj.out, HM5.out, List.append_assoc]), RI8, by rw [HCT.out, List.length_append]; omega, Lib.hid ?_, T8⟩
                  rw [HBj.out, KN2.out, HY5.out, ← on_assoc]
                  rfl
                case measure => simp [intOf]; omega
              · have KB2 := Lib.hid (KB.out hc0)
                have HC0 := Lib.hid hc0
                have qc : (rj.err != 0) = true := by simpa using hc0
                have qi : (if rj.err = 0 then yj.n + 1 else 0) = 0 := if_neg hc0
                clear KN KB hc0
                go_wp2_with (at_builtin; refine kR.wp_app rfl _ _ rfl (v := .slice A14 n14 c14) (l := ms) (m := ms5) (B := w.heap.size) (A := A5) (n := n5) (c := c5) rfl O14.out rfl HL5.out HZ5.out HH5.out (by have := HL5.out; omega) (by omega) ?_; intro v8 w8 hown8 hgrow8 hat8; obtain ⟨A8, n8, c8, rfl, hxa, hxb, hxc, hxd, hxe⟩ := hown8.slice; clear hxa hxb hxc hxd hxe; have O8 := Lib.hid hown8; have G8 := Lib.hid hgrow8; clear hown8 hgrow8 hat8)
                have b8 : But (fun i => (Value.slice A14 n14 c14).ownBlock = some i) w5 w8 := But.of_grown G8.out (fun i hi _ => hi)
                have R8 := Lib.hid (rdid_rec R5.out O14.out b8)
                have T8 := Lib.hid (tb_rec O14.out b8 T5.out)
                have bl8 : Below w.heap.size w5 w8 := b8.to_below (fun i _ hi => (O14.out.lt hi).1) hz5
                have RI8 : Hid (∀ a ∈ ms ++ ms5, RecIn w8 C a) := Lib.hid (fun a ha => by
                  rcases List.mem_append.1 ha with h | h
                  · exact (RI5.out a h).later bl8 (by omega)
                  · exact (RM5.out a h).later bl8 (by omega))
                clear b8 bl8 G8
                go_ret3
                rw [BE.out ⟨dn ++ rj.done, rj.err, rj.d⟩ (by rw [HBj.out, KB2.out]; rfl)]
                exact ⟨A8, n8, c8, y5, ms ++ ms5, by first | rfl | (rw [show ((⟨headR (y.n + 1) par bef _, 0, yk.d⟩ : Ran).on ⟨dn ++ rj.done, rj.err, rj.d⟩).err = rj.err from rfl, if_neg HC0.out]; rfl), R8.out, HY5.out, O8.out, by rw [List.map_append, HMj.out, HM5.out, List.append_assoc]; rfl, RI8.out⟩
            · obtain rfl : j = n2 := by omega
              go_wp2_with fail
              go_ret3
              have h1 := HBj.out
              rw [List.drop_eq_nil_of_le (by have := KL.out; rw [erL_map]; simp; omega), buildL] at h1
              rw [BE.out ⟨dn, 0, yj.d⟩ (by rw [h1]; unfold Ran.on; simp)]
              exact ⟨A14, n14, c14, yj, ms, by first | rfl | (rw [if_pos (by rfl)]; rfl), HRj.out, rfl, HOj.out, HMj.out, HIj.out⟩

end Go.Proofs.YtkagaobelhpojaaGreat.P8
