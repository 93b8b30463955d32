/- Changes as they lie in a slice; a log's own block, and its slice's; what a call may have turned. No condition. -/
import Derived.Test.YtkagaobelhpojaaGreatM17
import Derived.Test.YtkagaobelhpojaaGreatM29
import Derived.Test.YtkagaobelhpojaaGreatM30
set_option linter.unusedVariables false
set_option linter.unusedSimpArgs false
namespace Go.Proofs.YtkagaobelhpojaaGreat.P7
open Go.RowKit Kd P4 P5

theorem infoR : (Tryz.prog.info? 57).map (fun i => (i.zero, i.size, i.bytes)) = some (some (.agg #[.int .i64 0, .int .i64 0, .int .i64 0, .int .i64 0, .string ⟨#[]⟩, .string ⟨#[]⟩, .string ⟨#[]⟩, .slice none 0 0]), 8, 104) := by kernel_rfl
/-- a change, with the slice of its attributes -/
structure RR where
  r : Rc
  va : Sv
def RR.cells (a : RR) : List Value := [.int .i64 a.r.op, .int .i64 a.r.id, .int .i64 a.r.par, .int .i64 a.r.bef, .string a.r.tag, .string a.r.txt, .string a.r.key, .slice a.va.A a.va.n a.va.c]
def kR : Kind Tryz.prog RR where
  t := 42
  e := 57
  size := 8
  bytes := 104
  z := .agg #[.int .i64 0, .int .i64 0, .int .i64 0, .int .i64 0, .string ⟨#[]⟩, .string ⟨#[]⟩, .string ⟨#[]⟩, .slice none 0 0]
  cs := RR.cells
  ht := Tryz.underlying42
  info := info_ex infoR
  hzs := rfl
  hpos := by decide
  hbb := by decide
  len := fun _ => rfl
  one := fun a u hu => by simp [RR.cells] at hu; rcases hu with rfl | rfl | rfl | rfl | rfl | rfl | rfl | rfl <;> rfl
theorem cell_of_recs {w : World} {B : Nat} {A : Option Addr} {l : List RR} (h : kR.Holds w B A l) {k : Nat} (hk : k < l.length) :
    ∃ b o, A = some ⟨b, o, none⟩ ∧ b < B ∧ w.cell? ⟨b, o + k * 8, none⟩ = some (.int .i64 l[k].r.op) ∧ w.cell? ⟨b, o + k * 8 + 1, none⟩ = some (.int .i64 l[k].r.id) ∧
      w.cell? ⟨b, o + k * 8 + 2, none⟩ = some (.int .i64 l[k].r.par) ∧ w.cell? ⟨b, o + k * 8 + 3, none⟩ = some (.int .i64 l[k].r.bef) ∧ w.cell? ⟨b, o + k * 8 + 4, none⟩ = some (.string l[k].r.tag) ∧
      w.cell? ⟨b, o + k * 8 + 5, none⟩ = some (.string l[k].r.txt) ∧ w.cell? ⟨b, o + k * 8 + 6, none⟩ = some (.string l[k].r.key) ∧ w.cell? ⟨b, o + k * 8 + 7, none⟩ = some (.slice l[k].va.A l[k].va.n l[k].va.c) := by
  obtain ⟨b, o, rfl, hb, hc⟩ := h.at hk
  exact ⟨b, o, rfl, hb, hc 0 _ rfl, hc 1 _ rfl, hc 2 _ rfl, hc 3 _ rfl, hc 4 _ rfl, hc 5 _ rfl, hc 6 _ rfl, hc 7 _ rfl⟩
/-- a slice of one's own, as a slice that is read (nil: no cells at all) -/
theorem own_r {B : Nat} {v : Value} {w : World} {l : List RR} (h : kR.Own w B v l) : ∃ A n c, v = .slice A n c ∧ l.length = n ∧ n ≤ c ∧ c ≤ maxLen ∧ (A = none → c = 0 ∧ n = 0) ∧ kR.Holds w w.heap.size A l := by
  obtain ⟨A, n, c, hv, h1, h2, h3, h4, h5⟩ := h.slice
  exact ⟨A, n, c, hv, h1, h2, h3, fun e => by have := h4 e; omega, h5⟩
set_option maxHeartbeats 400000 in
theorem cloneRec_any (l : List RR) (A : Option Addr) (n c : Nat) (w : World) (hn : l.length = n) (hn2 : n ≤ 1000000) (hz : A = none → c = 0 ∧ n = 0) (H : kR.Holds w w.heap.size A l) :
    Calls Tryz.prog 34 #[.slice A n c] w (Cloned kR w l) := by
  cases A with
  | none =>
    obtain ⟨rfl, rfl⟩ := hz rfl
    obtain rfl : l = [] := List.length_eq_zero_iff.1 hn
    clear H hn hz
    have hq := fun w' => Lib.run_eql_slice_nil (P := Tryz.prog) w' 42 57 Option.none 0 0 0 0 Tryz.underlying42
    go_enter Tryz.func34, Tryz.ntmps34
    go_wp2
    go_ret
    exact ⟨none, 0, 0, rfl, Kind.Own.nil _ _ _, Below.refl _ _⟩
  | some a =>
    have HM := Lib.hid hn
    have HH := Lib.hid H
    clear H hn hz
    have hq := fun w' => Lib.run_eql_slice_nil (P := Tryz.prog) w' 42 57 (some a) n c 0 0 Tryz.underlying42
    go_enter Tryz.func34, Tryz.ntmps34
    go_wp2_with (at_builtin; refine kR.wp_app rfl _ _ rfl (v := .slice (some ⟨w.heap.size, 0, Option.none⟩) 0 0) (l := []) (m := l) (B := w.heap.size) rfl (Kind.Own.made kR w _ (Nat.le_refl _)) rfl HM.out (fun e => by cases e) (HH.out.on ((Below.refl _ _).alloc (Nat.le_refl _) _)) (by simp; omega) (by simp) ?_; intro v' w2 hown hgrow hat)
    go_ret
    obtain ⟨A', n', c', rfl, _⟩ := hown.slice
    exact ⟨A', n', c', rfl, hown, ((Below.refl _ _).alloc (Nat.le_refl _) _).grown hgrow (by simp) (fun k hk => by simp [Value.ownBlock] at hk; omega)⟩

/-! ### A log -/
/-- a change's attributes, as they lie in memory -/
structure RecOk (w : World) (a : RR) : Prop where
  att : AOk w a.va a.r.attrs
  few : a.va.n ≤ 1000000
/-- the log at g, of the document at p, has done the changes rs, in the slice vd -/
structure Lg (w : World) (B g p : Nat) (vd : Value) (rs : List RR) : Prop where
  blk : w.heap[g]? = some (.cells #[.pointer (some ⟨p, 0, none⟩), vd] 68 (0, 0))
  base : B ≤ g
  own : kR.Own w B vd rs
  recs : ∀ a ∈ rs, RecOk w a
def lfoot (g : Nat) (vd : Value) (k : Nat) : Prop := k = g ∨ vd.ownBlock = some k
section
variable {w w' : World} {B g p q : Nat} {vd : Value} {rs : List RR} {x x' : Dx} {y y' : Rx}
theorem Lg.lt (h : Lg w B g p vd rs) {k : Nat} (hk : lfoot g vd k) : k < w.heap.size := by
  rcases hk with rfl | hk
  · exact heap_lt h.blk
  · exact (h.own.lt hk).2
theorem Lg.ge (h : Lg w B g p vd rs) {k : Nat} (hk : lfoot g vd k) : B ≤ k := by
  rcases hk with rfl | hk
  · exact h.base
  · exact (h.own.lt hk).1
/-- a log's block, of which type it is -/
theorem Lg.ty (h : Lg w B g p vd rs) {k : Nat} (hk : lfoot g vd k) : ∃ cur t, w.heap[k]? = some (.cells cur t (0, 0)) ∧ (t = 68 ∨ t = 57) := by
  rcases hk with rfl | hk
  · exact ⟨_, _, h.blk, .inl rfl⟩
  · obtain ⟨c, hc⟩ := h.own.ty hk
    exact ⟨_, _, hc, .inr rfl⟩
theorem Lg.noA (h : Lg w B g p vd rs) : NoA w (lfoot g vd) := by
  intro k cur fr hk hc
  obtain ⟨c, t, h1, h2⟩ := h.ty hk
  rw [hc] at h1
  injection h1 with h1
  injection h1 with _ e
  subst e
  rcases h2 with h2 | h2 <;> exact absurd h2 (by decide)
theorem Lg.but {S : Nat → Prop} (h : Lg w B g p vd rs) (hb : But S w w') (hS : ∀ k, lfoot g vd k → ¬ S k) (hA : NoA w S) : Lg w' B g p vd rs :=
  ⟨(hb.block g (heap_lt h.blk) (hS g (.inl rfl))).trans h.blk, h.base, h.own.but hb (fun k hk => hS k (.inr hk)), fun a ha => ⟨(h.recs a ha).att.but hb hA, (h.recs a ha).few⟩⟩
theorem Lg.below (h : Lg w B g p vd rs) (hb : Below w.heap.size w w') : Lg w' B g p vd rs := h.but (But.of_below hb (fun _ => False)) (fun _ _ h => h) (NoA.none w)
theorem Lg.drewN (h : Lg w B g p vd rs) (n : Nat) : Lg (w.drewN n) B g p vd rs := h.below (Below_drewN (Below.refl _ _) n)
theorem Lg.base_le {B' : Nat} (h : Lg w B g p vd rs) (hB : B' ≤ B) : Lg w B' g p vd rs := ⟨h.blk, Nat.le_trans hB h.base, h.own.base_le hB, h.recs⟩
theorem Lg.c0 (h : Lg w B g p vd rs) : w.cell? ⟨g, 0, none⟩ = some (.pointer (some ⟨p, 0, none⟩)) := cell_of_row w g 0 _ _ (0, 0) h.blk
theorem Lg.c1 (h : Lg w B g p vd rs) : w.cell? ⟨g, 1, none⟩ = some vd := cell_of_row w g 1 _ _ (0, 0) h.blk
theorem Lg.frozen (h : Lg w B g p vd rs) (i : Nat) : w.frozen? ⟨g, i, none⟩ = false := by
  have := h.blk
  simp [World.frozen?, this]
/-- a log's blocks are none of a document's -/
theorem Lg.notD {B' p' : Nat} (h : Lg w B g p vd rs) (hx : Dc w B' p' x) {k : Nat} (hk : lfoot g vd k) : ¬ foot p' x k := by
  obtain ⟨c, t, h1, h2⟩ := h.ty hk
  rcases h2 with rfl | rfl <;> exact hx.other h1 (by decide) (by decide) (by decide) (by decide) (by decide)
theorem Lg.did {B' p' : Nat} (h : Lg w B g p vd rs) (hx : Dc w B' p' x) (k : Did w B' p' x x' w') : Lg w' B g p vd rs := h.but k.but (fun _ hi => h.notD hx hi) hx.noA
theorem Rf.ty {B' : Nat} (h : Rf w B' q y) {k : Nat} (hk : rfoot q y k) : ∃ cur t, w.heap[k]? = some (.cells cur t (0, 0)) ∧ (t = 75 ∨ t = 81 ∨ t = 3) := by
  rcases hk with rfl | hk | ⟨r, hr, hk⟩
  · exact ⟨_, _, h.blk, .inl rfl⟩
  · obtain ⟨c, hc⟩ := h.own.ty hk
    exact ⟨_, _, hc, .inr (.inl rfl)⟩
  · obtain ⟨c, hc⟩ := (h.nodes r hr).kids.ty hk
    exact ⟨_, _, hc, .inr (.inr rfl)⟩
/-- .. and none of a reference's -/
theorem Lg.notR {B' : Nat} (h : Lg w B g p vd rs) (hy : Rf w B' q y) {k : Nat} (hk : lfoot g vd k) : ¬ rfoot q y k := by
  intro hr
  obtain ⟨c, t, h1, h2⟩ := h.ty hk
  obtain ⟨c', t', h3, h4⟩ := Rf.ty hy hr
  rw [h1] at h3
  injection h3 with h3
  injection h3 with _ e
  subst e
  rcases h2 with h2 | h2 <;> rcases h4 with h4 | h4 | h4 <;> exact absurd (h2.symm.trans h4) (by decide)
theorem Lg.rdid {B' : Nat} (h : Lg w B g p vd rs) (hy : Rf w B' q y) (k : Rdid w B' q y y' w') : Lg w' B g p vd rs := h.but k.but (fun _ hi e => h.notR hy hi (.inl e)) (q_noA hy)
/-- what a call has done to a document, and to a log of it -/
structure LDid (w : World) (B g p : Nat) (x : Dx) (vd : Value) (x' : Dx) (vd' : Value) (rs' : List RR) (w' : World) : Prop where
  dc : Dc w' B p x'
  lg : Lg w' B g p vd' rs'
  but : But (fun k => foot p x k ∨ lfoot g vd k) w w'
  ft : ∀ k, foot p x' k → foot p x k ∨ w.heap.size ≤ k
  lf : ∀ k, vd'.ownBlock = some k → vd.ownBlock = some k ∨ w.heap.size ≤ k
variable {vd' : Value} {rs' : List RR}
theorem or_noA {S T : Nat → Prop} (h : NoA w S) (k : NoA w T) : NoA w (fun i => S i ∨ T i) := fun i c f hi => hi.elim (h i c f) (k i c f)
theorem Par.ldid (h : Par w B p q x y) (l : Lg w B g p vd rs) (k : LDid w B g p x vd x' vd' rs' w') : Par w' B p q x' y := by
  refine ⟨k.dc, h.rf.but k.but (fun i hi hf => hf.elim (fun hf => h.ap i hf hi) (fun hf => l.notR h.rf hf hi)) (or_noA h.dc.noA l.noA), fun i hi hr => ?_⟩
  rcases k.ft i hi with e | e
  · exact h.ap i e hr
  · have := h.rf.lt hr; omega
/-- a slice of the caller's own is as it was -/
theorem LDid.apart {v : Value} (k : LDid w B g p x vd x' vd' rs' w') {C : Nat} {m : List RR} (ho : kR.Own w C v m) (ha : Apart v vd) : Apart v vd' := fun i hi e => by
  rcases k.lf i e with e | e
  · exact ha i hi e
  · have := (ho.lt hi).2; omega
theorem LDid.own {v : Value} (h : Dc w B p x) (l : Lg w B g p vd rs) (k : LDid w B g p x vd x' vd' rs' w') {C : Nat} {m : List RR} (ho : kR.Own w C v m) (ha : Apart v vd) : kR.Own w' C v m :=
  ho.but k.but fun i hi e => by
    obtain ⟨d, hd⟩ := ho.ty hi
    rcases e with e | e | e
    · exact h.other hd (by decide) (by decide) (by decide) (by decide) (by decide) e
    · subst e; exact heap_ne hd l.blk (by decide) rfl
    · exact ha i hi e
theorem LDid.rec_ {r : Rc} {A : Option Addr} {n c s : Nat} (h : Dc w B p x) (l : Lg w B g p vd rs) (k : LDid w B g p x vd x' vd' rs' w') (hr : RcB w s r A n c) (hs : vd.ownBlock ≠ some s) : RcB w' s r A n c :=
  (k.but.block s hr.lt fun e => by
    rcases e with e | e | e
    · exact h.other hr (by decide) (by decide) (by decide) (by decide) (by decide) e
    · subst e; exact heap_ne hr l.blk (by decide) rfl
    · exact hs e).trans hr
theorem LDid.to_below (h : Dc w B p x) (l : Lg w B g p vd rs) (k : LDid w B g p x vd x' vd' rs' w') : Below B w w' := k.but.to_below (fun _ _ hi => hi.elim h.ge l.ge) (by have := h.base; have := h.lt (.inl rfl : foot p x p); omega)
end
end Go.Proofs.YtkagaobelhpojaaGreat.P7

/- Changes one behind the other, up to the first that fails, as a loop comes to them; a change whose attributes are read. No condition. -/
namespace Go.Proofs.YtkagaobelhpojaaGreat.P8
open Go.RowKit Kd P4 P5 P7

/-- a change whose attributes lie below C -/
structure RecIn (w : World) (C : Nat) (a : RR) : Prop where
  len : a.r.attrs.length = a.va.n
  few : a.va.n ≤ 1000
  cap : a.va.n ≤ a.va.c
  nil : a.va.A = none → a.va.c = 0
  wf : P3.Wf a.r.attrs
  holds : kA.Holds w C a.va.A a.r.attrs
  tag : a.r.tag.size ≤ maxLen
  txt : a.r.txt.size ≤ maxLen
  key : a.r.key.size ≤ maxLen
theorem RecIn.later {w w' : World} {C D : Nat} {a : RR} (h : RecIn w C a) (hb : Below D w w') (hC : C ≤ D) : RecIn w' C a := ⟨h.len, h.few, h.cap, h.nil, h.wf, h.holds.below hb hC, h.tag, h.txt, h.key⟩
theorem RecIn.arg {w : World} {C : Nat} {a : RR} (h : RecIn w C a) (hC : C ≤ w.heap.size) : ArgR w a.va.A a.va.n a.va.c a.r := ⟨⟨h.len, h.cap, h.nil, by have := h.few; omega, h.wf, h.holds.more hC⟩, h.tag, h.txt, h.key⟩
theorem on_nil (a : Ran) : (⟨a.done, 0, a.d⟩ : Ran).on ⟨[], a.err, a.d⟩ = a := by cases a; simp [Ran.on]
theorem on_assoc (a b c : Ran) : (a.on b).on c = a.on (b.on c) := by simp [Ran.on, List.append_assoc]
theorem headR_size (i p b : Int) (t : PT) : (headR i p b t).length ≤ 3 := by unfold headR; split <;> simp
/-- how far the changes have come: those up to k are done -/
theorem run_start (d : D) (L : List Rc) : runR d L = (⟨L.take 0, 0, d⟩ : Ran).on (runR d (L.drop 0)) := by
  show runR d L = ⟨[] ++ (runR d L).done, (runR d L).err, (runR d L).d⟩
  cases runR d L
  rfl
theorem run_next {d dk : D} {L : List Rc} {k : Nat} (hk : k < L.length) (h : runR d L = (⟨L.take k, 0, dk⟩ : Ran).on (runR dk (L.drop k))) (h0 : (applyD dk L[k]).1 = 0) : runR d L = (⟨L.take (k + 1), 0, (applyD dk L[k]).2⟩ : Ran).on (runR (applyD dk L[k]).2 (L.drop (k + 1))) := by
  have e : L.take (k + 1) = L.take k ++ [L[k]] := by rw [List.take_add_one, List.getElem?_eq_getElem hk]; rfl
  rw [h, List.drop_eq_getElem_cons hk, runR, if_pos h0, e]
  unfold Ran.on
  rw [List.append_assoc]
  rfl
theorem run_bad {d dk : D} {L : List Rc} {k : Nat} (hk : k < L.length) (h : runR d L = (⟨L.take k, 0, dk⟩ : Ran).on (runR dk (L.drop k))) (h0 : (applyD dk L[k]).1 ≠ 0) : runR d L = ⟨L.take k, (applyD dk L[k]).1, (applyD dk L[k]).2⟩ := by
  rw [h, List.drop_eq_getElem_cons hk, runR, if_neg h0]
  unfold Ran.on
  simp
theorem run_end {d dk : D} {L : List Rc} (h : runR d L = (⟨L.take L.length, 0, dk⟩ : Ran).on (runR dk (L.drop L.length))) : runR d L = ⟨L, 0, dk⟩ := by
  rw [h, List.drop_length, runR]
  unfold Ran.on
  simp
theorem kids_next {d : D} {p : Int} {L : List PT} {k : Nat} (hk : k < L.length) (h0 : (buildP d p 0 L[k]).err = 0) : buildL d p (L.drop k) = (⟨(buildP d p 0 L[k]).done, 0, (buildP d p 0 L[k]).d⟩ : Ran).on (buildL (buildP d p 0 L[k]).d p (L.drop (k + 1))) := by
  rw [List.drop_eq_getElem_cons hk, buildL, if_pos h0]
  unfold Ran.on
  rfl
theorem kids_bad {d : D} {p : Int} {L : List PT} {k : Nat} (hk : k < L.length) (h0 : (buildP d p 0 L[k]).err ≠ 0) : buildL d p (L.drop k) = buildP d p 0 L[k] := by
  rw [List.drop_eq_getElem_cons hk, buildL, if_neg h0]
theorem rec_noA {w : World} {B : Nat} {v : Value} {ms : List RR} (ho : kR.Own w B v ms) : NoA w (fun i => v.ownBlock = some i) := by
  intro i cur fr hi hc
  obtain ⟨d, hd⟩ := ho.ty hi
  exact heap_ne hc hd (by decide) rfl
theorem tb_rec {w5 w8 : World} {B s : Nat} {v : Value} {ms : List RR} {t : TV} (ho : kR.Own w5 B v ms) (hb : But (fun i => v.ownBlock = some i) w5 w8) (h : TB w5 s t) : TB w8 s t := (hb.block s h.lt (fun e => by
  obtain ⟨d, hd⟩ := ho.ty e
  exact heap_ne hd h (by decide) rfl)).trans h
theorem app_but {w5 : World} {o : Obj} {w8 : World} {v : Value} (hg : (w5.alloc o).grownBy w8 v.ownBlock) : But (fun i => v.ownBlock = some i) w5 w8 := (But.alloc (But.refl _ _) _).trans (But.of_grown (S := fun i => v.ownBlock = some i) hg (fun i hi _ => hi)) (fun _ _ h => h)
theorem runR_len : ∀ (l : List Rc) (d : D), (runR d l).done.length ≤ l.length
  | [], _ => by simp [runR]
  | r :: l, d => by
    rw [runR]
    split
    · have := runR_len l (applyD d r).2
      simp; omega
    · simp
/-- how many changes there may be -/
theorem build_len (t : PT) : ∀ (d : D) (p b : Int), (buildP d p b t).done.length ≤ 3 * countP t := by
  induction t using PT.ind with
  | h tag txt key attrs kids ih =>
    have key' : ∀ (l : List PT), (∀ k ∈ l, k ∈ kids) → ∀ (d : D) (p : Int), (buildL d p l).done.length ≤ 3 * countL l := by
      intro l
      induction l with
      | nil => intro _ d p; simp [buildL]
      | cons a l ihl =>
        intro hl d p
        have h1 := ih a (hl a (by simp)) d p 0
        have h2 := ihl (fun k hk => hl k (by simp [hk])) (buildP d p 0 a).d p
        rw [buildL, countL]
        split
        · unfold Ran.on; simp; omega
        · omega
    intro d p b
    have h1 := runR_len (headR (d.n + 1) p b (.mk tag txt key attrs kids)) d
    have h2 := headR_size (d.n + 1) p b (.mk tag txt key attrs kids)
    have h3 := key' kids (fun _ h => h) (runR d (headR (d.n + 1) p b (.mk tag txt key attrs kids))).d (d.n + 1)
    rw [buildP, countP]
    split
    · unfold Ran.on; simp; omega
    · omega
end Go.Proofs.YtkagaobelhpojaaGreat.P8
