/- Trees whose children's slices are of a call's own. No condition. -/
import Derived.Test.YtkagaobelhpojaaGreatM14
import Derived.Test.YtkagaobelhpojaaGreatM17
import Derived.Test.YtkagaobelhpojaaGreatM18
import Derived.Test.YtkagaobelhpojaaGreatM30
import Derived.Test.YtkagaobelhpojaaGreatM35
import Derived.Test.YtkagaobelhpojaaGreatM36
set_option linter.unusedVariables false
set_option linter.unusedSimpArgs false
namespace Go.Proofs.YtkagaobelhpojaaGreat.P8
open Go.RowKit Kd P4 P5

/-- the slices of its children, and of all below, are of one's own; their blocks are in Q -/
inductive TNew (w : World) (Q : Nat → Prop) : TV → Prop
  | mk {tag txt key : ByteArray} {sa sk : Sv} {attrs : List P3.At} {kids : List TV} (at_ : AOk w sa attrs) (own : kT.Own w 0 (.slice sk.A sk.n sk.c) kids) (q : ∀ b, (Value.slice sk.A sk.n sk.c).ownBlock = some b → Q b) (ks : ∀ k ∈ kids, TNew w Q k) : TNew w Q (.mk tag txt key sa attrs sk kids)
section
variable {w w' : World} {Q R S : Nat → Prop} {t : TV}
theorem TNew.at_ (h : TNew w Q t) : AOk w t.sa t.attrs := by cases h; assumption
theorem TNew.own (h : TNew w Q t) : kT.Own w 0 (.slice t.sk.A t.sk.n t.sk.c) t.kids := by cases h; assumption
theorem TNew.q (h : TNew w Q t) : ∀ b, (Value.slice t.sk.A t.sk.n t.sk.c).ownBlock = some b → Q b := by cases h; assumption
theorem TNew.ks (h : TNew w Q t) : ∀ k ∈ t.kids, TNew w Q k := by cases h; assumption
theorem TNew.mono (h : TNew w Q t) (hq : ∀ b, b < w.heap.size → Q b → R b) : TNew w R t := by
  induction t using TV.ind with
  | h tag txt key sa attrs sk kids ih => exact ⟨h.at_, h.own, fun b hb => hq b (h.own.lt hb).2 (h.q b hb), fun k hk => ih k hk (h.ks k hk)⟩
theorem TNew.but (h : TNew w Q t) (hb : But S w w') (hS : ∀ b, Q b → ¬ S b) (hA : NoA w S) : TNew w' Q t := by
  induction t using TV.ind with
  | h tag txt key sa attrs sk kids ih => exact ⟨h.at_.but hb hA, h.own.but hb (fun b e => hS b (h.q b e)), h.q, fun k hk => ih k hk (h.ks k hk)⟩
theorem TNew.later (h : TNew w Q t) (hb : Below w.heap.size w w') : TNew w' Q t := h.but (But.of_below hb (fun _ => False)) (fun _ _ h => h) (NoA.none w)
theorem TNew.ok (h : TNew w Q t) : TOk w w.heap.size t := by
  induction t using TV.ind with
  | h tag txt key sa attrs sk kids ih =>
    have h1 := h.at_
    have h2 := h.own
    simp only [TV.sa, TV.attrs] at h1
    simp only [TV.sk, TV.kids] at h2
    obtain ⟨A, n, c, hv, e1, e2, e3, e4, e5⟩ := h2.slice
    injection hv with v1 v2 v3
    subst v1; subst v2; subst v3
    exact ⟨h1.len, h1.cap, h1.nil, h1.holds, e1, e2, fun e => e4 e, e5, fun k hk => ih k hk (h.ks k hk)⟩
end
def zTV : TV := .mk ⟨#[]⟩ ⟨#[]⟩ ⟨#[]⟩ ⟨none, 0, 0⟩ [] ⟨none, 0, 0⟩ []
theorem treeP_succ {l : List Nd} {i : Int} {nd : Nd} (h : find l i = some nd) (f : Nat) : treeP l (f + 1) i = .mk nd.tag nd.txt nd.key nd.attrs (nd.kids.map (treeP l f)) := by rw [treeP, h]
/-- blocks of trees alone -/
theorem tree_noA {S : Nat → Prop} {w : World} (h : ∀ b, S b → ∃ cur, w.heap[b]? = some (.cells cur 26 (0, 0))) : NoA w S := fun k cur fr hk hc => by
  obtain ⟨c, h1⟩ := h k hk
  exact heap_ne hc h1 (by decide) rfl
/-- a tree's own slice of children grows by one: what lies in the tree's block behind it -/
structure Grew (w w' : World) (g : Nat) (D : Nat) (tag txt key : ByteArray) (sa : Sv) (attrs : List P3.At) (A : Option Addr) (n c : Nat) (l : List TV) (Q : Nat → Prop) : Prop where
  tb : TB w' g (.mk tag txt key sa attrs ⟨A, n, c⟩ l)
  own : kT.Own w' D (.slice A n c) l
  ks : ∀ k ∈ l, TNew w' (fun b => Q b ∧ (Value.slice A n c).ownBlock ≠ some b) k
theorem kids_grew {w5 w7 : World} {o : Obj} {g D : Nat} {tag txt key : ByteArray} {sa : Sv} {attrs : List P3.At} {A A7 : Option Addr} {n c n7 c7 : Nat} {l : List TV} {k : TV} {Q : Nat → Prop} (hQ : ∀ b, Q b → b ≠ g) (hD : g < D)
    (tb : TB w5 g (.mk tag txt key sa attrs ⟨A, n, c⟩ l)) (own : kT.Own w5 D (.slice A n c) l) (ks : ∀ k ∈ l, TNew w5 (fun b => Q b ∧ (Value.slice A n c).ownBlock ≠ some b) k)
    (hk : TNew w5 (fun b => Q b ∧ (Value.slice A n c).ownBlock ≠ some b) k) (hg : (w5.alloc o).grownBy w7 (Value.slice A n c).ownBlock) (hown : kT.Own w7 D (.slice A7 n7 c7) (l ++ [k])) (hat : (Value.slice A7 n7 c7).ownBlock = (Value.slice A n c).ownBlock ∨ (Value.slice A7 n7 c7).ownBlock = some (w5.alloc o).heap.size) :
    Grew w5 (w7.setCell ⟨g, 4, none⟩ (.slice A7 n7 c7)) g D tag txt key sa attrs A7 n7 c7 (l ++ [k]) Q ∧ But (fun b => b = g ∨ (Value.slice A n c).ownBlock = some b) w5 (w7.setCell ⟨g, 4, none⟩ (.slice A7 n7 c7)) := by
  have b7 : But (fun b => (Value.slice A n c).ownBlock = some b) w5 w7 := (But.alloc (But.refl _ _) _).trans (But.of_grown (S := fun i => (Value.slice A n c).ownBlock = some i) hg (fun i hi _ => hi)) (fun _ _ h => h)
  have hne : (Value.slice A n c).ownBlock ≠ some g := fun e => by have := (own.lt e).1; omega
  have t7 : TB w7 g (.mk tag txt key sa attrs ⟨A, n, c⟩ l) := (b7.block g tb.lt hne).trans tb
  have b8 : But (fun b => b = g ∨ (Value.slice A n c).ownBlock = some b) w5 (w7.setCell ⟨g, 4, none⟩ (.slice A7 n7 c7)) := But.setCell (b7.mono fun _ _ hi => .inr hi) (fun _ => .inl rfl) _
  have hS : ∀ b, (b = g ∨ (Value.slice A n c).ownBlock = some b) → ∃ cur, w5.heap[b]? = some (.cells cur 26 (0, 0)) := by
    rintro b (rfl | e)
    · exact ⟨_, tb⟩
    · exact own.ty e
  have key' : ∀ k : TV, TNew w5 (fun b => Q b ∧ (Value.slice A n c).ownBlock ≠ some b) k → TNew (w7.setCell ⟨g, 4, none⟩ (.slice A7 n7 c7)) (fun b => Q b ∧ (Value.slice A7 n7 c7).ownBlock ≠ some b) k := by
    intro k h
    have h1 : TNew w5 (fun b => (Q b ∧ (Value.slice A n c).ownBlock ≠ some b) ∧ b < w5.heap.size) k := h.mono fun b hb hq => ⟨hq, hb⟩
    refine (h1.but b8 (fun b hq hs => ?_) (tree_noA hS)).mono fun b _ hq => ⟨hq.1.1, fun e => ?_⟩
    · rcases hs with e | e
      · exact hQ b hq.1.1 e
      · exact hq.1.2 e
    · rcases hat with h2 | h2
      · exact hq.1.2 (h2 ▸ e)
      · rw [h2] at e
        injection e with e
        have := hq.2
        simp at e
        omega
  refine ⟨⟨?_, ?_, fun k hk2 => ?_⟩, b8⟩
  · exact heap_set t7 4 _
  · refine hown.keep (fun b hb => Below.heap_setCell _ _ _ _ ?_)
    rintro rfl
    have := (hown.lt hb).1
    omega
  · rcases List.mem_append.1 hk2 with h | h
    · exact key' k (ks k h)
    · rw [List.mem_singleton.1 h]; exact key' _ hk
end Go.Proofs.YtkagaobelhpojaaGreat.P8

/- The program's Of: the tree of a node. No condition but those stated. -/
namespace Go.Proofs.YtkagaobelhpojaaGreat.P8
open Go.RowKit Kd P4 P5
variable {B p : Nat} {x : Dx}
theorem wf_kids8 (hwf : WF x.d) {w : World} (h : Dc w B p x) {k : Nat} (hk : k < x.rs.length) {i : Int} (hy : x.rs[k].nd.id = i) : x.rs[k].nd.id = i ∧ x.rs[k].nd.par = parOf x.l i ∧ x.rs[k].nd.kids = kidsOf x.l i ∧ x.rs[k].nd.attrs.length ≤ 1000 ∧ x.rs[k].nd.kids.length ≤ 1000 := by
  have h1 := tag_at h hk hy
  have h2 := nd_kids h hwf hk
  exact ⟨hy, h1.2.1.symm, h1.2.2.symm, h2.1, h2.2.1⟩
def TreeTold (w : World) (r : PT) (e : Ending) (w' : World) : Prop := ∃ tv : TV, e = .returned (.tuple #[.agg #[.string tv.tag, .string tv.txt, .string tv.key, .slice tv.sa.A tv.sa.n tv.sa.c, .slice tv.sk.A tv.sk.n tv.sk.c], .bool true]) ∧ er tv = r ∧ TNew w' (fun b => w.heap.size ≤ b) tv ∧ Below w.heap.size w w'
def OfRel (w : World) (g8 f nk : Nat) (tag txt key : ByteArray) (sa : Sv) (attrs : List P3.At) (kids : List Int) (vk : Value) (tr : Int → PT) (s37 : Value) (wr : World) : Prop :=
  ∃ (j : Nat) (A : Option Addr) (n c : Nat) (l : List TV), s37 = .int .i64 j ∧ j ≤ nk ∧ l.length = j ∧ Hid (Grew w wr g8 (g8 + 1) tag txt key sa attrs A n c l (fun b => g8 < b)) ∧ Hid (TB wr w.heap.size zTV) ∧ Hid (er (.mk tag txt key sa attrs ⟨A, n, c⟩ l) = .mk tag txt key attrs ((kids.take j).map tr)) ∧ Hid (AOk wr sa attrs) ∧ Hid (kI.Own wr w.heap.size vk kids) ∧ Hid (Below w.heap.size w wr)
set_option maxRecDepth 100000 in
set_option maxHeartbeats 8000000 in
theorem of_any (hwf : WF x.d) : ∀ (f : Nat) (i : Int) (w : World), Hb (kidsOf x.l) f i → hasL x.l i = true → Dc w B p x → Calls Tryz.prog 16 #[.pointer (some ⟨p, 0, none⟩), .int .i64 i] w (TreeTold w (treeP x.l f i)) := by
  intro f
  induction f with
  | zero => intro i w hb; exact hb.elim
  | succ f ih =>
    intro i w hb hi h
    have IH := Lib.hid ih
    have HB0 := Lib.hid hb
    have H := Lib.hid h
    have HWF := Lib.hid hwf
    obtain ⟨k, hk, hy, hfd⟩ := h.place hi
    obtain ⟨q1, q2, q3, q4, q5⟩ := wf_kids8 hwf h hk hy
    obtain ⟨nd, hnd⟩ : ∃ nd, x.rs[k].nd = nd := ⟨_, rfl⟩
    rw [hnd] at q1 q3 q4 q5 hfd
    have HND := Lib.hid hnd
    have HY := Lib.hid hy
    have HKD := Lib.hid q3
    have HTR : Hid (treeP x.l (f + 1) i = .mk nd.tag nd.txt nd.key nd.attrs (nd.kids.map (treeP x.l f))) := Lib.hid (treeP_succ hfd f)
    have B0 : Hid (Below w.heap.size w (w.alloc (.cells #[.string ⟨#[]⟩, .string ⟨#[]⟩, .string ⟨#[]⟩, .slice none 0 0, .slice none 0 0] 26))) := Lib.hid ((Below.refl _ _).alloc (Nat.le_refl _) _)
    have Z0 : Hid (TB (w.alloc (.cells #[.string ⟨#[]⟩, .string ⟨#[]⟩, .string ⟨#[]⟩, .slice none 0 0, .slice none 0 0] 26)) w.heap.size zTV) := Lib.hid (TB.new w zTV)
    clear ih hb h hwf hy hi hnd q1 q2 q3 hfd
    go_enter Tryz.func16, Tryz.ntmps16
    go_upto_region 1 with fail
    generalize w.alloc (.cells #[.string ⟨#[]⟩, .string ⟨#[]⟩, .string ⟨#[]⟩, .slice none 0 0, .slice none 0 0] 26) = w0 at B0 Z0 ⊢
    go_wp2_with fail
    refine (tell_yes i w0 hk HY.out HND.out q4 q5 (H.out.below B0.out)).mono ?_
    rintro e w1 ⟨Aa, na, ca, Ak, nk, ck, rfl, a1, o1, b1⟩
    have B2 : Hid (Below w.heap.size w (w1.alloc (.cells #[.int .i64 nd.id, .int .i64 nd.par, .string nd.tag, .string nd.txt, .string nd.key, .slice Aa na ca, .slice Ak nk ck, .int .i64 nd.note] 81))) := Lib.hid ((B0.out.trans (b1.mono B0.out.size)).alloc (B0.out.trans (b1.mono B0.out.size)).size _)
    have bb : Below w1.heap.size w1 (w1.alloc (.cells #[.int .i64 nd.id, .int .i64 nd.par, .string nd.tag, .string nd.txt, .string nd.key, .slice Aa na ca, .slice Ak nk ck, .int .i64 nd.note] 81)) := (Below.refl _ _).alloc (Nat.le_refl _) _
    have N2 : Hid (NdB (w1.alloc (.cells #[.int .i64 nd.id, .int .i64 nd.par, .string nd.tag, .string nd.txt, .string nd.key, .slice Aa na ca, .slice Ak nk ck, .int .i64 nd.note] 81)) w1.heap.size nd Aa na ca Ak nk ck) := Lib.hid (NdB.new _ _ _ _ _ _ _ _)
    have A2 := Lib.hid (a1.below bb)
    have Z2 : Hid (TB (w1.alloc (.cells #[.int .i64 nd.id, .int .i64 nd.par, .string nd.tag, .string nd.txt, .string nd.key, .slice Aa na ca, .slice Ak nk ck, .int .i64 nd.note] 81)) w.heap.size zTV) := Lib.hid ((Z0.out.below b1 Z0.out.lt).below bb (by have := Z0.out.lt; have := b1.size; omega))
    have O2 : Hid (kI.Own (w1.alloc (.cells #[.int .i64 nd.id, .int .i64 nd.par, .string nd.tag, .string nd.txt, .string nd.key, .slice Aa na ca, .slice Ak nk ck, .int .i64 nd.note] 81)) w.heap.size (.slice Ak nk ck) nd.kids) := Lib.hid ((o1.below bb (Nat.le_refl _)).base_le B0.out.size)
    clear a1 o1 b1 bb
    go_upto_region 4 with fail
    generalize w1.alloc (.cells #[.int .i64 nd.id, .int .i64 nd.par, .string nd.tag, .string nd.txt, .string nd.key, .slice Aa na ca, .slice Ak nk ck, .int .i64 nd.note] 81) = w2 at N2 B2 A2 Z2 O2 ⊢
    generalize w1.heap.size = g6 at N2 ⊢
    have r2 := N2.out.c2
    have r3 := N2.out.c3
    have r4 := N2.out.c4
    have r5 := N2.out.c5
    go_upto_region 7 with fail
    have bb : Below w2.heap.size w2 (w2.alloc (.cells #[.string nd.tag, .string nd.txt, .string nd.key, .slice Aa na ca, .slice none 0 0] 26)) := (Below.refl _ _).alloc (Nat.le_refl _) _
    have B3 : Hid (Below w.heap.size w (w2.alloc (.cells #[.string nd.tag, .string nd.txt, .string nd.key, .slice Aa na ca, .slice none 0 0] 26))) := Lib.hid (B2.out.alloc B2.out.size _)
    have N3 := Lib.hid (N2.out.below bb N2.out.lt)
    have A3 := Lib.hid (A2.out.below bb)
    have Z3 := Lib.hid (Z2.out.below bb Z2.out.lt)
    have O3 : Hid (kI.Own (w2.alloc (.cells #[.string nd.tag, .string nd.txt, .string nd.key, .slice Aa na ca, .slice none 0 0] 26)) w.heap.size (.slice Ak nk ck) nd.kids) := Lib.hid (O2.out.below bb (Nat.le_refl _))
    have G3 : Hid (Grew w (w2.alloc (.cells #[.string nd.tag, .string nd.txt, .string nd.key, .slice Aa na ca, .slice none 0 0] 26)) w2.heap.size (w2.heap.size + 1) nd.tag nd.txt nd.key ⟨Aa, na, ca⟩ nd.attrs none 0 0 [] (fun b => w2.heap.size < b)) := Lib.hid ⟨TB.new w2 (.mk nd.tag nd.txt nd.key ⟨Aa, na, ca⟩ nd.attrs ⟨none, 0, 0⟩ []), Kind.Own.nil _ _ _, fun k hk => by cases hk⟩
    have hg8 : w.heap.size < w2.heap.size := Z2.out.lt
    generalize w2.alloc (.cells #[.string nd.tag, .string nd.txt, .string nd.key, .slice Aa na ca, .slice none 0 0] 26) = w3 at B3 N3 A3 Z3 O3 G3 ⊢
    generalize w2.heap.size = g8 at G3 hg8 ⊢
    clear bb B2 N2 A2 Z2 O2 r2 r3 r4 r5 B0 Z0
    obtain ⟨g1, _, _, _, _⟩ := own_nil_zero O3.out rfl
    have HNK : Hid (nd.kids.length = nk) := Lib.hid g1
    have hnk : nk ≤ 1000 := by omega
    clear g1
    have r6 := N3.out.c6
    go_wp2_with fail
    go_loopw [37] (fun s37 wr => OfRel w g8 f nk nd.tag nd.txt nd.key ⟨Aa, na, ca⟩ nd.attrs nd.kids (.slice Ak nk ck) (treeP x.l f) s37 wr) (fun s37 _ => nk - (intOf s37).toNat)
    case atStart => exact ⟨0, none, 0, 0, [], rfl, by omega, rfl, G3, Z3, Lib.hid (by rw [er, erL]; simp), A3, O3, B3⟩
    case round =>
      obtain ⟨j, A, n, c, l, rfl, hj, hlj, HG, HZ, HE, HA, HO, HB⟩ := hrel
      by_cases hjn : j < nk
      · have hjl : j < nd.kids.length := by have := HNK.out; omega
        obtain ⟨_, _, _, _, hhk⟩ := own_nil_zero HO.out rfl
        obtain ⟨gb, go, rfl, hgb, hc⟩ := cell_int hhk hjl
        have hmem : nd.kids[j] ∈ kidsOf x.l i := by rw [← HKD.out]; exact List.getElem_mem hjl
        have CK := Lib.hid (IH.out nd.kids[j] wr (HB0.out _ hmem) (HWF.out.tr.kid i _ hmem).2.1 (H.out.below HB.out))
        have HTK : Hid ((nd.kids.take (j + 1)).map (treeP x.l f) = (nd.kids.take j).map (treeP x.l f) ++ [treeP x.l f nd.kids[j]]) := Lib.hid (by rw [List.take_add_one, List.getElem?_eq_getElem hjl, List.map_append]; rfl)
        generalize nd.kids[j] = kd at hc CK HTK
        clear hmem hhk hgb
        go_wp2_with fail
        refine CK.out.mono ?_
        rintro e w5 ⟨tv, rfl, het, htn, b5⟩
        have b6 : Below wr.heap.size wr (w5.alloc (.cells #[.string tv.tag, .string tv.txt, .string tv.key, .slice tv.sa.A tv.sa.n tv.sa.c, .slice tv.sk.A tv.sk.n tv.sk.c] 26)) := b5.alloc b5.size _
        have bb : Below w5.heap.size w5 (w5.alloc (.cells #[.string tv.tag, .string tv.txt, .string tv.key, .slice tv.sa.A tv.sa.n tv.sa.c, .slice tv.sk.A tv.sk.n tv.sk.c] 26)) := (Below.refl _ _).alloc (Nat.le_refl _) _
        have K6 : Hid (TB (w5.alloc (.cells #[.string tv.tag, .string tv.txt, .string tv.key, .slice tv.sa.A tv.sa.n tv.sa.c, .slice tv.sk.A tv.sk.n tv.sk.c] 26)) w5.heap.size tv) := Lib.hid (TB.new w5 tv)
        have T6 : Hid (TNew (w5.alloc (.cells #[.string tv.tag, .string tv.txt, .string tv.key, .slice tv.sa.A tv.sa.n tv.sa.c, .slice tv.sk.A tv.sk.n tv.sk.c] 26)) (fun b => g8 < b ∧ (Value.slice A n c).ownBlock ≠ some b) tv) := Lib.hid ((htn.later bb).mono fun b _ hb => ⟨by have := HG.out.tb.lt; omega, fun e => by have := (HG.out.own.lt e).2; omega⟩)
        have HET := Lib.hid het
        have B6 := Lib.hid (HB.out.trans (b6.mono HB.out.size))
        have G6 : Hid (Grew w (w5.alloc (.cells #[.string tv.tag, .string tv.txt, .string tv.key, .slice tv.sa.A tv.sa.n tv.sa.c, .slice tv.sk.A tv.sk.n tv.sk.c] 26)) g8 (g8 + 1) nd.tag nd.txt nd.key ⟨Aa, na, ca⟩ nd.attrs A n c l (fun b => g8 < b)) := Lib.hid ⟨HG.out.tb.below b6 HG.out.tb.lt, HG.out.own.below b6 (Nat.le_refl _), fun k hk => (HG.out.ks k hk).later b6⟩
        have Z6 := Lib.hid (HZ.out.below b6 HZ.out.lt)
        have A6 := Lib.hid (HA.out.below b6)
        have O6 : Hid (kI.Own (w5.alloc (.cells #[.string tv.tag, .string tv.txt, .string tv.key, .slice tv.sa.A tv.sa.n tv.sa.c, .slice tv.sk.A tv.sk.n tv.sk.c] 26)) w.heap.size (.slice (some ⟨gb, go, none⟩) nk ck) nd.kids) := Lib.hid (HO.out.below b6 (Nat.le_refl _))
        clear het htn b5 b6 bb hc
        go_upto_region 11 with fail
        generalize w5.alloc (.cells #[.string tv.tag, .string tv.txt, .string tv.key, .slice tv.sa.A tv.sa.n tv.sa.c, .slice tv.sk.A tv.sk.n tv.sk.c] 26) = w6 at K6 T6 B6 G6 Z6 A6 O6 ⊢
        generalize w5.heap.size = g11 at K6 ⊢
        have a0 := K6.out.c0; have a1 := K6.out.c1; have a2 := K6.out.c2; have a3 := K6.out.c3; have a4 := K6.out.c4
        have d4 : w6.cell? ⟨g8, 4, none⟩ = some (.slice A n c) := G6.out.tb.c4
        have hl6 : l.length ≤ 1000 := by omega
        go_wp2_with (at_builtin; refine kT.wp_app rfl _ _ rfl (v := .slice A n c) (l := l) (m := [tv]) (B := g8 + 1) (A := some ⟨w6.heap.size, 0, none⟩) (n := 1) (c := 1) rfl (G6.out.own.alloc _) rfl rfl (fun e => by cases e) (Kind.Holds.lit (heap_alloc_new _ _) rfl) (by simp; omega) (by have := G6.out.tb.lt; simp; omega) ?_; intro v7 w7 hown7 hgrow7 hat7; obtain ⟨A7, n7, c7, rfl, _, _, _, _, _⟩ := hown7.slice; have e7 : w7.cell? ⟨g8, 4, none⟩ = some (.slice A n c) := (cell_of_row w7 g8 4 _ _ (0, 0) ((hgrow7.block g8 (by have := G6.out.tb.lt; simp; omega) (fun e => by have := (G6.out.own.lt e.symm).1; omega)).trans (heap_up G6.out.tb))).trans rfl; have f7 : w7.frozen? ⟨g8, 4, none⟩ = false := (by have hb := (hgrow7.block g8 (by have := G6.out.tb.lt; simp; omega) (fun e => by have := (G6.out.own.lt e.symm).1; omega)).trans (heap_up G6.out.tb); simp [World.frozen?, hb]); have GB := kids_grew (Q := fun b => g8 < b) (k := tv) (fun b hb e => by omega) (Nat.lt_succ_self g8) G6.out.tb G6.out.own G6.out.ks T6.out hgrow7 hown7 hat7; clear hown7 hgrow7 hat7 a0 a1 a2 a3 a4 d4)
        obtain ⟨g9, b9⟩ := GB
        have hS : ∀ b, (b = g8 ∨ (Value.slice A n c).ownBlock = some b) → ∃ cur, w6.heap[b]? = some (.cells cur 26 (0, 0)) := by
          rintro b (rfl | e)
          · exact ⟨_, G6.out.tb⟩
          · exact G6.out.own.ty e
        have G9 : Hid (Grew w (w7.setCell ⟨g8, 4, none⟩ (.slice A7 n7 c7)) g8 (g8 + 1) nd.tag nd.txt nd.key ⟨Aa, na, ca⟩ nd.attrs A7 n7 c7 (l ++ [tv]) (fun b => g8 < b)) := Lib.hid ⟨g9.tb, g9.own, g9.ks⟩
        have B9 : Hid (Below w.heap.size w (w7.setCell ⟨g8, 4, none⟩ (.slice A7 n7 c7))) := Lib.hid (B6.out.trans (b9.to_below (fun b _ hb => by
          rcases hb with rfl | e
          · omega
          · have := (G6.out.own.lt e).1; omega) B6.out.size))
        have Z9 : Hid (TB (w7.setCell ⟨g8, 4, none⟩ (.slice A7 n7 c7)) w.heap.size zTV) := Lib.hid ((b9.block _ Z6.out.lt (fun hb => by
          rcases hb with e | e
          · omega
          · have := (G6.out.own.lt e).1; omega)).trans Z6.out)
        have A9 : Hid (AOk (w7.setCell ⟨g8, 4, none⟩ (.slice A7 n7 c7)) ⟨Aa, na, ca⟩ nd.attrs) := Lib.hid (A6.out.but b9 (tree_noA hS))
        have O9 : Hid (kI.Own (w7.setCell ⟨g8, 4, none⟩ (.slice A7 n7 c7)) w.heap.size (.slice (some ⟨gb, go, none⟩) nk ck) nd.kids) := Lib.hid (O6.out.but b9 (fun b hb hs => by
          obtain ⟨d1, hd1⟩ := O6.out.ty hb
          obtain ⟨d2, hd2⟩ := hS b hs
          exact heap_ne hd1 hd2 (by decide) rfl))
        have E9 : Hid (er (.mk nd.tag nd.txt nd.key ⟨Aa, na, ca⟩ nd.attrs ⟨A7, n7, c7⟩ (l ++ [tv])) = .mk nd.tag nd.txt nd.key nd.attrs ((nd.kids.take (j + 1)).map (treeP x.l f))) := Lib.hid (by
          have h1 := HE.out
          rw [er, erL_map] at h1 ⊢
          injection h1 with _ _ _ _ h1
          rw [HTK.out, List.map_append, h1, ← HET.out]
          rfl)
        generalize w7.setCell ⟨g8, 4, none⟩ (.slice A7 n7 c7) = w9 at G9 B9 Z9 A9 O9 ⊢
        clear g9 b9 hS e7 f7 K6 T6 B6 G6 Z6 A6 O6
        go_wp2_with fail
        go_roundw
        case rel => exact ⟨j + 1, A7, n7, c7, l ++ [tv], by go_num, by omega, by simp; omega, G9, Z9, E9, A9, O9, B9⟩
        case measure => simp [intOf]; omega
      · obtain rfl : j = nk := by omega
        have d0 := HG.out.tb.c0; have d1 := HG.out.tb.c1; have d2 := HG.out.tb.c2; have d3 := HG.out.tb.c3; have d4 := HG.out.tb.c4
        have z0 := HZ.out.c0; have z1 := HZ.out.c1; have z2 := HZ.out.c2; have z3 := HZ.out.c3; have z4 := HZ.out.c4
        simp only [TV.tag, TV.txt, TV.key, TV.sa, TV.sk, zTV] at d0 d1 d2 d3 d4 z0 z1 z2 z3 z4
        have zf : ∀ i, wr.frozen? ⟨w.heap.size, i, none⟩ = false := fun i => by have hb := HZ.out; simp [World.frozen?, (show wr.heap[w.heap.size]? = _ from hb)]
        have hzl : w.heap.size < wr.heap.size := HZ.out.lt
        have HEE : Hid (er (.mk nd.tag nd.txt nd.key ⟨Aa, na, ca⟩ nd.attrs ⟨A, n, c⟩ l) = treeP x.l (f + 1) i) := Lib.hid (by rw [HTR.out, HE.out, List.take_of_length_le (by have := HNK.out; omega)])
        go_wp2_with fail
        refine bodyPost_ret (v := .tuple #[.agg #[.string nd.tag, .string nd.txt, .string nd.key, .slice Aa na ca, .slice A n c], .bool true]) (by simp [results, Tryz.results16, go_sem, z0, z1, z2, z3, z4, hzl]) rfl ⟨.mk nd.tag nd.txt nd.key ⟨Aa, na, ca⟩ nd.attrs ⟨A, n, c⟩ l, rfl, HEE.out, ?_, ?_⟩
        · refine TNew.but (S := fun b => b = w.heap.size) (w := wr) (TNew.mono (Q := fun b => g8 < b) ⟨HA.out, HG.out.own.base_le (Nat.zero_le _), fun b hb => by have := (HG.out.own.lt hb).1; omega, fun k hk => (HG.out.ks k hk).mono fun b _ hb => hb.1⟩ (fun b _ hb => (show w.heap.size < b by omega))) ?_ (fun b hb e => by omega) (fun b cur fr e hc => by
            subst e
            exact heap_ne hc HZ.out (by decide) rfl) |>.mono fun b _ hb => Nat.le_of_lt hb
          exact setOne (setOne (setOne (setOne (setOne (But.refl _ _)))))
        · exact one_end HB.out (setOne (setOne (setOne (setOne (setOne (But.refl _ _))))))
theorem of_c : OfC := by
  intro w B p x i hwf hxn h
  cases hi : hasL x.l i with
  | true =>
    have hb : Hb (kidsOf x.l) (x.l.length + 1) i := by
      have h1 : Hb (kidsOf x.l) ((idsOf x.l).length + 1) i := hwf.tr.hb_all (L := idsOf x.l) (fun y hy => has_ids.1 hy) (y := i) hi
      simpa [idsOf] using h1
    refine (of_any hwf (x.l.length + 1) i w hb hi h).mono ?_
    rintro e w' ⟨tv, rfl, h1, h2, h3⟩
    exact .inl ⟨rfl, tv, rfl, h1, h2.ok, h3⟩
  | false =>
    have HI := Lib.hid hi
    have H := Lib.hid h
    clear hi h hwf
    have B0 : Hid (Below w.heap.size w (w.alloc (.cells #[.string ⟨#[]⟩, .string ⟨#[]⟩, .string ⟨#[]⟩, .slice none 0 0, .slice none 0 0] 26))) := Lib.hid ((Below.refl _ _).alloc (Nat.le_refl _) _)
    have Z0 : Hid (TB (w.alloc (.cells #[.string ⟨#[]⟩, .string ⟨#[]⟩, .string ⟨#[]⟩, .slice none 0 0, .slice none 0 0] 26)) w.heap.size zTV) := Lib.hid (TB.new w zTV)
    go_enter Tryz.func16, Tryz.ntmps16
    go_upto_region 1 with fail
    generalize w.alloc (.cells #[.string ⟨#[]⟩, .string ⟨#[]⟩, .string ⟨#[]⟩, .slice none 0 0, .slice none 0 0] 26) = w0 at B0 Z0 ⊢
    go_wp2_with fail
    refine (tell_no i w0 HI.out (H.out.below B0.out)).mono ?_
    rintro e w1 ⟨rfl, b1⟩
    have B1 := Lib.hid (B0.out.trans (b1.mono B0.out.size))
    have Z1 := Lib.hid (Z0.out.below b1 Z0.out.lt)
    have bb : Below w1.heap.size w1 (w1.alloc (.cells #[.int .i64 0, .int .i64 0, .string ⟨#[]⟩, .string ⟨#[]⟩, .string ⟨#[]⟩, .slice none 0 0, .slice none 0 0, .int .i64 0] 81)) := (Below.refl _ _).alloc (Nat.le_refl _) _
    have B2 := Lib.hid (B1.out.trans (bb.mono B1.out.size))
    have Z2 := Lib.hid (Z1.out.below bb Z1.out.lt)
    clear b1 bb B0 Z0
    go_upto_region 4 with fail
    generalize w1.alloc (.cells #[.int .i64 0, .int .i64 0, .string ⟨#[]⟩, .string ⟨#[]⟩, .string ⟨#[]⟩, .slice none 0 0, .slice none 0 0, .int .i64 0] 81) = w2 at B2 Z2 ⊢
    have z0 := Z2.out.c0; have z1 := Z2.out.c1; have z2 := Z2.out.c2; have z3 := Z2.out.c3; have z4 := Z2.out.c4
    simp only [TV.tag, TV.txt, TV.key, TV.sa, TV.sk, zTV] at z0 z1 z2 z3 z4
    have zf : ∀ i, w2.frozen? ⟨w.heap.size, i, none⟩ = false := fun i => by have hb := Z2.out; simp [World.frozen?, (show w2.heap[w.heap.size]? = _ from hb)]
    have hzl : w.heap.size < w2.heap.size := Z2.out.lt
    go_wp2_with fail
    refine bodyPost_ret (v := .tuple #[.agg #[.string ⟨#[]⟩, .string ⟨#[]⟩, .string ⟨#[]⟩, .slice none 0 0, .slice none 0 0], .bool false]) (by simp [results, Tryz.results16, go_sem, z0, z1, z2, z3, z4, hzl]) rfl (.inr ⟨by first | trivial | exact HI.out, rfl, ?_⟩)
    exact one_end B2.out (setOne (setOne (setOne (setOne (setOne (But.refl _ _))))))
end Go.Proofs.YtkagaobelhpojaaGreat.P8
