/- What is wanted, as it lies in memory: the program's, and the document's. No condition. -/
import Derived.Test.YtfjnbjpenibpkaaM17
set_option linter.unusedVariables false
set_option linter.unusedSimpArgs false
set_option linter.unusedVariables false
set_option linter.unusedSimpArgs false
namespace Go.Proofs.Ytfjnbjpenibpkaa.P14
open Go.RowKit Kd P4 P5 P11 P12 P13

theorem infoW : (Try.prog.info? 46).map (fun i => (i.zero, i.size, i.bytes)) = some (some (.agg #[.int .i64 0, .string ⟨#[]⟩, .string ⟨#[]⟩, .string ⟨#[]⟩, .slice none 0 0, .slice none 0 0]), 6, 104) := by kernel_rfl
theorem infoQ : (Try.prog.info? 44).map (fun i => (i.zero, i.size, i.bytes)) = some (some (.agg #[.int .i64 0, .string ⟨#[]⟩, .string ⟨#[]⟩, .string ⟨#[]⟩, .slice none 0 0, .slice none 0 0]), 6, 104) := by kernel_rfl
def WV.cells (a : WV) : List Value := [.int .i64 a.kind, .string a.tag, .string a.key, .string a.txt, .slice a.sa.A a.sa.n a.sa.c, .slice a.sk.A a.sk.n a.sk.c]
/-- the program's -/
def kW : Kind Try.prog WV where
  t := 25
  e := 46
  size := 6
  bytes := 104
  z := .agg #[.int .i64 0, .string ⟨#[]⟩, .string ⟨#[]⟩, .string ⟨#[]⟩, .slice none 0 0, .slice none 0 0]
  cs := WV.cells
  ht := Try.underlying25
  info := info_ex infoW
  hzs := rfl
  hpos := by decide
  hbb := by decide
  len := fun _ => rfl
  one := fun a u hu => by simp [WV.cells] at hu; rcases hu with rfl | rfl | rfl | rfl | rfl | rfl <;> rfl
/-- the document's -/
def kQ : Kind Try.prog WV where
  t := 31
  e := 44
  size := 6
  bytes := 104
  z := .agg #[.int .i64 0, .string ⟨#[]⟩, .string ⟨#[]⟩, .string ⟨#[]⟩, .slice none 0 0, .slice none 0 0]
  cs := WV.cells
  ht := Try.underlying31
  info := info_ex infoQ
  hzs := rfl
  hpos := by decide
  hbb := by decide
  len := fun _ => rfl
  one := fun a u hu => by simp [WV.cells] at hu; rcases hu with rfl | rfl | rfl | rfl | rfl | rfl <;> rfl
theorem cell_of_w {w : World} {B : Nat} {A : Option Addr} {l : List WV} (h : kW.Holds w B A l) {k : Nat} (hk : k < l.length) :
    ∃ b o, A = some ⟨b, o, none⟩ ∧ b < B ∧ w.cell? ⟨b, o + k * 6, none⟩ = some (.int .i64 l[k].kind) ∧ w.cell? ⟨b, o + k * 6 + 1, none⟩ = some (.string l[k].tag) ∧ w.cell? ⟨b, o + k * 6 + 2, none⟩ = some (.string l[k].key) ∧
      w.cell? ⟨b, o + k * 6 + 3, none⟩ = some (.string l[k].txt) ∧ w.cell? ⟨b, o + k * 6 + 4, none⟩ = some (.slice l[k].sa.A l[k].sa.n l[k].sa.c) ∧ w.cell? ⟨b, o + k * 6 + 5, none⟩ = some (.slice l[k].sk.A l[k].sk.n l[k].sk.c) := by
  obtain ⟨b, o, rfl, hb, hc⟩ := h.at hk
  exact ⟨b, o, rfl, hb, hc 0 _ rfl, hc 1 _ rfl, hc 2 _ rfl, hc 3 _ rfl, hc 4 _ rfl, hc 5 _ rfl⟩
theorem cell_of_q {w : World} {B : Nat} {A : Option Addr} {l : List WV} (h : kQ.Holds w B A l) {k : Nat} (hk : k < l.length) :
    ∃ b o, A = some ⟨b, o, none⟩ ∧ b < B ∧ w.cell? ⟨b, o + k * 6, none⟩ = some (.int .i64 l[k].kind) ∧ w.cell? ⟨b, o + k * 6 + 1, none⟩ = some (.string l[k].tag) ∧ w.cell? ⟨b, o + k * 6 + 2, none⟩ = some (.string l[k].key) ∧
      w.cell? ⟨b, o + k * 6 + 3, none⟩ = some (.string l[k].txt) ∧ w.cell? ⟨b, o + k * 6 + 4, none⟩ = some (.slice l[k].sa.A l[k].sa.n l[k].sa.c) ∧ w.cell? ⟨b, o + k * 6 + 5, none⟩ = some (.slice l[k].sk.A l[k].sk.n l[k].sk.c) := by
  obtain ⟨b, o, rfl, hb, hc⟩ := h.at hk
  exact ⟨b, o, rfl, hb, hc 0 _ rfl, hc 1 _ rfl, hc 2 _ rfl, hc 3 _ rfl, hc 4 _ rfl, hc 5 _ rfl⟩
/-- what is wanted, that is read, below block C -/
inductive WOk (K : Kind Try.prog WV) (w : World) (C : Nat) : WV → Prop
  | mk {kind : Int} {tag key txt : ByteArray} {sa sk : Sv} {attrs : List P3.At} {kids : List WV} (al : attrs.length = sa.n) (ac : sa.n ≤ sa.c) (az : sa.A = none → sa.c = 0) (ah : kA.Holds w C sa.A attrs)
      (kl : kids.length = sk.n) (kc : sk.n ≤ sk.c) (kz : sk.A = none → sk.c = 0) (kh : K.Holds w C sk.A kids) (ks : ∀ k ∈ kids, WOk K w C k) : WOk K w C (.mk kind tag key txt sa attrs sk kids)
section
variable {K : Kind Try.prog WV} {w w' : World} {C D : Nat} {t : WV}
theorem WOk.al (h : WOk K w C t) : t.attrs.length = t.sa.n := by cases h; assumption
theorem WOk.ac (h : WOk K w C t) : t.sa.n ≤ t.sa.c := by cases h; assumption
theorem WOk.az (h : WOk K w C t) : t.sa.A = none → t.sa.c = 0 := by cases h; assumption
theorem WOk.ah (h : WOk K w C t) : kA.Holds w C t.sa.A t.attrs := by cases h; assumption
theorem WOk.kl (h : WOk K w C t) : t.kids.length = t.sk.n := by cases h; assumption
theorem WOk.kc (h : WOk K w C t) : t.sk.n ≤ t.sk.c := by cases h; assumption
theorem WOk.kz (h : WOk K w C t) : t.sk.A = none → t.sk.c = 0 := by cases h; assumption
theorem WOk.kh (h : WOk K w C t) : K.Holds w C t.sk.A t.kids := by cases h; assumption
theorem WOk.ks (h : WOk K w C t) : ∀ k ∈ t.kids, WOk K w C k := by cases h; assumption
theorem WOk.later (h : WOk K w C t) (hb : Below D w w') (hC : C ≤ D) : WOk K w' C t := by
  induction t using WV.ind with
  | h kind tag key txt sa attrs sk kids ih => exact ⟨h.al, h.ac, h.az, h.ah.below hb hC, h.kl, h.kc, h.kz, h.kh.below hb hC, fun k hk => ih k hk (h.ks k hk)⟩
theorem WOk.more (h : WOk K w C t) (hC : C ≤ D) : WOk K w D t := by
  induction t using WV.ind with
  | h kind tag key txt sa attrs sk kids ih => exact ⟨h.al, h.ac, h.az, h.ah.more hC, h.kl, h.kc, h.kz, h.kh.more hC, fun k hk => ih k hk (h.ks k hk)⟩
theorem WOk.on (h : WOk K w w.heap.size t) (hb : Below w.heap.size w w') : WOk K w' w'.heap.size t := (h.later hb (Nat.le_refl _)).more hb.size
end
/-- the slices of what is wanted in it, and of all below, are of one's own; their blocks are in Q -/
inductive WNew (K : Kind Try.prog WV) (w : World) (Q : Nat → Prop) : WV → Prop
  | mk {kind : Int} {tag key txt : ByteArray} {sa sk : Sv} {attrs : List P3.At} {kids : List WV} (at_ : AOk w sa attrs) (own : K.Own w 0 (.slice sk.A sk.n sk.c) kids) (q : ∀ b, (Value.slice sk.A sk.n sk.c).ownBlock = some b → Q b) (ks : ∀ k ∈ kids, WNew K w Q k) : WNew K w Q (.mk kind tag key txt sa attrs sk kids)
section
variable {K : Kind Try.prog WV} {w w' : World} {Q R S : Nat → Prop} {t : WV}
theorem WNew.at_ (h : WNew K w Q t) : AOk w t.sa t.attrs := by cases h; assumption
theorem WNew.own (h : WNew K w Q t) : K.Own w 0 (.slice t.sk.A t.sk.n t.sk.c) t.kids := by cases h; assumption
theorem WNew.q (h : WNew K w Q t) : ∀ b, (Value.slice t.sk.A t.sk.n t.sk.c).ownBlock = some b → Q b := by cases h; assumption
theorem WNew.ks (h : WNew K w Q t) : ∀ k ∈ t.kids, WNew K w Q k := by cases h; assumption
theorem WNew.mono (h : WNew K w Q t) (hq : ∀ b, b < w.heap.size → Q b → R b) : WNew K w R t := by
  induction t using WV.ind with
  | h kind tag key txt sa attrs sk kids ih => exact ⟨h.at_, h.own, fun b hb => hq b (h.own.lt hb).2 (h.q b hb), fun k hk => ih k hk (h.ks k hk)⟩
theorem WNew.but (h : WNew K w Q t) (hb : But S w w') (hS : ∀ b, Q b → ¬ S b) (hA : NoA w S) : WNew K w' Q t := by
  induction t using WV.ind with
  | h kind tag key txt sa attrs sk kids ih => exact ⟨h.at_.but hb hA, h.own.but hb (fun b e => hS b (h.q b e)), h.q, fun k hk => ih k hk (h.ks k hk)⟩
theorem WNew.later (h : WNew K w Q t) (hb : Below w.heap.size w w') : WNew K w' Q t := h.but (But.of_below hb (fun _ => False)) (fun _ _ h => h) (NoA.none w)
theorem WNew.ok (h : WNew K w Q t) : WOk K w w.heap.size t := by
  induction t using WV.ind with
  | h kind tag key txt sa attrs sk kids ih =>
    have h1 := h.at_
    have h2 := h.own
    simp only [WV.sa, WV.attrs] at h1
    simp only [WV.sk, WV.kids] at h2
    obtain ⟨A, n, c, hv, e1, e2, e3, e4, e5⟩ := h2.slice
    injection hv with v1 v2 v3
    subst v1; subst v2; subst v3
    exact ⟨h1.len, h1.cap, h1.nil, h1.holds, e1, e2, fun e => e4 e, e5, fun k hk => ih k hk (h.ks k hk)⟩
end
/-- blocks of one type that is not the attributes' -/
theorem kind_noA {S : Nat → Prop} {w : World} {e : TypeId} (he : e ≠ 75) (h : ∀ b, S b → ∃ cur, w.heap[b]? = some (.cells cur e (0, 0))) : NoA w S := fun k cur fr hk hc => by
  obtain ⟨c, h1⟩ := h k hk
  exact heap_ne hc h1 (fun e2 => he e2.symm) rfl
/-- a slice of one's own grows by one -/
theorem wants_grew {K : Kind Try.prog WV} (he : K.e ≠ 75) {w5 w7 : World} {o : Obj} {D : Nat} {A A7 : Option Addr} {n c n7 c7 : Nat} {l : List WV} {k : WV} {Q : Nat → Prop} (own : K.Own w5 D (.slice A n c) l)
    (ks : ∀ k ∈ l, WNew K w5 (fun b => Q b ∧ (Value.slice A n c).ownBlock ≠ some b) k) (hk : WNew K w5 (fun b => Q b ∧ (Value.slice A n c).ownBlock ≠ some b) k) (hg : (w5.alloc o).grownBy w7 (Value.slice A n c).ownBlock)
    (hat : (Value.slice A7 n7 c7).ownBlock = (Value.slice A n c).ownBlock ∨ (Value.slice A7 n7 c7).ownBlock = some (w5.alloc o).heap.size) :
    (∀ t ∈ l ++ [k], WNew K w7 (fun b => Q b ∧ (Value.slice A7 n7 c7).ownBlock ≠ some b) t) ∧ But (fun b => (Value.slice A n c).ownBlock = some b) w5 w7 := by
  have b7 : But (fun b => (Value.slice A n c).ownBlock = some b) w5 w7 := (But.alloc (But.refl _ _) _).trans (But.of_grown (S := fun i => (Value.slice A n c).ownBlock = some i) hg (fun i hi _ => hi)) (fun _ _ h => h)
  have hS : ∀ b, (Value.slice A n c).ownBlock = some b → ∃ cur, w5.heap[b]? = some (.cells cur K.e (0, 0)) := fun b e => own.ty e
  have key' : ∀ k : WV, WNew K w5 (fun b => Q b ∧ (Value.slice A n c).ownBlock ≠ some b) k → WNew K w7 (fun b => Q b ∧ (Value.slice A7 n7 c7).ownBlock ≠ some b) k := by
    intro k h
    have h1 : WNew K w5 (fun b => (Q b ∧ (Value.slice A n c).ownBlock ≠ some b) ∧ b < w5.heap.size) k := h.mono fun b hb hq => ⟨hq, hb⟩
    refine (h1.but b7 (fun b hq hs => hq.1.2 hs) (kind_noA he hS)).mono fun b _ hq => ⟨hq.1.1, fun e => ?_⟩
    rcases hat with h2 | h2
    · exact hq.1.2 (h2 ▸ e)
    · rw [h2] at e
      injection e with e
      have := hq.2
      simp at e
      omega
  refine ⟨fun t ht => ?_, b7⟩
  rcases List.mem_append.1 ht with h | h
  · exact key' t (ks t h)
  · rw [List.mem_singleton.1 h]; exact key' _ hk
/-- what is wanted of one's own, as a call tells it -/
def Wv (K : Kind Try.prog WV) (w : World) (l : List PW) (e : Ending) (w' : World) : Prop := ∃ (A : Option Addr) (n c : Nat) (ts : List WV), e = .returned (.slice A n c) ∧ erL ts = l ∧ K.Own w' w.heap.size (.slice A n c) ts ∧ (∀ t ∈ ts, WNew K w' (fun b => w.heap.size ≤ b ∧ (Value.slice A n c).ownBlock ≠ some b) t) ∧ Below w.heap.size w w'
theorem ownK_is {K : Kind Try.prog WV} {w : World} {D : Nat} {A : Option Addr} {n c : Nat} {l : List WV} (h : K.Own w D (.slice A n c) l) : l.length = n ∧ n ≤ c ∧ c ≤ maxLen ∧ (A = none → c = 0) ∧ K.Holds w w.heap.size A l := by
  obtain ⟨A', n', c', hv, e1, e2, e3, e4, e5⟩ := h.slice
  injection hv with h1 h2 h3
  subst h1; subst h2; subst h3
  exact ⟨e1, e2, e3, e4, e5⟩
end Go.Proofs.Ytfjnbjpenibpkaa.P14
