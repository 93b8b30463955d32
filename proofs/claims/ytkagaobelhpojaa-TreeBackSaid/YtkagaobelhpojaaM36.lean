/- A document's clone: the walk. -/
import Derived.Deep.RegionHeld3
import Derived.Deep.DeepCutAuto
import Derived.Deep.CutBlock
import Derived.Test.YtkagaobelhpojaaM27
import Derived.Test.YtkagaobelhpojaaM35
set_option linter.unusedVariables false
set_option linter.unusedSimpArgs false
namespace Go.Proofs.Ytkagaobelhpojaa.P5
open Go.RowKit Kd P4
variable {B p : Nat} {x : Dx}
def Clone5 (w : World) (x : Dx) (e : Ending) (w' : World) : Prop := ∃ (p' : Nat) (x' : Dx), e = .returned (.pointer (some ⟨p', 0, none⟩)) ∧ Dc w' w.heap.size p' x' ∧ x'.d = x.d ∧ Below w.heap.size w w'
theorem Cl.start {w w3 : World} {a' : Nat} {v' vi' : Value} (h : Dc w B p x) (hb : Below w.heap.size w w3) (ha : ArP w3 w.heap.size a' x.R x.n v' (x.rs.map slotOf)) (hi : kI.Own w3 w.heap.size vi' (idsOf x.l)) :
    Cl w (w3.alloc (.cells #[.pointer (some ⟨a', 0, none⟩), vi', .int .i64 x.foc] 78)) x w3.heap.size a' v' vi' x.rs 0 :=
  ⟨heap_alloc_new w3 _, hb.size, ha.below ((Below.refl _ _).alloc (Nat.le_refl _) _) (Nat.le_refl _), hi.alloc _, rfl, fun k _ _ => ⟨rfl, fun _ => rfl⟩, fun k _ hk => absurd hk (by omega), fun k _ hk => absurd hk (by omega), fun k m _ _ _ hm => absurd hm (by omega), hb.alloc hb.size _⟩
set_option maxHeartbeats 4000000 in
theorem dclone_any (w : World) (hwf : WF x.d) (h : Dc w B p x) : Calls Try.prog 17 #[.pointer (some ⟨p, 0, none⟩)] w (Clone5 w x) := by
  have H := Lib.hid h
  have HWF := Lib.hid hwf
  have hn : x.rs.length ≤ 1000 := by have := hwf.len200; rw [show x.d.l = x.l from rfl, l_len] at this; omega
  have c0 := h.c0
  have c1 := h.c1
  have c2 := h.c2
  obtain ⟨A, n, c, hv, _⟩ := h.ids.slice
  obtain ⟨h1, h2, h3, h4, h5⟩ := own_nil_zero h.ids hv
  have hn2 : n ≤ 1000000 := by rw [← h1]; simp [idsOf, Dx.l]; omega
  have H1 := Lib.hid h1
  have H4 := Lib.hid h4
  have H5 := Lib.hid h5
  have hp := heap_lt h.blk
  rw [hv] at c1
  have hlen : (idsOf x.l).length = x.rs.length := by simp [idsOf, Dx.l]
  have HLN := Lib.hid hlen
  clear h hwf h1 h2 h3 h4 h5 hv hlen
  go_enter Try.func17, Try.ntmps17
  go_upto_region 1 with fail
  go_region_held3 (fun w' => w'.cell? ⟨p, 0, none⟩ = some (.pointer (some ⟨x.a, 0, none⟩)) ∧ w'.cell? ⟨p, 1, none⟩ = some (.slice A n c) ∧ w'.cell? ⟨p, 2, none⟩ = some (.int .i64 x.foc)) (go_keep) ((first
    | (go_at_call 48; refine (cloneP_any _ (by exact (H.out.drewN _).ar)).mono ?_; rintro e w1 ⟨a', v', rfl, ar1, b1⟩; have AR1 := Lib.hid ar1; have B1 : Hid (Below w.heap.size w w1) := Lib.hid (((Below_drewN (Below.refl _ w) _)).trans b1); have k0 : w1.cell? ⟨p, 0, none⟩ = some (.pointer (some ⟨x.a, 0, none⟩)) := (B1.out.cell (p := ⟨p, 0, none⟩) hp).trans c0; have k1 : w1.cell? ⟨p, 1, none⟩ = some (.slice A n c) := (B1.out.cell (p := ⟨p, 1, none⟩) hp).trans c1; have k2 : w1.cell? ⟨p, 2, none⟩ = some (.int .i64 x.foc) := (B1.out.cell (p := ⟨p, 2, none⟩) hp).trans c2; clear ar1 b1)
    | (go_at_call 49; refine (cloneInt_any (idsOf x.l) A n c _ H1.out hn2 H4.out (H5.out.on B1.out)).mono ?_; rintro e w2 ⟨A1, n1, c1', rfl, o1, b2⟩; have O1 := Lib.hid o1; have B2 : Hid (Below w.heap.size w w2) := Lib.hid (B1.out.trans (b2.mono B1.out.size)); have AR2 := Lib.hid (AR1.out.below b2 (Nat.le_refl _)); have k3 : w2.cell? ⟨p, 0, none⟩ = some (.pointer (some ⟨x.a, 0, none⟩)) := (B2.out.cell (p := ⟨p, 0, none⟩) hp).trans c0; have k4 : w2.cell? ⟨p, 1, none⟩ = some (.slice A n c) := (B2.out.cell (p := ⟨p, 1, none⟩) hp).trans c1; have k5 : w2.cell? ⟨p, 2, none⟩ = some (.int .i64 x.foc) := (B2.out.cell (p := ⟨p, 2, none⟩) hp).trans c2; have BZ1 := Lib.hid b2.size; clear o1 b2)
    | fail))
  have CS := Lib.hid (Cl.start H.out B2.out AR2.out (O1.out.base_le B1.out.size))
  obtain ⟨g1, g2, g3, g4, g5⟩ := own_nil_zero (O1.out.base_le (B' := w.heap.size) B1.out.size) rfl
  have hn1 : n1 = x.rs.length := by rw [← g1]; exact HLN.out
  have HKI : Hid (kI.Holds (w2.alloc (.cells #[.pointer (some ⟨a', 0, none⟩), .slice A1 n1 c1', .int .i64 x.foc] 78)) (w2.alloc (.cells #[.pointer (some ⟨a', 0, none⟩), .slice A1 n1 c1', .int .i64 x.foc] 78)).heap.size A1 (idsOf x.l)) := Lib.hid (g5.on ((Below.refl _ _).alloc (Nat.le_refl _) _))
  have HN1 := Lib.hid hn1
  have hn1' : n1 ≤ 1000 := by omega
  clear g1 g2 g3 g4 g5 hn1 c0 c1 c2 k0 k1 k2 k3 k4 k5
  have hzp : w2.heap.size < (w2.alloc (.cells #[.pointer (some ⟨a', 0, none⟩), .slice A1 n1 c1', .int .i64 x.foc] 78)).heap.size := by simp
  generalize w2.heap.size = p' at CS hzp ⊢
  generalize w2.alloc (.cells #[.pointer (some ⟨a', 0, none⟩), .slice A1 n1 c1', .int .i64 x.foc] 78) = W at CS HKI hzp ⊢
  have q1 : W.cell? ⟨p', 1, none⟩ = some (.slice A1 n1 c1') := cell_of_row W p' 1 _ _ (0, 0) CS.out.blk
  go_wp2_with fail
  go_loopw [28] (fun s28 wr => ∃ (j : Nat) (rs : List Rw), j ≤ n1 ∧ s28 = .int .i64 j ∧ Hid (Cl w wr x p' a' v' (.slice A1 n1 c1') rs j) ∧ Hid (∀ (k : Nat) (hk : k < (idsOf x.l).length), ∃ gb go, A1 = some ⟨gb, go, none⟩ ∧ wr.cell? ⟨gb, go + k, none⟩ = some (.int .i64 (idsOf x.l)[k]))) (fun s28 _ => n1 - (intOf s28).toNat)
  case atStart => exact ⟨0, x.rs, by omega, rfl, CS, Lib.hid (fun k hk => by obtain ⟨gb, go, hA, _, hc⟩ := cell_int HKI.out hk; exact ⟨gb, go, hA, hc⟩)⟩
  case round =>
    obtain ⟨j, rs, hj, rfl, HC, HI⟩ := hrel
    by_cases hjn : j < n1
    · have hjx : j < x.rs.length := by have := HN1.out; omega
      have hjr : j < rs.length := by have := HC.out.len; omega
      have hji : j < (idsOf x.l).length := by have := HLN.out; omega
      obtain ⟨gb, go, rfl, hc⟩ := HI.out j hji
      obtain ⟨e1, e2⟩ := HC.out.same j hjr hjx
      have e3 := e2 (Nat.le_refl _)
      have hid : (idsOf x.l)[j] = rs[j].nd.id := by rw [e1]; simp [idsOf, Dx.l]
      rw [hid] at hc
      have hnd := H.out.nd hjx
      rw [← e3] at hnd
      have NDJ := Lib.hid (hnd.below_ HC.out.below)
      obtain ⟨hka, hkl⟩ : rs[j].nd.attrs.length ≤ 1000 ∧ rs[j].nd.kids.length ≤ 1000 := by
        have hm : x.rs[j].nd ∈ x.d.l := List.mem_map.2 ⟨_, List.getElem_mem hjx, rfl⟩
        have h1 := HWF.out.att _ hm
        have h2 := HWF.out.kids_len hm
        rw [e1]
        omega
      obtain ⟨bj, hbj⟩ : ∃ b, rs[j].b = b := ⟨_, rfl⟩
      have HBJ := Lib.hid hbj
      obtain ⟨nd, hnd2⟩ : ∃ nd, rs[j].nd = nd := ⟨_, rfl⟩
      have HND := Lib.hid hnd2
      obtain ⟨Aa, na, ca, hva⟩ : ∃ A n c, rs[j].va = ⟨A, n, c⟩ := ⟨_, _, _, rfl⟩
      obtain ⟨Ak, nk, ck, hvk⟩ : ∃ A n c, rs[j].vk = ⟨A, n, c⟩ := ⟨_, _, _, rfl⟩
      have NBJ : Hid (wr.heap[bj]? = some (.cells #[.int .i64 nd.id, .int .i64 nd.par, .string nd.tag, .string nd.txt, .string nd.key, .slice Aa na ca, .slice Ak nk ck, .int .i64 nd.note] 52 (0, 0))) := Lib.hid (by have := NDJ.out.blk; rw [hbj, hnd2, hva, hvk] at this; exact this)
      have ATJ : Hid (AOk wr ⟨Aa, na, ca⟩ nd.attrs) := Lib.hid (by have := NDJ.out.att; rw [hnd2, hva] at this; exact this)
      have KDJ : Hid (kI.Own wr B (.slice Ak nk ck) nd.kids) := Lib.hid (by have := NDJ.out.kids; rw [hnd2, hvk] at this; exact this)
      rw [hnd2] at hka hkl hc
      clear e1 e2 e3 hid hnd hbj hnd2 hva hvk
      have q0 : wr.cell? ⟨p', 0, none⟩ = some (.pointer (some ⟨a', 0, none⟩)) := cell_of_row wr p' 0 _ _ (0, 0) HC.out.blk
      have hplt : p' < wr.heap.size := heap_lt HC.out.blk
      go_wp2_with fail
      refine (node_ar nd.id wr hjr (by rw [HND.out]) HBJ.out q0 HC.out.ar).mono ?_
      rintro e w5 ⟨rfl, b5⟩
      have B5 := Lib.hid b5
      have N5 : Hid (w5.heap[bj]? = _) := Lib.hid ((b5.block bj (heap_lt NBJ.out)).trans NBJ.out)
      have e0 : w5.cell? ⟨bj, 0, none⟩ = some (.int .i64 nd.id) := cell_of_row w5 _ 0 _ _ (0, 0) N5.out
      have e1 : w5.cell? ⟨bj, 1, none⟩ = some (.int .i64 nd.par) := cell_of_row w5 _ 1 _ _ (0, 0) N5.out
      have e2 : w5.cell? ⟨bj, 2, none⟩ = some (.string nd.tag) := cell_of_row w5 _ 2 _ _ (0, 0) N5.out
      have e3 : w5.cell? ⟨bj, 3, none⟩ = some (.string nd.txt) := cell_of_row w5 _ 3 _ _ (0, 0) N5.out
      have e4 : w5.cell? ⟨bj, 4, none⟩ = some (.string nd.key) := cell_of_row w5 _ 4 _ _ (0, 0) N5.out
      have e5 : w5.cell? ⟨bj, 5, none⟩ = some (.slice Aa na ca) := cell_of_row w5 _ 5 _ _ (0, 0) N5.out
      have e6 : w5.cell? ⟨bj, 6, none⟩ = some (.slice Ak nk ck) := cell_of_row w5 _ 6 _ _ (0, 0) N5.out
      have e7 : w5.cell? ⟨bj, 7, none⟩ = some (.int .i64 nd.note) := cell_of_row w5 _ 7 _ _ (0, 0) N5.out
      clear b5
      go_wp2_with fail
      refine (own_any (B := B) nd w5 (ATJ.out.below B5.out) hka hkl (KDJ.out.below B5.out (Nat.le_refl _))).mono ?_
      rintro e w6 ⟨A', n', c', A2', n2', c2', rfl, a6, o6, b6⟩
      have B6 := Lib.hid (B5.out.trans (b6.mono B5.out.size))
      have A6 := Lib.hid a6
      have O6 := Lib.hid o6
      have hz6 : wr.heap.size ≤ w5.heap.size := B5.out.size
      have hp6 : p' < w6.heap.size := by have := B6.out.size; omega
      have q6 : w6.cell? ⟨p', 0, none⟩ = some (.pointer (some ⟨a', 0, none⟩)) := (B6.out.cell (p := ⟨p', 0, none⟩) hplt).trans q0
      have AR6 := Lib.hid (HC.out.ar.below B6.out (Nat.le_refl _))
      clear a6 o6 b6 e0 e1 e2 e3 e4 e5 e6 e7 q0
      go_upto_region 6 with fail
      have AR7 : Hid (ArP (w6.alloc (.cells #[.int .i64 nd.id, .int .i64 nd.par, .string nd.tag, .string nd.txt, .string nd.key, .slice A' n' c', .slice A2' n2' c2', .int .i64 nd.note] 52)) w.heap.size a' x.R x.n v' (rs.map slotOf)) := Lib.hid (AR6.out.below ((Below.refl _ _).alloc (Nat.le_refl _) _) (Nat.le_refl _))
      have q7 : (w6.alloc (.cells #[.int .i64 nd.id, .int .i64 nd.par, .string nd.tag, .string nd.txt, .string nd.key, .slice A' n' c', .slice A2' n2' c2', .int .i64 nd.note] 52)).cell? ⟨p', 0, none⟩ = some (.pointer (some ⟨a', 0, none⟩)) := (((Below.refl _ _).alloc (Nat.le_refl _) _).cell (p := ⟨p', 0, none⟩) hp6).trans q6
      have W7E : Hid (w6.alloc (.cells #[.int .i64 nd.id, .int .i64 nd.par, .string nd.tag, .string nd.txt, .string nd.key, .slice A' n' c', .slice A2' n2' c2', .int .i64 nd.note] 52) = w6.alloc (.cells (nd.cells ⟨A', n', c'⟩ ⟨A2', n2', c2'⟩) 52)) := Lib.hid rfl
      have BA7 : Hid (Below w6.heap.size w6 (w6.alloc (.cells #[.int .i64 nd.id, .int .i64 nd.par, .string nd.tag, .string nd.txt, .string nd.key, .slice A' n' c', .slice A2' n2' c2', .int .i64 nd.note] 52))) := Lib.hid ((Below.refl _ _).alloc (Nat.le_refl _) _)
      clear q6
      generalize w6.alloc (.cells #[.int .i64 nd.id, .int .i64 nd.par, .string nd.tag, .string nd.txt, .string nd.key, .slice A' n' c', .slice A2' n2' c2', .int .i64 nd.note] 52) = W7 at AR7 q7 W7E BA7 ⊢
      have hasj : P4.hasA (rs.map slotOf) nd.id = true := by
        have := hasA_at HC.out.ar.asc (k := j) (by simpa using hjr)
        rw [List.getElem_map] at this
        rw [← HND.out]
        exact this
      have HAJ := Lib.hid hasj
      clear hasj
      go_wp2_with fail
      refine (setP_yes nd.id w6.heap.size W7 HAJ.out AR7.out).mono ?_
      rintro e w8 ⟨rfl, ar8, but8⟩
      have CN : Hid (Cl w w8 x p' a' v' (.slice (some ⟨gb, go, none⟩) n1 c1') (rs.set j ⟨w6.heap.size, ⟨A', n', c'⟩, ⟨A2', n2', c2'⟩, rs[j].nd⟩) (j + 1)) := Lib.hid (by
        refine HC.out.step hjr (C := w5.heap.size) B6.out (by rw [HND.out]; exact A6.out) hz6 (by rw [HND.out]; exact O6.out) (by rw [HND.out]; exact ar8) ?_
        rw [HND.out, ← W7E.out]
        exact but8)
      have KI8 : Hid (∀ (k : Nat) (hk : k < (idsOf x.l).length), ∃ gb' go', (some ⟨gb, go, none⟩ : Option Addr) = some ⟨gb', go', none⟩ ∧ w8.cell? ⟨gb', go' + k, none⟩ = some (.int .i64 (idsOf x.l)[k])) := Lib.hid (fun k hk => by
        obtain ⟨_, _, _, _, hh⟩ := own_nil_zero CN.out.ids rfl
        obtain ⟨gb', go', e', _, hc'⟩ := cell_int hh hk
        exact ⟨gb', go', e', hc'⟩)
      clear ar8 but8 q7
      go_wp2_with fail
      go_roundw
      case rel => exact ⟨j + 1, _, by omega, by go_num, CN, KI8⟩
      case measure => simp [intOf]; omega
    · obtain rfl : j = n1 := by omega
      have CD := Lib.hid (Cl.done (by have := HC.out; rw [HN1.out] at this; exact this))
      have BD := Lib.hid HC.out.below
      go_wp2_with fail
      go_ret
      exact ⟨p', _, rfl, CD.out.1, CD.out.2, BD.out⟩
end Go.Proofs.Ytkagaobelhpojaa.P5

/- A document of the program's beside the reference's: what one does leaves the other as it was; the codes of errors. -/
namespace Go.Proofs.Ytkagaobelhpojaa.P5
open Go.RowKit Kd P4
variable {B p q : Nat} {x x' : Dx} {y y' : Rx}
section
variable {w w' : World}
structure Par (w : World) (B p q : Nat) (x : Dx) (y : Rx) : Prop where
  dc : Dc w B p x
  rf : Rf w B q y
  ap : ∀ k, foot p x k → ¬ rfoot q y k
theorem Par.below (h : Par w B p q x y) (hb : Below w.heap.size w w') : Par w' B p q x y := ⟨h.dc.below hb, h.rf.below hb, h.ap⟩
theorem Par.drewN (h : Par w B p q x y) (n : Nat) : Par (w.drewN n) B p q x y := h.below (Below_drewN (Below.refl _ _) n)
theorem Par.did (h : Par w B p q x y) (k : Did w B p x x' w') : Par w' B p q x' y := by
  refine ⟨k.dc, h.rf.but k.but (fun i hi hf => h.ap i hf hi) h.dc.noA, fun i hi hr => ?_⟩
  rcases k.ft i hi with e | e
  · exact h.ap i e hr
  · have := h.rf.lt hr; omega
theorem Par.rdid (h : Par w B p q x y) (k : Rdid w B q y y' w') : Par w' B p q x y' := by
  refine ⟨h.dc.but k.but (fun i hi e => h.ap i hi (e ▸ .inl rfl)) (q_noA h.rf), k.rf, fun i hi hr => ?_⟩
  rcases k.ft i hr with e | e
  · exact h.ap i hi e
  · have := h.dc.lt hi; omega
/-- it is gone on with a document that is all new -/
theorem Par.fresh (h : Par w B p q x y) (hb : Below w.heap.size w w') {p' : Nat} (hd : Dc w' w.heap.size p' x') : Par w' B p' q x' y :=
  ⟨hd.base_le (by have := h.dc.base; have := heap_lt h.dc.blk; omega), h.rf.below hb, fun i hi hr => by have := hd.ge hi; have := h.rf.lt hr; omega⟩
/-- and the old one may change -/
theorem Par.old {p' : Nat} {x2 : Dx} (h : Par w B p' q x' y) {C : Nat} (hC : ∀ i, foot p x i → i < C) (hg : ∀ i, foot p' x' i → C ≤ i) (ho : ∀ i, foot p x i → ¬ rfoot q y i) (hx : Dc w B p x) (k : Did w B p x x2 w') : Par w' B p' q x' y :=
  ⟨h.dc.but k.but (fun i hi e => by have := hC i e; have := hg i hi; omega) hx.noA, h.rf.but k.but (fun i hi e => ho i e hi) hx.noA, h.ap⟩
/-- a deed in a block of its own -/
def DE (w : World) (g : Nat) (d : RE) : Prop := w.heap[g]? = some (.cells #[.int .i64 d.what, .bool d.next, .int .i64 d.op, .int .i64 d.rid, .int .i64 d.par, .int .i64 d.bef, .string d.tag, .string d.txt, .string d.key, .slice d.va.A d.va.n d.va.c, .int .i64 d.id, .int .i64 d.n] 37 (0, 0))
variable {g : Nat} {d : RE}
theorem DE.new (w : World) (d : RE) : DE (w.alloc (.cells #[.int .i64 d.what, .bool d.next, .int .i64 d.op, .int .i64 d.rid, .int .i64 d.par, .int .i64 d.bef, .string d.tag, .string d.txt, .string d.key, .slice d.va.A d.va.n d.va.c, .int .i64 d.id, .int .i64 d.n] 37)) w.heap.size d := heap_alloc_new w _
theorem DE.below {C : Nat} (h : DE w g d) (hb : Below C w w') (hC : g < C) : DE w' g d := (hb.block g hC).trans h
theorem DE.lt (h : DE w g d) : g < w.heap.size := heap_lt h
theorem DE.did (h : DE w g d) (hx : Dc w B p x) (k : Did w B p x x' w') : DE w' g d := (k.but.block g h.lt (hx.other h (by decide) (by decide) (by decide) (by decide) (by decide))).trans h
theorem DE.rdid (h : DE w g d) (hy : Rf w B q y) (k : Rdid w B q y y' w') : DE w' g d := (k.but.block g h.lt (fun e => by subst e; exact heap_ne hy.blk h (by decide) rfl)).trans h
theorem DE.c0 (h : DE w g d) : w.cell? ⟨g, 0, none⟩ = some (.int .i64 d.what) := cell_of_row w g 0 _ _ (0, 0) h
theorem DE.c1 (h : DE w g d) : w.cell? ⟨g, 1, none⟩ = some (.bool d.next) := cell_of_row w g 1 _ _ (0, 0) h
theorem DE.c2 (h : DE w g d) : w.cell? ⟨g, 2, none⟩ = some (.int .i64 d.op) := cell_of_row w g 2 _ _ (0, 0) h
theorem DE.c3 (h : DE w g d) : w.cell? ⟨g, 3, none⟩ = some (.int .i64 d.rid) := cell_of_row w g 3 _ _ (0, 0) h
theorem DE.c4 (h : DE w g d) : w.cell? ⟨g, 4, none⟩ = some (.int .i64 d.par) := cell_of_row w g 4 _ _ (0, 0) h
theorem DE.c5 (h : DE w g d) : w.cell? ⟨g, 5, none⟩ = some (.int .i64 d.bef) := cell_of_row w g 5 _ _ (0, 0) h
theorem DE.c6 (h : DE w g d) : w.cell? ⟨g, 6, none⟩ = some (.string d.tag) := cell_of_row w g 6 _ _ (0, 0) h
theorem DE.c7 (h : DE w g d) : w.cell? ⟨g, 7, none⟩ = some (.string d.txt) := cell_of_row w g 7 _ _ (0, 0) h
theorem DE.c8 (h : DE w g d) : w.cell? ⟨g, 8, none⟩ = some (.string d.key) := cell_of_row w g 8 _ _ (0, 0) h
theorem DE.c9 (h : DE w g d) : w.cell? ⟨g, 9, none⟩ = some (.slice d.va.A d.va.n d.va.c) := cell_of_row w g 9 _ _ (0, 0) h
theorem DE.c10 (h : DE w g d) : w.cell? ⟨g, 10, none⟩ = some (.int .i64 d.id) := cell_of_row w g 10 _ _ (0, 0) h
theorem DE.c11 (h : DE w g d) : w.cell? ⟨g, 11, none⟩ = some (.int .i64 d.n) := cell_of_row w g 11 _ _ (0, 0) h

theorem RcB.did {r : Rc} {A : Option Addr} {n c : Nat} (h : RcB w g r A n c) (hx : Dc w B p x) (k : Did w B p x x' w') : RcB w' g r A n c := (k.but.block g h.lt (hx.other h (by decide) (by decide) (by decide) (by decide) (by decide))).trans h
end
/-! ### Codes -/
set_option maxHeartbeats 400000 in
theorem codeV_any (c : Int) (h0 : 0 ≤ c) (h13 : c ≤ 13) (w : World) : Calls Try.prog 12 #[errV c] w fun e w' => e = .returned (.int .i64 c) ∧ w = w' := by
  by_cases hc : c = 0
  · subst hc
    rw [errV0]
    have q1 := nil_eql_nil
    go_enter Try.func12, Try.ntmps12
    go_wp2
    go_ret
    exact ⟨rfl, rfl⟩
  · obtain ⟨m, rfl⟩ := Int.eq_ofNat_of_zero_le h0
    have e : errV (m : Int) = .iface 29 (.int .i64 (m : Int)) := by unfold errV; rw [if_neg hc]
    rw [e]
    exact code_any m (by omega) (by omega) w
theorem focus_code (d : D) (i : Int) : 0 ≤ (focusD d i).1 ∧ (focusD d i).1 ≤ 13 := by unfold focusD; split <;> exact ⟨by simp, by simp⟩
theorem note_code (d : D) (i n : Int) : 0 ≤ (noteD d i n).1 ∧ (noteD d i n).1 ≤ 13 := by unfold noteD; split <;> exact ⟨by simp, by simp⟩
theorem put_code (l : List Nd) (i p b : Int) : 0 ≤ putErr l i p b ∧ putErr l i p b ≤ 13 := by
  unfold putErr
  split
  · omega
  split
  · omega
  split
  · omega
  split
  · omega
  split <;> omega
theorem apply_code (d : D) (r : Rc) : 0 ≤ (applyD d r).1 ∧ (applyD d r).1 ≤ 13 := by
  unfold applyD
  split
  · unfold makeD
    split
    · exact ⟨by simp, by simp⟩
    · split <;> exact ⟨by simp, by simp⟩
  split
  · unfold putD
    have := put_code d.l r.id r.par r.bef
    split <;> simp <;> omega
  split
  · unfold goneD
    split
    · exact ⟨by simp, by simp⟩
    · split <;> exact ⟨by simp, by simp⟩
  split
  · unfold attrsD
    split
    · exact ⟨by simp, by simp⟩
    split
    · exact ⟨by simp, by simp⟩
    split <;> exact ⟨by simp, by simp⟩
  split
  · unfold dataD
    split
    · exact ⟨by simp, by simp⟩
    split
    · exact ⟨by simp, by simp⟩
    split <;> exact ⟨by simp, by simp⟩
  exact ⟨by simp, by simp⟩
theorem note_n (d : D) (i v : Int) : (noteD d i v).2.n = d.n := by unfold noteD; split <;> rfl
/-! ### The calls, of a code that has a name -/
theorem setFocus_c {c : Int} (i : Int) (w : World) (hc : (focusD x.d i).1 = c) (h : Dc w B p x) : Calls Try.prog 13 #[.pointer (some ⟨p, 0, none⟩), .int .i64 i] w (Made w B p x (errV c) (focusD x.d i).2) := by subst hc; exact setFocus_any i w h
theorem note_c {c : Int} (i n : Int) (w : World) (hc : (noteD x.d i n).1 = c) (h : Dc w B p x) : Calls Try.prog 15 #[.pointer (some ⟨p, 0, none⟩), .int .i64 i, .int .i64 n] w (Made w B p x (errV c) (noteD x.d i n).2) := by subst hc; exact note_any i n w h
theorem apply_c {c' : Int} (r : Rc) (A : Option Addr) (n c : Nat) (w : World) (hc : (applyD x.d r).1 = c') (hwf : WF x.d) (hn : x.n ≤ 100000) (ha : ArgR w A n c r) (h : Dc w B p x) : Calls Try.prog 18 #[.pointer (some ⟨p, 0, none⟩), .agg #[.int .i64 r.op, .int .i64 r.id, .int .i64 r.par, .int .i64 r.bef, .string r.tag, .string r.txt, .string r.key, .slice A n c]] w (Made w B p x (errV c') (applyD x.d r).2) := by subst hc; exact apply_any r A n c w hwf hn ha h
theorem rfocus_c {c : Int} (i : Int) (w : World) (hc : (focusD y.d i).1 = c) (hwf : WF y.d) (h : Rf w B q y) : Calls Try.prog 14 #[.pointer (some ⟨q, 0, none⟩), .int .i64 i] w (RMade w B q y c (focusD y.d i).2) := by
  subst hc; exact rfocus_any i w hwf.asc (by have := hwf.len200; rw [show y.d.l = y.l from rfl, rl_len] at this; omega) h
theorem rnote_c {c : Int} (i v : Int) (w : World) (hc : (noteD y.d i v).1 = c) (hwf : WF y.d) (h : Rf w B q y) : Calls Try.prog 16 #[.pointer (some ⟨q, 0, none⟩), .int .i64 i, .int .i64 v] w (RMade w B q y c (noteD y.d i v).2) := by
  subst hc; exact rnote_any i v w hwf.asc (by have := hwf.len200; rw [show y.d.l = y.l from rfl, rl_len] at this; omega) h
theorem rapply_c {c' : Int} (r : Rc) (A : Option Addr) (n c : Nat) (w : World) (hc : (applyD y.d r).1 = c') (hwf : WF y.d) (hn : y.n ≤ 100000) (ha : ArgR w A n c r) (h : Rf w B q y) : Calls Try.prog 21 #[.pointer (some ⟨q, 0, none⟩), .agg #[.int .i64 r.op, .int .i64 r.id, .int .i64 r.par, .int .i64 r.bef, .string r.tag, .string r.txt, .string r.key, .slice A n c]] w (RMade w B q y c' (applyD y.d r).2) := by
  subst hc; exact rapply_any r A n c w hwf hn ha.tag ha.txt ha.key ha.at_ h
end Go.Proofs.Ytkagaobelhpojaa.P5
