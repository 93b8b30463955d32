/- The program's ways up: node, Up, Contains, Inside. -/
import Derived.Test.YtihjdmdafiifhaaGreatM18
import Derived.Test.YtihjdmdafiifhaaGreatM19
import Derived.Test.YtihjdmdafiifhaaGreatM21
import Derived.Test.YtihjdmdafiifhaaGreatM24
import Derived.Test.YtihjdmdafiifhaaGreatM31
import Derived.Test.YtihjdmdafiifhaaGreatM33
set_option linter.unusedVariables false
set_option linter.unusedSimpArgs false
set_option linter.unusedVariables false
set_option linter.unusedSimpArgs false
namespace Go.Proofs.YtihjdmdafiifhaaGreat.P6
open Go.RowKit Kd P4 P5
variable {B p : Nat} {x : Dx}
def NoNode (w : World) (e : Ending) (w' : World) : Prop := e = .returned (.tuple #[.agg #[.int .i64 0, .int .i64 0, .string ⟨#[]⟩, .string ⟨#[]⟩, .string ⟨#[]⟩, .slice none 0 0, .slice none 0 0, .int .i64 0], .bool false]) ∧ Below w.heap.size w w'
/-! ### Contains -/
set_option maxHeartbeats 400000 in
theorem index_no (l : List Int) (t : Int) (A : Option Addr) (n c : Nat) (w : World) (hn : l.length = n) (hn2 : n ≤ 1000000) (ht : t ∉ l) (H : kI.Holds w w.heap.size A l) :
    Calls Tryz.prog 23 #[.slice A n c, .int .i64 t] w fun e w' => e = .returned (.int .i64 (-1)) ∧ w = w' := by
  have HH := Lib.hid H
  have HN := Lib.hid hn
  have HT := Lib.hid ht
  clear H hn ht
  go_enter Tryz.func23, Tryz.ntmps23
  go_wp2_with fail
  go_loop [8] (fun i => ∃ k : Nat, k ≤ n ∧ i = .int .i64 k) (fun i => n - (intOf i).toNat)
  case atStart => exact ⟨0, by omega, rfl⟩
  case round =>
    obtain ⟨k, hk, rfl⟩ := hrel
    by_cases hlt : k < n
    · have hkl : k < l.length := by have := HN.out; omega
      obtain ⟨b, o, rfl, hb, hc⟩ := cell_int HH.out hkl
      have hq : (t == l[k]) = false := beq_eq_false_iff_ne.2 (fun e => HT.out (e ▸ List.getElem_mem hkl))
      go_wp2
      go_round
      case rel => exact ⟨k + 1, by omega, by go_num⟩
      case measure => simp [intOf]; omega
    · go_wp2
      go_ret
      exact ⟨rfl, rfl⟩
theorem idx_mem {l : List Int} {t : Int} (h : t ∈ l) : (0 : Int) ≤ (idxA l t : Int) := by omega
/-! ### A node in a block of its own -/
/-- the block holds the node of that identity, if there is one; its children lie in memory that is new since C -/
structure Box (w : World) (C g : Nat) (l : List Nd) (cur : Int) : Prop where
  ge : C ≤ g
  at_ : ∃ nd A n c A2 n2 c2, NdB w g nd A n c A2 n2 c2 ∧ kI.Own w C (.slice A2 n2 c2) nd.kids ∧ (hasL l cur = true → nd.id = cur ∧ nd.par = parOf l cur ∧ nd.kids = kidsOf l cur)
theorem Box.below {w w' : World} {C g : Nat} {l : List Nd} {cur : Int} (h : Box w C g l cur) (hb : Below w.heap.size w w') : Box w' C g l cur := by
  obtain ⟨nd, A, n, c, A2, n2, c2, h1, h2, h3⟩ := h.at_
  exact ⟨h.ge, nd, A, n, c, A2, n2, c2, h1.below hb h1.lt, h2.below hb (Nat.le_refl _), h3⟩
theorem wf_kids (hwf : WF x.d) {w : World} (h : Dc w B p x) {k : Nat} (hk : k < x.rs.length) {i : Int} (hy : x.rs[k].nd.id = i) : x.rs[k].nd.id = i ∧ x.rs[k].nd.par = parOf x.l i ∧ x.rs[k].nd.kids = kidsOf x.l i ∧ x.rs[k].nd.attrs.length ≤ 1000 ∧ x.rs[k].nd.kids.length ≤ 1000 := by
  have h1 := tag_at h hk hy
  have h2 := nd_kids h hwf hk
  exact ⟨hy, h1.2.1.symm, h1.2.2.symm, h2.1, h2.2.1⟩
def zNd : Nd := ⟨0, 0, ⟨#[]⟩, ⟨#[]⟩, ⟨#[]⟩, [], [], 0⟩

/-! ### Up -/
def UpRel (w : World) (x : Dx) (i : Int) (N : Nat) (s5 s6 s7 : Value) (wr : World) : Prop := ∃ (g j : Nat) (ok : Bool) (acc : List Int), s6 = .pointer (some ⟨g, 0, none⟩) ∧ s7 = .bool ok ∧ acc.length = j ∧ j ≤ N + 1 ∧ Hid (ok = hasL x.l (it (parOf x.l) j i)) ∧ Hid (Box wr w.heap.size g x.l (it (parOf x.l) j i)) ∧ Hid (kI.Own wr w.heap.size s5 acc) ∧ Hid (aboveL x.l i = acc ++ up (hasL x.l) (parOf x.l) (N + 1 - j) (it (parOf x.l) j i)) ∧ Hid (0 < j → hasL x.l i = true) ∧ Hid (Below w.heap.size w wr)
/-! ### Inside -/
end Go.Proofs.YtihjdmdafiifhaaGreat.P6

/- The program's ways down: appendAll, All, At. -/
set_option linter.unusedVariables false
set_option linter.unusedSimpArgs false
namespace Go.Proofs.YtihjdmdafiifhaaGreat.P6
open Go.RowKit Kd P4 P5
variable {B p : Nat} {x : Dx}
/-! ### All -/
def Apd (w : World) (C : Nat) (v : Value) (l : List Int) (e : Ending) (w' : World) : Prop :=
  ∃ A n c, e = .returned (.slice A n c) ∧ kI.Own w' C (.slice A n c) l ∧ But (fun k => v.ownBlock = some k) w w' ∧ ∀ g, (Value.slice A n c).ownBlock = some g → v.ownBlock = some g ∨ w.heap.size ≤ g
def ApRel (w : World) (C : Nat) (v kv : Value) (acc kids : List Int) (i : Int) (K : Int → List Int) (f nk : Nat) (s0 s27 : Value) (wr : World) : Prop :=
  ∃ (j : Nat) (A : Option Addr) (n c : Nat), s27 = .int .i64 j ∧ j ≤ nk ∧ s0 = .slice A n c ∧ Hid (kI.Own wr C s0 (acc ++ i :: upto K f i j)) ∧ Hid (But (fun k => v.ownBlock = some k) w wr) ∧ Hid (∀ g, s0.ownBlock = some g → v.ownBlock = some g ∨ w.heap.size ≤ g) ∧ Hid (kI.Own wr w.heap.size kv kids) ∧ Hid (Apart s0 kv)
theorem intA {w : World} {C : Nat} {v : Value} {l : List Int} (h : kI.Own w C v l) : NoA w (fun k => v.ownBlock = some k) := fun k cur fr hk hc => by
  obtain ⟨d, hd⟩ := h.ty hk
  exact heap_ne hd hc (by decide) rfl
def allL (l : List Nd) (i : Int) : List Int := if hasL l i = true then below l i else []
/-! ### At -/
def AtRel (w : World) (x : Dx) (ps : List Int) (g : Nat) (s7 s17 : Value) (wr : World) : Prop :=
  ∃ (j : Nat) (cur : Int), s17 = .int .i64 j ∧ s7 = .bool true ∧ j ≤ ps.length ∧ Hid (hasL x.l cur = true) ∧ Hid (Box wr w.heap.size g x.l cur) ∧ Hid (downL x.l 1 ps = downL x.l cur (ps.drop j)) ∧ Hid (Below w.heap.size w wr)
def Downed (w : World) (r : Int × Bool) (e : Ending) (w' : World) : Prop := e = .returned (.tuple #[.int .i64 r.1, .bool r.2]) ∧ Below w.heap.size w w'
theorem downed_none {w w' : World} {o : Option Int} (h : o = none) (hb : Below w.heap.size w w') : Downed w (downA o) (.returned (.tuple #[.int .i64 0, .bool false])) w' := by subst h; exact ⟨rfl, hb⟩
theorem downed_some {w w' : World} {o : Option Int} {i : Int} (h : o = some i) (hb : Below w.heap.size w w') : Downed w (downA o) (.returned (.tuple #[.int .i64 i, .bool true])) w' := by subst h; exact ⟨rfl, hb⟩
end Go.Proofs.YtihjdmdafiifhaaGreat.P6

/- The reference: down by places; all below what isn't there. -/
set_option linter.unusedVariables false
set_option linter.unusedSimpArgs false
namespace Go.Proofs.YtihjdmdafiifhaaGreat.P6
open Go.RowKit Kd P4 P5
variable {B q : Nat} {y : Rx}
set_option maxHeartbeats 400000 in
theorem rall_any (i : Int) (w : World) (hwf : WF y.d) (h : Rf w B q y) : Calls Tryz.prog 64 #[.pointer (some ⟨q, 0, none⟩), .int .i64 i] w (GotInts w (allL y.l i)) := by
  have ha : Asc y.l := hwf.asc
  have hl : y.rs.length ≤ 1000 := by have := hwf.len200; rw [show y.d.l = y.l from rfl, rl_len] at this; omega
  cases hi : hasL y.l i with
  | true =>
    have e : allL y.l i = sub (kidsOf y.l) (y.l.length + 1) i := by unfold allL; rw [if_pos hi]; rfl
    rw [e]
    have hb : Hb (kidsOf y.l) (y.l.length + 1) i := by
      have h1 : Hb (kidsOf y.l) ((idsOf y.l).length + 1) i := hwf.tr.hb_all (L := idsOf y.l) (fun y hy => has_ids.1 hy) (y := i) hi
      simpa [idsOf] using h1
    refine all_any hwf.tr ha hl (fun f c hc => ?_) _ i w hb hi h
    have h1 := nodup_len (sub (kidsOf y.l) f c) (idsOf y.l) (hwf.tr.sub_nodup f c hc) (fun z hz => has_ids.1 (hwf.tr.sub_h f c z hc hz))
    simp only [idsOf, List.length_map, rl_len] at h1
    omega
  | false =>
    have e : allL y.l i = [] := by unfold allL; rw [if_neg (by rw [hi]; simp)]
    rw [e]
    have HI := Lib.hid hi
    have H := Lib.hid h
    clear hi h ha hwf e
    go_enter Tryz.func64, Tryz.ntmps64
    go_wp2_with fail
    refine (at_no i w hl HI.out H.out).mono ?_
    rintro e w' ⟨rfl, rfl⟩
    go_wp2_with fail
    go_ret
    exact ⟨none, 0, 0, rfl, Kind.Own.nil _ _ _, Below.refl _ _⟩
end Go.Proofs.YtihjdmdafiifhaaGreat.P6

/- Few, at any bound. No condition but that it is small. -/
set_option linter.unusedVariables false
set_option linter.unusedSimpArgs false
namespace Go.Proofs.YtihjdmdafiifhaaGreat.P5
open Go.RowKit Kd P4
variable {B p : Nat} {x : Dx}
def FewM (most : Nat) (w : World) (l : List RE) (e : Ending) (w' : World) : Prop :=
  ∃ f : Int, e = .returned (.int .i64 f) ∧ (f = 0 ∨ f = 1 ∧ l.length ≤ most ∧ ∀ r ∈ l, r.va.n ≤ 20) ∧ Below w.heap.size w w'
theorem fewM_no {most : Nat} {w w' : World} {l : List RE} (hb : Below w.heap.size w w') : FewM most w l (.returned (.int .i64 0)) w' := ⟨0, rfl, .inl rfl, hb⟩
set_option maxHeartbeats 1000000 in
theorem fewM_any (most : Nat) (hmost : most ≤ 1000000) (l : List RE) (A : Option Addr) (n c : Nat) (w : World) (hn : l.length = n) (hm : n ≤ maxLen) (H : kE.Holds w w.heap.size A l) (hd : ∀ r ∈ l, DeedOk w r) :
    Calls Tryz.prog 6 #[.slice A n c, .int .i64 most] w (FewM most w l) := by
  unfold maxLen at hm
  have HH := Lib.hid H
  have HN := Lib.hid hn
  have HD := Lib.hid hd
  clear H hn hd
  go_enter Tryz.func6, Tryz.ntmps6
  go_wp2_with fail
  go_loopw [5] (fun i wr => ∃ k : Nat, k ≤ n ∧ k ≤ most ∧ i = .int .i64 k ∧ Hid (∀ j (h : j < l.length), j < k → l[j].va.n ≤ 20) ∧ Hid (Below w.heap.size w wr)) (fun i _ => n - (intOf i).toNat)
  case atStart => exact ⟨0, by omega, by omega, rfl, Lib.hid (fun j _ h => by omega), Lib.hid (Below.refl _ _)⟩
  case round =>
    obtain ⟨k, hk, hkM, rfl, HS, HW⟩ := hrel
    by_cases hlt : k < n
    · by_cases hM : k < most
      · have hkl : k < l.length := by have := HN.out; omega
        obtain ⟨b, o, rfl, hb, g0, g1, g2, g3, g4, g5, g6, g7, g8, g9, g10, g11⟩ := cell_of_deeds (HH.out.on HW.out) hkl
        have hdk := (HD.out _ (List.getElem_mem hkl)).below HW.out
        obtain ⟨al, a1, a2, a3, a4, a5, a6⟩ := hdk.at_
        have hz := HW.out.size
        have HL : Hid (l[k].va.n ≤ 20 → ∀ j (h : j < l.length), j < k + 1 → l[j].va.n ≤ 20) := Lib.hid (fun h20 j hj hjk => by
          by_cases e : j = k
          · subst e; exact h20
          · exact HS.out j hj (by omega))
        generalize l[k] = d at g0 g1 g2 g3 g4 g5 g6 g7 g8 g9 g10 g11 hdk a1 a2 a3 a4 a5 HL
        obtain ⟨what, next, op, rid, par, bef, tag, txt, key, ⟨vA, vn, vc⟩, id, dn⟩ := d
        simp only at g0 g1 g2 g3 g4 g5 g6 g7 g8 g9 g10 g11 a1 a2 a3 a4 a5 HL
        have t1 := hdk.tag
        have t2 := hdk.txt
        have t3 := hdk.key
        simp only at t1 t2 t3
        unfold maxLen at a3 t1 t2 t3
        have A1 := Lib.hid a1
        have A5 := Lib.hid a5
        have BW : Hid (Below w.heap.size w (wr.alloc (.cells #[.int .i64 op, .int .i64 rid, .int .i64 par, .int .i64 bef, .string tag, .string txt, .string key, .slice vA vn vc] 54))) := Lib.hid (HW.out.alloc hz _)
        clear hdk a1 a4 a5 a6
        by_cases h1 : 100 < tag.size
        · go_wp2_with fail
          go_ret
          exact fewM_no BW.out
        · by_cases h2 : 100 < txt.size
          · go_wp2_with fail
            go_ret
            exact fewM_no BW.out
          · by_cases h3 : 100 < key.size
            · go_wp2_with fail
              go_ret
              exact fewM_no BW.out
            · cases hf : P3.fewA al with
              | false =>
                have HF : Hid (P3.fewN al = 0) := Lib.hid (by unfold P3.fewN; rw [hf]; rfl)
                clear hf
                go_wp2_with fail
                refine (P3.few_any al vA vn vc _ A1.out (by omega) (p3holds (A5.out.on ((Below.refl _ _).alloc (Nat.le_refl _) _)))).mono ?_
                rintro e w' ⟨rfl, rfl⟩
                rw [HF.out]
                go_wp2_with fail
                go_ret
                exact fewM_no BW.out
              | true =>
                have HF : Hid (P3.fewN al = 1) := Lib.hid (by unfold P3.fewN; rw [hf]; rfl)
                have h20 : vn ≤ 20 := by unfold P3.fewA at hf; simp at hf; have := A1.out; omega
                clear hf
                go_wp2_with fail
                refine (P3.few_any al vA vn vc _ A1.out (by omega) (p3holds (A5.out.on ((Below.refl _ _).alloc (Nat.le_refl _) _)))).mono ?_
                rintro e w' ⟨rfl, rfl⟩
                rw [HF.out]
                go_wp2_with fail
                go_roundw
                case rel => exact ⟨k + 1, by omega, by omega, by go_num, Lib.hid (HL.out h20), BW⟩
                case measure => simp [intOf]; omega
      · obtain rfl : k = most := by omega
        go_wp2_with fail
        go_ret
        exact fewM_no HW.out
    · obtain rfl : k = n := by omega
      go_wp2_with fail
      go_ret
      refine ⟨1, rfl, .inr ⟨rfl, by rw [HN.out]; exact hkM, fun r hr => ?_⟩, HW.out⟩
      obtain ⟨j, hj, rfl⟩ := List.mem_iff_getElem.1 hr
      exact HS.out j hj (by have := HN.out; omega)
end Go.Proofs.YtihjdmdafiifhaaGreat.P5

/- Layer 6's example; documents to which any deeds were done. -/
set_option linter.unusedVariables false
set_option linter.unusedSimpArgs false
namespace Go.Proofs.YtihjdmdafiifhaaGreat.P6
open Go.RowKit Kd P4 P5
theorem new_down : downA (downL (newD 9).l 1 []) = (1, true) := rfl
theorem new_in : inside (newD 9).l 1 1 = true := by decide
theorem new_all : (allL (newD 9).l 1).length = 1 := by decide
theorem new_up : aboveL (newD 9).l 7 = [] := by decide
def GrownS (w : World) (e : Ending) (w' : World) : Prop := ∃ (p q : Nat) (x : Dx) (y : Rx), e = .returned (.tuple #[.pointer (some ⟨p, 0, none⟩), .pointer (some ⟨q, 0, none⟩)]) ∧ Par w' w.heap.size p q x y ∧ x.d = y.d ∧ WF x.d ∧ x.n ≤ 2000 ∧ Below w.heap.size w w'
def GrRel (w : World) (p q m : Nat) (i : Value) (wr : World) : Prop := ∃ (k : Nat) (x : Dx) (y : Rx), k ≤ m ∧ i = .int .i64 k ∧ x.n ≤ (k : Int) + 1 ∧ Hid (Par wr w.heap.size p q x y) ∧ Hid (x.d = y.d) ∧ Hid (WF x.d) ∧ Hid (Below w.heap.size w wr)
theorem Rf.base_le' {w : World} {B B' q : Nat} {y : Rx} (h : Rf w B q y) (hB : B' ≤ B) : Rf w B' q y := ⟨h.blk, Nat.le_trans hB h.base, h.own.base_le hB, fun r hr => ⟨(h.nodes r hr).att, (h.nodes r hr).kids.base_le hB⟩⟩
set_option maxHeartbeats 8000000 in
set_option maxRecDepth 100000 in
theorem grownS_any (R : Nat) (hR1 : 1 ≤ R) (hR2 : R ≤ 200) (ds : List RE) (A : Option Addr) (m c : Nat) (w : World) (hm : ds.length = m) (hm60 : m ≤ 1000) (h20 : ∀ d ∈ ds, d.va.n ≤ 20) (hwf : ∀ d ∈ ds, DeedOk w d) (H : kE.Holds w w.heap.size A ds) :
    Calls Tryz.prog 7 #[.int .i64 R, .slice A m c] w (GrownS w) := by
  have HH := Lib.hid H
  have HM := Lib.hid hm
  have HF := Lib.hid hwf
  have H20 := Lib.hid h20
  clear H hm hwf h20
  have q4 := nil_eql_nil
  have q5 := nil_neq_nil
  go_enter Tryz.func7, Tryz.ntmps7
  go_wp2_with fail
  refine (newDoc_yes R _ hR1 hR2).mono ?_
  rintro e w2 ⟨p, x0, rfl, dc0, hd0, b2⟩
  have D0 := Lib.hid dc0
  have E0 := Lib.hid hd0
  have B2 := Lib.hid b2
  have W0 : Hid (WF x0.d) := Lib.hid (by rw [hd0]; exact wf_newD hR1 hR2)
  have N0 : Hid (x0.n = 1) := Lib.hid (by have : x0.d.n = 1 := by rw [hd0]; rfl
                                          exact this)
  clear dc0 hd0 b2
  go_wp2_with fail
  refine (rnew_any R w2).mono ?_
  rintro e w4 ⟨q, y0, rfl, rf4, hy4, b4⟩
  have P4' : Hid (Par w4 w.heap.size p q x0 y0) := Lib.hid ⟨D0.out.below b4, Rf.base_le' rf4 B2.out.size, fun i hi hr => by have := D0.out.lt hi; have := rf4.ge hr; omega⟩
  have E4 : Hid (x0.d = y0.d) := Lib.hid (by rw [E0.out, hy4])
  have B4 := Lib.hid (B2.out.trans (b4.mono B2.out.size))
  clear rf4 hy4 b4
  go_wp2_with fail
  go_loopw [9] (fun i wr => GrRel w p q m i wr) (fun i _ => m - (intOf i).toNat)
  case atStart => exact ⟨0, x0, y0, by omega, rfl, by have := N0.out; omega, P4', E4, W0, B4⟩
  case round =>
    obtain ⟨k, x, y, hk, rfl, hnk, HP, HE, HWF, HW⟩ := hrel
    by_cases hkm : k < m
    · have hkl : k < ds.length := by have := HM.out; omega
      obtain ⟨b0, o0, rfl, hb0, g0, g1, g2, g3, g4, g5, g6, g7, g8, g9, g10, g11⟩ := cell_of_deeds (HH.out.on HW.out) hkl
      have hdk := Lib.hid (HF.out _ (List.getElem_mem hkl))
      have h20k : ds[k].va.n ≤ 20 := H20.out _ (List.getElem_mem hkl)
      generalize ds[k] = d at g0 g1 g2 g3 g4 g5 g6 g7 g8 g9 g10 g11 hdk h20k
      have hn100 : x.n ≤ 100000 := by omega
      go_wp2_with fail
      refine (rec_any d wr hn100 HP.out.dc).mono ?_
      rintro e w4 ⟨rfl, b4⟩
      generalize hrid : (if d.next = true ∧ d.op = 1 then x.n + 1 else d.rid) = rid
      have B4 := Lib.hid b4
      obtain ⟨al, a1, a2, a3, a4, a5, a6⟩ := hdk.out.at_
      clear b4 hrid g0 g1 g2 g3 g4 g5 g6 g7 g8 g9 g10 g11
      have BA : Hid (Below wr.heap.size wr (w4.alloc (.cells #[.int .i64 d.op, .int .i64 rid, .int .i64 d.par, .int .i64 d.bef, .string d.tag, .string d.txt, .string d.key, .slice d.va.A d.va.n d.va.c] 54))) := Lib.hid (B4.out.alloc B4.out.size _)
      have NR : Hid (RcB (w4.alloc (.cells #[.int .i64 d.op, .int .i64 rid, .int .i64 d.par, .int .i64 d.bef, .string d.tag, .string d.txt, .string d.key, .slice d.va.A d.va.n d.va.c] 54)) w4.heap.size ⟨d.op, rid, d.par, d.bef, d.tag, d.txt, d.key, al⟩ d.va.A d.va.n d.va.c) := Lib.hid (RcB.new w4 ⟨d.op, rid, d.par, d.bef, d.tag, d.txt, d.key, al⟩ d.va.A d.va.n d.va.c)
      go_upto_region 9 with fail
      generalize w4.alloc (.cells #[.int .i64 d.op, .int .i64 rid, .int .i64 d.par, .int .i64 d.bef, .string d.tag, .string d.txt, .string d.key, .slice d.va.A d.va.n d.va.c] 54) = wb at BA NR ⊢
      generalize w4.heap.size = g at NR ⊢
      have HPa := Lib.hid (HP.out.below BA.out)
      have WAa := Lib.hid (HW.out.trans (BA.out.mono HW.out.size))
      have AR : Hid (∀ w9, Below w.heap.size w w9 → ArgR w9 d.va.A d.va.n d.va.c ⟨d.op, rid, d.par, d.bef, d.tag, d.txt, d.key, al⟩) := Lib.hid (fun w9 hb => ⟨⟨a1, a2, a4, by omega, a6, a5.on hb⟩, hdk.out.tag, hdk.out.txt, hdk.out.key⟩)
      clear a1 a2 a3 a4 a5 a6 B4 BA
      have r0 := NR.out.c0
      have r1 := NR.out.c1
      have r2 := NR.out.c2
      have r3 := NR.out.c3
      have r4 := NR.out.c4
      have r5 := NR.out.c5
      have r6 := NR.out.c6
      have r7 := NR.out.c7
      simp only at r0 r1 r2 r3 r4 r5 r6 r7
      go_wp2_with fail
      refine (apply_any ⟨d.op, rid, d.par, d.bef, d.tag, d.txt, d.key, al⟩ d.va.A d.va.n d.va.c wb HWF.out hn100 (AR.out _ WAa.out) HPa.out.dc).mono ?_
      rintro e w5 ⟨rfl, x5, d5, hx5⟩
      have P5 := Lib.hid (HPa.out.did d5)
      have NR5 := Lib.hid (NR.out.did HPa.out.dc d5)
      have HX5 := Lib.hid hx5
      have W5 := Lib.hid (WAa.out.trans (d5.to_below HPa.out.dc))
      generalize errV (applyD x.d ⟨d.op, rid, d.par, d.bef, d.tag, d.txt, d.key, al⟩).1 = ev5
      clear d5 hx5 r0 r1 r2 r3 r4 r5 r6 r7
      have r0 := NR5.out.c0
      have r1 := NR5.out.c1
      have r2 := NR5.out.c2
      have r3 := NR5.out.c3
      have r4 := NR5.out.c4
      have r5 := NR5.out.c5
      have r6 := NR5.out.c6
      have r7 := NR5.out.c7
      simp only at r0 r1 r2 r3 r4 r5 r6 r7
      go_wp2_with fail
      refine (rapply_any ⟨d.op, rid, d.par, d.bef, d.tag, d.txt, d.key, al⟩ d.va.A d.va.n d.va.c w5 (by rw [← HE.out]; exact HWF.out) (by have h1 := congrArg D.n HE.out; have h2 : x.n = y.n := h1; omega) hdk.out.tag hdk.out.txt hdk.out.key (AR.out _ W5.out).at_ P5.out.rf).mono ?_
      rintro e w6 ⟨rfl, y6, d6, hy6⟩
      have P6 := Lib.hid (P5.out.rdid d6)
      have HY6 := Lib.hid hy6
      have W6 := Lib.hid (W5.out.trans (d6.to_below P5.out.rf))
      have hn5 : x5.n ≤ ((k + 1 : Nat) : Int) + 1 := by have h1 := congrArg D.n HX5.out; have h2 := (apply_n x.d ⟨d.op, rid, d.par, d.bef, d.tag, d.txt, d.key, al⟩).2; rw [← h1] at h2; have h3 : x5.n ≤ x.n + 1 := h2; omega
      clear d6 hy6 r0 r1 r2 r3 r4 r5 r6 r7
      go_wp2_with fail
      go_roundw
      case rel => exact ⟨k + 1, x5, y6, by omega, by go_num, hn5, P6, Lib.hid (by rw [HX5.out, HY6.out, HE.out]), Lib.hid (by rw [HX5.out]; exact wf_apply HWF.out _), W6⟩
      case measure => simp [intOf]; omega
    · obtain rfl : k = m := by omega
      go_wp2_with fail
      go_ret2
      exact ⟨p, q, x, y, rfl, HP.out, HE.out, HWF.out, by omega, HW.out⟩
def Grown6 (w : World) (e : Ending) (w' : World) : Prop := ∃ (p q : Nat) (x : Dx) (y : Rx), e = .returned (.tuple #[.pointer (some ⟨p, 0, none⟩), .pointer (some ⟨q, 0, none⟩)]) ∧ Par w' w.heap.size p q x y ∧ x.d = y.d ∧ WF x.d ∧ x.n ≤ 100000 ∧ Below w.heap.size w w'
theorem grown_any (R : Nat) (hR1 : 1 ≤ R) (hR2 : R ≤ 200) (ds : List RE) (A : Option Addr) (m c : Nat) (w : World) (hm : ds.length = m) (hm60 : m ≤ 1000) (h20 : ∀ d ∈ ds, d.va.n ≤ 20) (hwf : ∀ d ∈ ds, DeedOk w d) (H : kE.Holds w w.heap.size A ds) :
    Calls Tryz.prog 7 #[.int .i64 R, .slice A m c] w (Grown6 w) := (grownS_any R hR1 hR2 ds A m c w hm hm60 h20 hwf H).mono fun e w' ⟨p, q, x, y, h1, h2, h3, h4, h5, h6⟩ => ⟨p, q, x, y, h1, h2, h3, h4, by omega, h6⟩
end Go.Proofs.YtihjdmdafiifhaaGreat.P6
