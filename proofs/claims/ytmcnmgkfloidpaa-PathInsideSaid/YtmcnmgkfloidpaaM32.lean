/- The program's ways down: appendAll, All, At. -/
import Derived.Test.YtmcnmgkfloidpaaM31
set_option linter.unusedVariables false
set_option linter.unusedSimpArgs false
namespace Go.Proofs.Ytmcnmgkfloidpaa.P6
open Go.RowKit Kd P4 P5
variable {B p : Nat} {x : Dx}
/-! ### All -/
def Apd (w : World) (C : Nat) (v : Value) (l : List Int) (e : Ending) (w' : World) : Prop :=
  ∃ A n c, e = .returned (.slice A n c) ∧ kI.Own w' C (.slice A n c) l ∧ But (fun k => v.ownBlock = some k) w w' ∧ ∀ g, (Value.slice A n c).ownBlock = some g → v.ownBlock = some g ∨ w.heap.size ≤ g
def ApRel (w : World) (C : Nat) (v kv : Value) (acc kids : List Int) (i : Int) (K : Int → List Int) (f nk : Nat) (s0 s27 : Value) (wr : World) : Prop :=
  ∃ (j : Nat) (A : Option Addr) (n c : Nat), s27 = .int .i64 j ∧ j ≤ nk ∧ s0 = .slice A n c ∧ Hid (kI.Own wr C s0 (acc ++ i :: upto K f i j)) ∧ Hid (But (fun k => v.ownBlock = some k) w wr) ∧ Hid (∀ g, s0.ownBlock = some g → v.ownBlock = some g ∨ w.heap.size ≤ g) ∧ Hid (kI.Own wr w.heap.size kv kids) ∧ Hid (Apart s0 kv)
theorem intA {w : World} {C : Nat} {v : Value} {l : List Int} (h : kI.Own w C v l) : NoA w (fun k => v.ownBlock = some k) := fun k cur fr hk hc => by
  obtain ⟨d, hd⟩ := h.ty hk
  exact heap_ne hd hc (by decide) rfl
set_option maxHeartbeats 4000000 in
theorem apd_any (hwf : WF x.d) : ∀ (f : Nat) (i : Int) (acc : List Int) (A : Option Addr) (n c : Nat) (w : World) (C : Nat) (_ : Hb (kidsOf x.l) f i) (_ : hasL x.l i = true) (_ : acc.length + (sub (kidsOf x.l) f i).length ≤ 2000) (_ : C ≤ w.heap.size) (_ : Dc w B p x)
    (_ : kI.Own w C (.slice A n c) acc) (_ : ∀ g, (Value.slice A n c).ownBlock = some g → ¬ foot p x g),
    Calls Try.prog 65 #[.slice A n c, .pointer (some ⟨p, 0, none⟩), .int .i64 i] w (Apd w C (.slice A n c) (acc ++ sub (kidsOf x.l) f i)) := by
  intro f
  induction f with
  | zero => intro i acc A n c w C hb; exact hb.elim
  | succ f ih =>
    intro i acc A n c w C hb hi hlen hC h hown hfo
    have IH := Lib.hid ih
    have HB0 := Lib.hid hb
    have H := Lib.hid h
    have HWF := Lib.hid hwf
    have HO := Lib.hid hown
    have HF := Lib.hid hfo
    have HLEN := Lib.hid hlen
    obtain ⟨k, hk, hy, _⟩ := h.place hi
    obtain ⟨q1, q2, q3, q4, q5⟩ := wf_kids hwf h hk hy
    obtain ⟨nd, hnd⟩ : ∃ nd, x.rs[k].nd = nd := ⟨_, rfl⟩
    rw [hnd] at q1 q3 q4 q5
    have HND := Lib.hid hnd
    have HY := Lib.hid hy
    have HKD := Lib.hid q3
    have HNO := Lib.hid (intA hown)
    have HACC : Hid (acc.length ≤ 2000) := Lib.hid (by omega)
    clear ih hb h hwf hown hfo hlen hy hi hnd q1 q2 q3
    go_enter Try.func65, Try.ntmps65
    go_wp2_with fail
    refine (pnode_yes i w hk HY.out HND.out q4 q5 H.out).mono ?_
    rintro e w1 ⟨Aa, na, ca, Ak, nk, ck, rfl, _, o1, b1⟩
    have hz1 : w.heap.size ≤ w1.heap.size := b1.size
    have N2 : Hid (NdB (w1.alloc (.cells #[.int .i64 nd.id, .int .i64 nd.par, .string nd.tag, .string nd.txt, .string nd.key, .slice Aa na ca, .slice Ak nk ck, .int .i64 nd.note] 52)) w1.heap.size nd Aa na ca Ak nk ck) := Lib.hid (NdB.new _ _ _ _ _ _ _ _)
    have B2 : Hid (Below w.heap.size w (w1.alloc (.cells #[.int .i64 nd.id, .int .i64 nd.par, .string nd.tag, .string nd.txt, .string nd.key, .slice Aa na ca, .slice Ak nk ck, .int .i64 nd.note] 52))) := Lib.hid (b1.alloc hz1 _)
    have K2 := Lib.hid (o1.alloc (.cells #[.int .i64 nd.id, .int .i64 nd.par, .string nd.tag, .string nd.txt, .string nd.key, .slice Aa na ca, .slice Ak nk ck, .int .i64 nd.note] 52))
    have O2 : Hid (kI.Own (w1.alloc (.cells #[.int .i64 nd.id, .int .i64 nd.par, .string nd.tag, .string nd.txt, .string nd.key, .slice Aa na ca, .slice Ak nk ck, .int .i64 nd.note] 52)) C (.slice A n c) acc) := Lib.hid (HO.out.below B2.out (Nat.le_refl _))
    clear o1 b1
    go_upto_region 2 with fail
    generalize w1.alloc (.cells #[.int .i64 nd.id, .int .i64 nd.par, .string nd.tag, .string nd.txt, .string nd.key, .slice Aa na ca, .slice Ak nk ck, .int .i64 nd.note] 52) = w2 at N2 B2 K2 O2 ⊢
    generalize w1.heap.size = g7 at N2 hz1 ⊢
    have hz2 := B2.out.size
    go_upto_region 5 with (at_builtin; refine kI.wp_app rfl _ _ rfl (v := .slice A n c) (l := acc) (m := [i]) (B := C) rfl (O2.out.alloc _) rfl rfl (fun e => by cases e) (Kind.Holds.lit (heap_alloc_new _ _) rfl) (by have := HACC.out; simp; omega) (by simp; omega) ?_; intro v' w3 hown hgrow hat; obtain ⟨A3, n3, c3, rfl, _, _, _, _, _⟩ := hown.slice)
    have hb3 : But (fun k => (Value.slice A n c).ownBlock = some k) w2 w3 := ((But.refl _ w2).alloc _).trans (But.of_grown (S := fun k => (Value.slice A n c).ownBlock = some k) hgrow (fun g hg _ => hg)) (fun _ _ h => h)
    have B3 : Hid (But (fun k => (Value.slice A n c).ownBlock = some k) w w3) := Lib.hid ((But.of_below B2.out _).trans hb3 (fun _ _ h => h))
    have N3 : Hid (NdB w3 g7 nd Aa na ca Ak nk ck) := Lib.hid (N2.out.by_ hb3 (fun e => by obtain ⟨d, hd⟩ := O2.out.ty e; exact heap_ne hd N2.out (by decide) rfl))
    have hk3 : ∀ g, (Value.slice Ak nk ck).ownBlock = some g → (Value.slice A n c).ownBlock ≠ some g := fun g hg e => by
      have := (K2.out.lt hg).1
      have := (HO.out.lt e).2
      omega
    have K3 : Hid (kI.Own w3 w.heap.size (.slice Ak nk ck) nd.kids) := Lib.hid (K2.out.keep fun g hg => hb3.block g (K2.out.lt hg).2 (hk3 g hg))
    have OC3 : Hid (∀ g, (Value.slice A3 n3 c3).ownBlock = some g → (Value.slice A n c).ownBlock = some g ∨ w.heap.size ≤ g) := Lib.hid (fun g hg => by
      rcases hat with e | e
      · exact .inl (e ▸ hg)
      · rw [e] at hg
        injection hg with hg
        refine .inr ?_
        rw [← hg]
        simp
        omega)
    have AP3 : Hid (Apart (.slice A3 n3 c3) (.slice Ak nk ck)) := Lib.hid (fun g hg e => by
      rcases hat with h1 | h1
      · exact hk3 g e (h1 ▸ hg)
      · rw [h1] at hg
        injection hg with hg
        have := (K2.out.lt e).2
        simp at hg
        omega)
    have O3 : Hid (kI.Own w3 C (.slice A3 n3 c3) (acc ++ i :: upto (kidsOf x.l) f i 0)) := Lib.hid (by simpa [upto] using hown)
    obtain ⟨g1, g2, g3, g4, g5⟩ := own_nil_zero K3.out rfl
    have HNK : Hid ((kidsOf x.l i).length = nk) := Lib.hid (by rw [← HKD.out]; exact g1)
    have hnk : nk ≤ 1000 := by omega
    clear hown hgrow hat hb3 hk3 g1 g2 g3 g4 g5 N2 K2 O2
    have y6 := N3.out.c6
    go_wp2_with fail
    go_loopw [0, 27] (fun s0 s27 wr => ApRel w C (.slice A n c) (.slice Ak nk ck) acc nd.kids i (kidsOf x.l) f nk s0 s27 wr) (fun _ s27 _ => nk - (intOf s27).toNat)
    case atStart => exact ⟨0, A3, n3, c3, rfl, by omega, rfl, O3, B3, OC3, K3, AP3⟩
    case round =>
      obtain ⟨j, A5, n5, c5, rfl, hj, rfl, HO5, HB5, HC5, HK5, HA5⟩ := hrel
      by_cases hjn : j < nk
      · have hjl : j < (kidsOf x.l i).length := by have := HNK.out; omega
        have hjk : j < nd.kids.length := by rw [HKD.out]; exact hjl
        obtain ⟨_, _, _, _, hhk⟩ := own_nil_zero HK5.out rfl
        obtain ⟨gb, go, rfl, hgb, hc⟩ := cell_int hhk hjk
        have hkid := HWF.out.tr.kid i (kidsOf x.l i)[j] (List.getElem_mem hjl)
        have e1 : nd.kids[j] = (kidsOf x.l i)[j] := by simp only [HKD.out]
        rw [e1] at hc
        have hD5 : Dc wr B p x := H.out.but HB5.out (fun k hk e => HF.out k e hk) HNO.out
        have hsz : w.heap.size ≤ wr.heap.size := HB5.out.size
        have HSL : Hid ((acc ++ i :: upto (kidsOf x.l) f i j).length + (sub (kidsOf x.l) f (kidsOf x.l i)[j]).length ≤ 2000) := Lib.hid (by
          have h1 := HLEN.out
          rw [sub] at h1
          have h2 : (upto (kidsOf x.l) f i (j + 1)).length ≤ ((kidsOf x.l i).flatMap (sub (kidsOf x.l) f)).length := by
            unfold upto
            have e : (kidsOf x.l i).flatMap (sub (kidsOf x.l) f) = ((kidsOf x.l i).take (j + 1)).flatMap (sub (kidsOf x.l) f) ++ ((kidsOf x.l i).drop (j + 1)).flatMap (sub (kidsOf x.l) f) := by rw [← List.flatMap_append, List.take_append_drop]
            rw [e, List.length_append]; omega
          rw [upto_succ (f := f) hjl, List.length_append] at h2
          simp only [List.length_cons, List.length_append] at h1 ⊢
          omega)
        have IHJ := Lib.hid (IH.out (kidsOf x.l i)[j] (acc ++ i :: upto (kidsOf x.l) f i j) A5 n5 c5 wr C (HB0.out _ (List.getElem_mem hjl)) hkid.2.1 HSL.out (by omega) hD5 HO5.out (fun g hg hf => by
          rcases HC5.out g hg with e | e
          · exact HF.out g e hf
          · have := H.out.lt hf; omega))
        have HUS := Lib.hid (upto_succ (f := f) hjl)
        generalize (kidsOf x.l i)[j] = kd at hc IHJ HUS
        clear hkid e1 hhk hD5 hgb
        go_wp2_with fail
        refine IHJ.out.mono ?_
        rintro e w5 ⟨A6, n6, c6, rfl, o6, b6, cc6⟩
        have O6 : Hid (kI.Own w5 C (.slice A6 n6 c6) (acc ++ i :: upto (kidsOf x.l) f i (j + 1))) := Lib.hid (by rw [HUS.out]; simpa using o6)
        have B6 : Hid (But (fun k => (Value.slice A n c).ownBlock = some k) w w5) := Lib.hid (HB5.out.trans b6 (fun g hg e => by
          rcases HC5.out g e with h1 | h1
          · exact h1
          · omega))
        have CC6 : Hid (∀ g, (Value.slice A6 n6 c6).ownBlock = some g → (Value.slice A n c).ownBlock = some g ∨ w.heap.size ≤ g) := Lib.hid (fun g hg => by
          rcases cc6 g hg with h1 | h1
          · exact HC5.out g h1
          · exact .inr (by omega))
        have K6 : Hid (kI.Own w5 w.heap.size (.slice (some ⟨gb, go, none⟩) nk ck) nd.kids) := Lib.hid (HK5.out.keep fun g hg => b6.block g (HK5.out.lt hg).2 (fun e => HA5.out g e hg))
        have A6' : Hid (Apart (.slice A6 n6 c6) (.slice (some ⟨gb, go, none⟩) nk ck)) := Lib.hid (fun g hg e => by
          rcases cc6 g hg with h1 | h1
          · exact HA5.out g h1 e
          · have := (HK5.out.lt e).2; omega)
        clear o6 b6 cc6
        go_wp2_with fail
        go_roundw
        case rel => exact ⟨j + 1, A6, n6, c6, by go_num, by omega, rfl, O6, B6, CC6, K6, A6'⟩
        case measure => simp [intOf]; omega
      · have HE : Hid (acc ++ i :: upto (kidsOf x.l) f i j = acc ++ sub (kidsOf x.l) (f + 1) i) := Lib.hid (by rw [sub, ← upto_all, show j = (kidsOf x.l i).length by have := HNK.out; omega])
        go_wp2_with fail
        go_ret
        exact ⟨_, _, _, rfl, by rw [← HE.out]; exact HO5.out, HB5.out, HC5.out⟩
def allL (l : List Nd) (i : Int) : List Int := if hasL l i = true then below l i else []
set_option maxHeartbeats 1000000 in
theorem pall_any (i : Int) (w : World) (hwf : WF x.d) (h : Dc w B p x) : Calls Try.prog 34 #[.pointer (some ⟨p, 0, none⟩), .int .i64 i] w (GotInts w (allL x.l i)) := by
  cases hi : hasL x.l i with
  | true =>
    have HE : Hid (allL x.l i = below x.l i) := Lib.hid (by unfold allL; rw [if_pos hi])
    have hb : Hb (kidsOf x.l) (x.l.length + 1) i := by
      have h1 : Hb (kidsOf x.l) ((idsOf x.l).length + 1) i := hwf.tr.hb_all (L := idsOf x.l) (fun y hy => has_ids.1 hy) (y := i) hi
      simpa [idsOf] using h1
    have hlen : (sub (kidsOf x.l) (x.l.length + 1) i).length ≤ 2000 := by
      have h1 := nodup_len (sub (kidsOf x.l) (x.l.length + 1) i) (idsOf x.l) (hwf.tr.sub_nodup _ i hi) (fun z hz => has_ids.1 (hwf.tr.sub_h _ i z hi hz))
      have h2 := hwf.len200
      rw [show x.d.l = x.l from rfl] at h2
      simp only [idsOf, List.length_map] at h1
      omega
    have CA := Lib.hid (apd_any hwf (x.l.length + 1) i [] none 0 0 w w.heap.size hb hi (by simpa using hlen) (Nat.le_refl _) h (Kind.Own.nil _ _ _) (fun g hg => by cases hg))
    clear hb hlen hwf h hi
    go_enter Try.func34, Try.ntmps34
    go_wp2_with fail
    refine CA.out.mono ?_
    rintro e w1 ⟨A, n, c, rfl, o1, b1, _⟩
    have O1 := Lib.hid o1
    have B1 : Hid (Below w.heap.size w w1) := Lib.hid (b1.to_below (fun k _ e => by cases e) (Nat.le_refl _))
    clear o1 b1
    go_wp2_with fail
    go_ret
    rw [HE.out]
    exact ⟨A, n, c, rfl, by have := O1.out; rw [List.nil_append] at this; exact this, B1.out⟩
  | false =>
    have HE : Hid (allL x.l i = []) := Lib.hid (by unfold allL; rw [if_neg (by rw [hi]; simp)])
    have HI := Lib.hid hi
    have H := Lib.hid h
    have CA : Hid (Calls Try.prog 65 #[.slice none 0 0, .pointer (some ⟨p, 0, none⟩), .int .i64 i] w fun e w' => e = .returned (.slice none 0 0) ∧ Below w.heap.size w w') := Lib.hid (by
      clear hi h hwf
      go_enter Try.func65, Try.ntmps65
      go_wp2_with fail
      refine (pnode_no i w HI.out H.out).mono ?_
      rintro e w1 ⟨rfl, b1⟩
      have B1 := Lib.hid b1
      clear b1
      go_wp2_with fail
      go_ret
      exact ⟨rfl, B1.out.alloc B1.out.size _⟩)
    clear hi h hwf
    go_enter Try.func34, Try.ntmps34
    go_wp2_with fail
    refine CA.out.mono ?_
    rintro e w1 ⟨rfl, b1⟩
    have B1 := Lib.hid b1
    clear b1
    go_wp2_with fail
    go_ret
    rw [HE.out]
    exact ⟨none, 0, 0, rfl, Kind.Own.nil _ _ _, B1.out⟩

/-! ### At -/
def AtRel (w : World) (x : Dx) (ps : List Int) (g : Nat) (s7 s17 : Value) (wr : World) : Prop :=
  ∃ (j : Nat) (cur : Int), s17 = .int .i64 j ∧ s7 = .bool true ∧ j ≤ ps.length ∧ Hid (hasL x.l cur = true) ∧ Hid (Box wr w.heap.size g x.l cur) ∧ Hid (downL x.l 1 ps = downL x.l cur (ps.drop j)) ∧ Hid (Below w.heap.size w wr)
def Downed (w : World) (r : Int × Bool) (e : Ending) (w' : World) : Prop := e = .returned (.tuple #[.int .i64 r.1, .bool r.2]) ∧ Below w.heap.size w w'
theorem downed_none {w w' : World} {o : Option Int} (h : o = none) (hb : Below w.heap.size w w') : Downed w (downA o) (.returned (.tuple #[.int .i64 0, .bool false])) w' := by subst h; exact ⟨rfl, hb⟩
theorem downed_some {w w' : World} {o : Option Int} {i : Int} (h : o = some i) (hb : Below w.heap.size w w') : Downed w (downA o) (.returned (.tuple #[.int .i64 i, .bool true])) w' := by subst h; exact ⟨rfl, hb⟩
set_option maxHeartbeats 4000000 in
theorem pat_any (ps : List Int) (A : Option Addr) (n c : Nat) (w : World) (hn : ps.length = n) (hn2 : n ≤ 1000000) (HP : kI.Holds w w.heap.size A ps) (hwf : WF x.d) (h : Dc w B p x) : Calls Try.prog 36 #[.pointer (some ⟨p, 0, none⟩), .slice A n c] w (Downed w (downA (downL x.l 1 ps))) := by
  have H := Lib.hid h
  have HWF := Lib.hid hwf
  have HH := Lib.hid HP
  have HN := Lib.hid hn
  have NODE : Hid (∀ (W : World) (y : Int), Below w.heap.size w W → hasL x.l y = true → Calls Try.prog 62 #[.pointer (some ⟨p, 0, none⟩), .int .i64 y] W fun e w' => ∃ (nd : Nd) (A : Option Addr) (n c : Nat) (A2 : Option Addr) (n2 c2 : Nat), e = .returned (.tuple #[.agg #[.int .i64 nd.id, .int .i64 nd.par, .string nd.tag, .string nd.txt, .string nd.key, .slice A n c, .slice A2 n2 c2, .int .i64 nd.note], .bool true]) ∧ kI.Own w' W.heap.size (.slice A2 n2 c2) nd.kids ∧ (nd.id = y ∧ nd.par = parOf x.l y ∧ nd.kids = kidsOf x.l y) ∧ Below W.heap.size W w') := Lib.hid (fun W y hb hy => by
    have HX := H.out.below hb
    obtain ⟨k, hk, e, _⟩ := HX.place hy
    obtain ⟨q1, q2, q3, q4, q5⟩ := wf_kids HWF.out HX hk e
    refine (pnode_yes y W hk e rfl q4 q5 HX).mono ?_
    rintro e w' ⟨A, n, c, A2, n2, c2, rfl, _, o, b⟩
    exact ⟨_, A, n, c, A2, n2, c2, rfl, o, ⟨q1, q2, q3⟩, b⟩)
  have HR := Lib.hid hwf.root
  clear h hwf HP hn
  go_enter Try.func36, Try.ntmps36
  go_wp2_with fail
  refine (NODE.out w 1 (Below.refl _ _) HR.out).mono ?_
  rintro e w1 ⟨nd, A1, n1, c1, A2, n2, c2, rfl, o1, hnd, b1⟩
  have BX : Hid (Box (w1.alloc (.cells #[.int .i64 nd.id, .int .i64 nd.par, .string nd.tag, .string nd.txt, .string nd.key, .slice A1 n1 c1, .slice A2 n2 c2, .int .i64 nd.note] 52)) w.heap.size w1.heap.size x.l 1) := Lib.hid ⟨b1.size, nd, A1, n1, c1, A2, n2, c2, NdB.new _ _ _ _ _ _ _ _, o1.alloc _, fun _ => hnd⟩
  have B1 : Hid (Below w.heap.size w (w1.alloc (.cells #[.int .i64 nd.id, .int .i64 nd.par, .string nd.tag, .string nd.txt, .string nd.key, .slice A1 n1 c1, .slice A2 n2 c2, .int .i64 nd.note] 52))) := Lib.hid (b1.alloc b1.size _)
  clear o1 hnd b1
  go_upto_region 2 with fail
  generalize w1.alloc (.cells #[.int .i64 nd.id, .int .i64 nd.par, .string nd.tag, .string nd.txt, .string nd.key, .slice A1 n1 c1, .slice A2 n2 c2, .int .i64 nd.note] 52) = W1 at BX B1 ⊢
  generalize w1.heap.size = g at BX ⊢
  go_wp2_with fail
  go_loopw [7, 17] (fun s7 s17 wr => AtRel w x ps g s7 s17 wr) (fun _ s17 _ => n - (intOf s17).toNat)
  case atStart => exact ⟨0, 1, rfl, rfl, by omega, HR, BX, Lib.hid rfl, B1⟩
  case round =>
    obtain ⟨j, cur, rfl, rfl, hj, HC, HBX, HD, HB⟩ := hrel
    have hjn : j ≤ n := by have := HN.out; omega
    obtain ⟨nd, A1, n1, c1, A2, n2, c2, nb, o2, hnd⟩ := HBX.out.at_
    obtain ⟨q1, q2, q3⟩ := hnd HC.out
    obtain ⟨g1, _, _, _, g5⟩ := own_nil_zero o2 rfl
    have HGE := Lib.hid HBX.out.ge
    have NB := Lib.hid nb
    have K2 := Lib.hid g5
    have HK2 : Hid ((kidsOf x.l cur).length = n2) := Lib.hid (by rw [← q3]; exact g1)
    have Q1 := Lib.hid q1
    have Q3 := Lib.hid q3
    have z0 := nb.c0
    have z6 := nb.c6
    rw [q1] at z0
    have hn2' : n2 ≤ 1000000 := by
      have h1 := nodup_len (kidsOf x.l cur) (idsOf x.l) (HWF.out.tr.nod cur) (fun c hc => has_ids.1 (HWF.out.tr.kid cur c hc).2.1)
      have h2 := HWF.out.len200
      rw [show x.d.l = x.l from rfl] at h2
      simp only [idsOf, List.length_map] at h1
      have := HK2.out
      omega
    clear nb o2 hnd q1 q2 q3 g1 g5
    by_cases hlt : j < n
    · have hjl : j < ps.length := by have := HN.out; omega
      obtain ⟨pb, po, rfl, hpb, hpc⟩ := cell_int (HH.out.on HB.out) hjl
      have HDR : Hid (ps.drop j = ps[j] :: ps.drop (j + 1)) := Lib.hid (List.drop_eq_getElem_cons hjl)
      generalize ps[j] = t at hpc HDR
      by_cases ht : t < 0
      · have HE : Hid (downL x.l 1 ps = none) := Lib.hid (by rw [HD.out, HDR.out]; exact down_no (.inl ht))
        go_wp2_with fail
        go_ret2
        exact downed_none HE.out HB.out
      obtain ⟨m, rfl⟩ := Int.eq_ofNat_of_zero_le (show 0 ≤ t by omega)
      by_cases hm : n2 ≤ m
      · have HE : Hid (downL x.l 1 ps = none) := Lib.hid (by rw [HD.out, HDR.out]; exact down_no (.inr (by have := HK2.out; simp; omega)))
        clear ht
        go_wp2_with fail
        go_ret2
        exact downed_none HE.out HB.out
      have hml : m < (kidsOf x.l cur).length := by have := HK2.out; omega
      have hmk : m < nd.kids.length := by rw [Q3.out]; exact hml
      obtain ⟨kb, ko, rfl, hkb, hkc⟩ := cell_int K2.out hmk
      have e1 : nd.kids[m] = (kidsOf x.l cur)[m] := by simp only [Q3.out]
      rw [e1] at hkc
      have HD2 : Hid (downL x.l 1 ps = downL x.l (kidsOf x.l cur)[m] (ps.drop (j + 1))) := Lib.hid (by rw [HD.out, HDR.out]; exact down_yes hml)
      have HKH : Hid (hasL x.l (kidsOf x.l cur)[m] = true) := Lib.hid (HWF.out.tr.kid cur _ (List.getElem_mem hml)).2.1
      generalize (kidsOf x.l cur)[m] = kd at hkc HD2 HKH
      have hm2 : m < n2 := by omega
      clear ht hm e1
      go_wp2_with fail
      refine (NODE.out wr kd HB.out HKH.out).mono ?_
      rintro e w5 ⟨nd', A', n', c', A2', n2', c2', rfl, o5, hnd', b5⟩
      have N5 := Lib.hid (NB.out.below b5 NB.out.lt)
      have B5 := Lib.hid (HB.out.trans (b5.mono HB.out.size))
      have HN5 := Lib.hid hnd'
      have K5 := Lib.hid o5
      clear hnd' o5 b5 z0 z6
      have u0 := N5.out.c0
      have f0 := N5.out.frozen 0
      have u1 := N5.out.c1
      have f1 := N5.out.frozen 1
      have u2 := N5.out.c2
      have f2 := N5.out.frozen 2
      have u3 := N5.out.c3
      have f3 := N5.out.frozen 3
      have u4 := N5.out.c4
      have f4 := N5.out.frozen 4
      have u5 := N5.out.c5
      have f5 := N5.out.frozen 5
      have u6 := N5.out.c6
      have f6 := N5.out.frozen 6
      have u7 := N5.out.c7
      have f7 := N5.out.frozen 7
      have N6 : Hid (NdB ((((((((w5.setCell ⟨g, 0, none⟩ (.int .i64 nd'.id)).setCell ⟨g, 1, none⟩ (.int .i64 nd'.par)).setCell ⟨g, 2, none⟩ (.string nd'.tag)).setCell ⟨g, 3, none⟩ (.string nd'.txt)).setCell ⟨g, 4, none⟩ (.string nd'.key)).setCell ⟨g, 5, none⟩ (.slice A' n' c')).setCell ⟨g, 6, none⟩ (.slice A2' n2' c2')).setCell ⟨g, 7, none⟩ (.int .i64 nd'.note)) g nd' A' n' c' A2' n2' c2') := Lib.hid (N5.out.set8 (nd' := nd'))
      have BT6 : Hid (But (fun k => k = g) w5 ((((((((w5.setCell ⟨g, 0, none⟩ (.int .i64 nd'.id)).setCell ⟨g, 1, none⟩ (.int .i64 nd'.par)).setCell ⟨g, 2, none⟩ (.string nd'.tag)).setCell ⟨g, 3, none⟩ (.string nd'.txt)).setCell ⟨g, 4, none⟩ (.string nd'.key)).setCell ⟨g, 5, none⟩ (.slice A' n' c')).setCell ⟨g, 6, none⟩ (.slice A2' n2' c2')).setCell ⟨g, 7, none⟩ (.int .i64 nd'.note))) := Lib.hid (setOne (setOne (setOne (setOne (setOne (setOne (setOne (setOne (But.refl _ _)))))))))
      go_upto_region 8 with fail
      generalize ((((((((w5.setCell ⟨g, 0, none⟩ (.int .i64 nd'.id)).setCell ⟨g, 1, none⟩ (.int .i64 nd'.par)).setCell ⟨g, 2, none⟩ (.string nd'.tag)).setCell ⟨g, 3, none⟩ (.string nd'.txt)).setCell ⟨g, 4, none⟩ (.string nd'.key)).setCell ⟨g, 5, none⟩ (.slice A' n' c')).setCell ⟨g, 6, none⟩ (.slice A2' n2' c2')).setCell ⟨g, 7, none⟩ (.int .i64 nd'.note)) = w6 at N6 BT6 ⊢
      have B6 : Hid (Below w.heap.size w w6) := Lib.hid (B5.out.trans (BT6.out.to_below (fun k _ e => by have := HGE.out; omega) B5.out.size))
      have K6 : Hid (kI.Own w6 w.heap.size (.slice A2' n2' c2') nd'.kids) := Lib.hid ((K5.out.but BT6.out (fun k hk e => by obtain ⟨d, hd⟩ := K5.out.ty hk; exact heap_ne hd (e ▸ N5.out) (by decide) rfl)).base_le HB.out.size)
      clear u0 u1 u2 u3 u4 u5 u6 u7 f0 f1 f2 f3 f4 f5 f6 f7
      go_wp2_with fail
      go_roundw
      case rel => exact ⟨j + 1, kd, by go_num, rfl, by omega, HKH, Lib.hid ⟨HGE.out, nd', A', n', c', A2', n2', c2', N6.out, K6.out, fun _ => HN5.out⟩, HD2, B6⟩
      case measure => simp [intOf]; omega
    · have HE : Hid (downL x.l 1 ps = some cur) := Lib.hid (by rw [HD.out, List.drop_of_length_le (by have := HN.out; omega)]; rfl)
      go_wp2_with fail
      go_ret2
      exact downed_some HE.out HB.out
set_option maxHeartbeats 1000000 in
theorem pat_nil (w : World) : Calls Try.prog 36 #[.pointer none, .slice none 0 0] w (Downed w (0, false)) := by
  go_enter Try.func36, Try.ntmps36
  go_wp2_with fail
  refine (pnode_nil 1 w).mono ?_
  rintro e w1 ⟨rfl, b1⟩
  have B1 := Lib.hid b1
  clear b1
  go_wp2_with fail
  have Z0 : Hid ((w1.alloc (.cells #[.int .i64 0, .int .i64 0, .string ⟨#[]⟩, .string ⟨#[]⟩, .string ⟨#[]⟩, .slice none 0 0, .slice none 0 0, .int .i64 0] 52)).cell? ⟨w1.heap.size, 0, none⟩ = some (.int .i64 0)) := Lib.hid (cell_of_row _ _ 0 _ _ (0, 0) (heap_alloc_new w1 _))
  have B2 : Hid (Below w.heap.size w (w1.alloc (.cells #[.int .i64 0, .int .i64 0, .string ⟨#[]⟩, .string ⟨#[]⟩, .string ⟨#[]⟩, .slice none 0 0, .slice none 0 0, .int .i64 0] 52))) := Lib.hid (B1.out.alloc B1.out.size _)
  generalize w1.alloc (.cells #[.int .i64 0, .int .i64 0, .string ⟨#[]⟩, .string ⟨#[]⟩, .string ⟨#[]⟩, .slice none 0 0, .slice none 0 0, .int .i64 0] 52) = w2 at Z0 B2 ⊢
  go_loopw [7, 17] (fun s7 s17 wr => s7 = .bool false ∧ s17 = .int .i64 0 ∧ Hid (wr.cell? ⟨w1.heap.size, 0, none⟩ = some (.int .i64 0)) ∧ Hid (Below w.heap.size w wr)) (fun _ _ _ => 0)
  case atStart => exact ⟨rfl, rfl, Z0, B2⟩
  case round =>
    obtain ⟨rfl, rfl, HZ, HB⟩ := hrel
    have z0 := HZ.out
    go_wp2_with fail
    go_ret2
    exact ⟨rfl, HB.out⟩
end Go.Proofs.Ytmcnmgkfloidpaa.P6
