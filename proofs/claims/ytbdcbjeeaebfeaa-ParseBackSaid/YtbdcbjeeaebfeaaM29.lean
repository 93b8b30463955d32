/- What placketref08.guess answers, if its element does. No condition but those stated. -/
import Derived.Test.YtbdcbjeeaebfeaaM24
import Derived.Test.YtbdcbjeeaebfeaaM28
set_option linter.unusedVariables false
set_option linter.unusedSimpArgs false
namespace Go.Proofs.Ytbdcbjeeaebfeaa.P10
open Go.RowKit Kd P4 P5 P8 P9

/-- what guess tells -/
def Gv (w : World) (p : List PT × List UInt8) (e : Ending) (w' : World) : Prop := ∃ (A : Option Addr) (n c : Nat) (ts : List TV), e = .returned (.tuple #[.slice A n c, .string (bs p.2)]) ∧ erL ts = p.1 ∧ kT.Own w' w.heap.size (.slice A n c) ts ∧ (∀ t ∈ ts, TNew w' (fun b => w.heap.size ≤ b ∧ (Value.slice A n c).ownBlock ≠ some b) t) ∧ Below w.heap.size w w'
/-- what element tells -/
def Ev (w : World) (p : PT × List UInt8) (e : Ending) (w' : World) : Prop := ∃ tv : TV, e = .returned (.tuple #[.agg #[.string tv.tag, .string tv.txt, .string tv.key, .slice tv.sa.A tv.sa.n tv.sa.c, .slice tv.sk.A tv.sk.n tv.sk.c], .string (bs p.2)]) ∧ er tv = p.1 ∧ TNew w' (fun b => w.heap.size ≤ b) tv ∧ Below w.heap.size w w'
def gAt (f d : Nat) (s : List UInt8) : List PT × List UInt8 := gF f d s []
def GuessC (f : Nat) : Prop := ∀ (s : ByteArray) (d : Nat) (w : World), s.size < f → s.size ≤ 10000 → d ≤ 201 → Calls Try.prog 15 #[.string s, .int .i64 d] w (Gv w (gF f d s.data.toList []))
def ElemC (f : Nat) : Prop := ∀ (s : ByteArray) (d : Nat) (w : World), s.size ≤ f → s.size ≤ 10000 → d ≤ 200 → s.data.toList.head? = some 60 → Calls Try.prog 30 #[.string s, .int .i64 d] w (Ev w (elF (gAt f) d s.data.toList))

theorem ex_front (x : ByteArray) (n : Nat) : (x.extract 0 n).data.toList = x.data.toList.take n := by rw [Lib.extract_data]; simp
theorem ex_tail (x : ByteArray) (n : Nat) : (x.extract n x.size).data.toList = x.data.toList.drop n := P2.cut_data x n
theorem ex_mid (x : ByteArray) (a b : Nat) : (x.extract a b).data.toList = (x.data.toList.take b).drop a := by rw [Lib.extract_data, List.drop_take]
theorem getB_eq (x : ByteArray) (n : Nat) : P2.getB (x.extract 0 n) = bs (unesc (x.data.toList.take n)) := by unfold P2.getB unesc bs; rw [ex_front]
theorem head_at {x : ByteArray} (h : 0 < x.size) : x.data.toList.head? = some x[0] := by
  rw [List.head?_eq_getElem?, List.getElem?_eq_getElem (by simpa using h)]
  rfl
theorem head_at1 {x : ByteArray} (h : 1 < x.size) : (x.data.toList.drop 1).head? = some x[1] := by
  rw [List.head?_eq_getElem?, List.getElem?_drop, List.getElem?_eq_getElem (by simpa using h)]
  rfl
theorem size_len (x : ByteArray) : x.data.toList.length = x.size := by simp
theorem list_nil {x : ByteArray} (h : x.size = 0) : x.data.toList = [] := List.eq_nil_of_length_eq_zero (by rw [size_len, h])

/-- a slice of trees of one's own grows by one -/
theorem list_grew {w5 w7 : World} {o : Obj} {D : Nat} {A A7 : Option Addr} {n c n7 c7 : Nat} {l : List TV} {k : TV} {Q : Nat → Prop} (own : kT.Own w5 D (.slice A n c) l)
    (ks : ∀ k ∈ l, TNew w5 (fun b => Q b ∧ (Value.slice A n c).ownBlock ≠ some b) k) (hk : TNew w5 (fun b => Q b ∧ (Value.slice A n c).ownBlock ≠ some b) k) (hg : (w5.alloc o).grownBy w7 (Value.slice A n c).ownBlock)
    (hat : (Value.slice A7 n7 c7).ownBlock = (Value.slice A n c).ownBlock ∨ (Value.slice A7 n7 c7).ownBlock = some (w5.alloc o).heap.size) :
    (∀ t ∈ l ++ [k], TNew w7 (fun b => Q b ∧ (Value.slice A7 n7 c7).ownBlock ≠ some b) t) ∧ But (fun b => (Value.slice A n c).ownBlock = some b) w5 w7 := by
  have b7 : But (fun b => (Value.slice A n c).ownBlock = some b) w5 w7 := (But.alloc (But.refl _ _) _).trans (But.of_grown (S := fun i => (Value.slice A n c).ownBlock = some i) hg (fun i hi _ => hi)) (fun _ _ h => h)
  have hS : ∀ b, (Value.slice A n c).ownBlock = some b → ∃ cur, w5.heap[b]? = some (.cells cur 38 (0, 0)) := fun b e => own.ty e
  have key' : ∀ k : TV, TNew w5 (fun b => Q b ∧ (Value.slice A n c).ownBlock ≠ some b) k → TNew w7 (fun b => Q b ∧ (Value.slice A7 n7 c7).ownBlock ≠ some b) k := by
    intro k h
    have h1 : TNew w5 (fun b => (Q b ∧ (Value.slice A n c).ownBlock ≠ some b) ∧ b < w5.heap.size) k := h.mono fun b hb hq => ⟨hq, hb⟩
    refine (h1.but b7 (fun b hq hs => hq.1.2 hs) (tree_noA hS)).mono fun b _ hq => ⟨hq.1.1, fun e => ?_⟩
    rcases hat with h2 | h2
    · exact hq.1.2 (h2 ▸ e)
    · rw [h2] at e
      injection e with e
      have := hq.2
      simp at e
      omega
  refine ⟨fun t ht => ?_, b7⟩
  rcases List.mem_append.1 ht with h | h
  · exact key' t (ks t h)
  · rw [List.mem_singleton.1 h]; exact key' _ hk
def txtV (t : ByteArray) : TV := .mk ⟨#[]⟩ t ⟨#[]⟩ ⟨none, 0, 0⟩ [] ⟨none, 0, 0⟩ []
theorem txtV_new (w : World) (t : ByteArray) (Q : Nat → Prop) : TNew w Q (txtV t) := TNew.mk (sk := ⟨none, 0, 0⟩) (AOk.nil_ w) (Kind.Own.nil kT w 0) (fun b hb => by cases hb) (fun k hk => by cases hk)
theorem txtV_er (l : List UInt8) : er (txtV (bs l)) = textT l := by simp [txtV, er, erL, textT]
theorem erL_append (l m : List TV) : erL (l ++ m) = erL l ++ erL m := by simp [erL_map]
/-- the state of guess's loop -/
def GRel (w : World) (f d : Nat) (s : ByteArray) (s0 s6 : Value) (wr : World) : Prop := ∃ (x : ByteArray) (A : Option Addr) (n c : Nat) (ts : List TV) (f' : Nat), s0 = .string x ∧ s6 = .slice A n c ∧ x.size < f' ∧ f' ≤ f ∧ ts.length + x.size ≤ 10000 ∧
  Hid (gF f d s.data.toList [] = gF f' d x.data.toList (erL ts)) ∧ Hid (kT.Own wr w.heap.size (.slice A n c) ts) ∧ Hid (∀ t ∈ ts, TNew wr (fun b => w.heap.size ≤ b ∧ (Value.slice A n c).ownBlock ≠ some b) t) ∧ Hid (Below w.heap.size w wr)
set_option maxRecDepth 100000 in
set_option maxHeartbeats 4000000 in
theorem guess_of (f : Nat) (EL : ∀ f', f' < f → ElemC f') : GuessC f := by
  intro s d w hsf hs hd
  have HE := Lib.hid EL
  have ST : Hid (GRel w f d s (.string s) (.slice none 0 0) w) := Lib.hid ⟨s, none, 0, 0, [], f, rfl, rfl, hsf, Nat.le_refl _, by simpa using hs, Lib.hid rfl, Lib.hid (Kind.Own.nil kT w _), Lib.hid (fun t ht => by cases ht), Lib.hid (Below.refl _ _)⟩
  clear EL hsf hs
  go_enter Try.func15, Try.ntmps15
  go_wp2_with fail
  go_loopw [0, 6] (fun s0 s6 wr => GRel w f d s s0 s6 wr) (fun s0 _ _ => match s0 with | .string x => x.size | _ => 0)
  case atStart => exact ST.out
  case round =>
    obtain ⟨x, A, n, c, ts, f', rfl, rfl, hx, hf', hts, HG, HO, HT, HB⟩ := hrel
    have hno := HO.out.slice
    have hnl : ts.length = n := by
      obtain ⟨_, _, _, hv, e1, _⟩ := hno
      injection hv with _ hv2 _
      rw [e1, ← hv2]
    clear hno
    by_cases h0 : 0 < x.size
    · by_cases h200 : d ≤ 200
      · obtain ⟨f2, rfl⟩ : ∃ g, f' = g + 1 := ⟨f' - 1, by omega⟩
        have hne : x.data.toList ≠ [] := fun e => by have := size_len x; rw [e] at this; simp at this; omega
        have hhd := head_at h0
        by_cases h60 : x[0] = 60
        · have q60 : ((x[0].toNat : Int) != 60) = false := by rw [h60]; rfl
          obtain ⟨b47, hb47⟩ : ∃ b : Bool, decide ((x.data.toList.drop 1).head? = some 47) = b := ⟨_, rfl⟩
          have HB47 := Lib.hid hb47
          clear hb47
          have HHD : Hid (x.data.toList.head? = some 60) := Lib.hid (by rw [hhd, h60])
          have HNE := Lib.hid hne
          clear hhd hne
          go_upto_region 8 with fail
          go_cut [46] (fun v wx => v = .bool b47 ∧ Hid (wx = wr))
          case first =>
            by_cases h1 : 1 < x.size
            · have hh1 := head_at1 h1
              by_cases h47 : x[1] = 47
              · have q47 : ((x[1].toNat : Int) == 47) = true := by rw [h47]; rfl
                have hb : b47 = true := by rw [← HB47.out, hh1, h47]; rfl
                subst hb
                clear hh1
                go_wp2_with fail
                go_meet
                exact ⟨rfl, Lib.hid rfl⟩
              · have q47 : ((x[1].toNat : Int) == 47) = false := P2.num_ne h47
                have hb : b47 = false := by rw [← HB47.out, hh1]; simpa using h47
                subst hb
                clear hh1
                go_wp2_with fail
                go_meet
                exact ⟨rfl, Lib.hid rfl⟩
            · have hb : b47 = false := by
                rw [← HB47.out, List.drop_of_length_le (by rw [size_len]; omega)]
                rfl
              subst hb
              go_wp2_with fail
              go_meet
              exact ⟨rfl, Lib.hid rfl⟩
          case rest =>
            obtain ⟨rfl, HEQ⟩ := hcut
            obtain rfl := HEQ.out
            cases b47 with
            | true =>
              have GN : Hid (gF (f2 + 1) d x.data.toList (erL ts) = (erL ts, x.data.toList)) := Lib.hid (by
                rw [gF, if_neg (by rintro (h | h); exact HNE.out h; omega), if_pos HHD.out, if_pos (by have := HB47.out; simpa using this)])
              go_wp2_with fail
              go_ret2
              refine ⟨A, n, c, ts, ?_, ?_, HO.out, HT.out, HB.out⟩
              · rw [HG.out, GN.out, bs_eta]; rfl
              · rw [HG.out, GN.out]
            | false =>
              have hew := elF_w (g := gAt f2) (d := d) HHD.out (fun d r => by have := gF_w f2 d r []; simp only [wL] at this; unfold gAt; omega)
              have CE : Hid (Calls Try.prog 30 #[.string x, .int .i64 d] wc (Ev wc (elF (gAt f2) d x.data.toList))) := Lib.hid (HE.out f2 (by omega) x d wc (by omega) (by omega) h200 HHD.out)
              have GN : Hid (gF (f2 + 1) d x.data.toList (erL ts) = gF f2 d (elF (gAt f2) d x.data.toList).2 (erL ts ++ [(elF (gAt f2) d x.data.toList).1])) := Lib.hid (by
                rw [gF, if_neg (by rintro (h | h); exact HNE.out h; omega), if_pos HHD.out, if_neg (by have := HB47.out; simpa using this)]
                show (if x.data.toList.length ≤ (elF (gAt f2) d x.data.toList).2.length then _ else _) = _
                rw [if_neg (by omega)]
                rfl)
              generalize elF (gAt f2) d x.data.toList = p at hew CE GN
              obtain ⟨p1, p2⟩ := p
              obtain ⟨_, hew2⟩ := hew
              have hew2 : p2.length < x.size := by rwa [size_len] at hew2
              have HP2 : Hid ((bs p2).data.toList = p2) := Lib.hid (bs_data p2)
              have hps : (bs p2).size = p2.length := bs_size p2
              go_wp2_with fail
              refine CE.out.mono ?_
              rintro e w1 ⟨tv, rfl, her, hnew, b1⟩
              have O1 := Lib.hid (HO.out.below b1 (Nat.le_refl _))
              have T1 : Hid (∀ t ∈ ts, TNew w1 (fun b => w.heap.size ≤ b ∧ (Value.slice A n c).ownBlock ≠ some b) t) := Lib.hid (fun t ht => (HT.out t ht).later b1)
              have hBs := HB.out.size
              have V1 : Hid (TNew w1 (fun b => w.heap.size ≤ b ∧ (Value.slice A n c).ownBlock ≠ some b) tv) := Lib.hid (hnew.mono fun b _ hb => ⟨by omega, fun e => by have := (HO.out.lt e).2; omega⟩)
              have B1 := Lib.hid (HB.out.trans (b1.mono HB.out.size))
              have her2 : er tv = p1 := her
              have HER := Lib.hid her2
              generalize hbp : bs p2 = rp at HP2 hps
              have HBP := Lib.hid hbp
              clear b1 hnew her her2 hbp
              go_upto_region 11 with fail
              have NA : Hid (TB (w1.alloc (.cells #[.string tv.tag, .string tv.txt, .string tv.key, .slice tv.sa.A tv.sa.n tv.sa.c, .slice tv.sk.A tv.sk.n tv.sk.c] 38)) w1.heap.size tv) := Lib.hid (TB.new w1 tv)
              have BA : Hid (Below w1.heap.size w1 (w1.alloc (.cells #[.string tv.tag, .string tv.txt, .string tv.key, .slice tv.sa.A tv.sa.n tv.sa.c, .slice tv.sk.A tv.sk.n tv.sk.c] 38))) := Lib.hid ((Below.refl _ _).alloc (Nat.le_refl _) _)
              generalize w1.alloc (.cells #[.string tv.tag, .string tv.txt, .string tv.key, .slice tv.sa.A tv.sa.n tv.sa.c, .slice tv.sk.A tv.sk.n tv.sk.c] 38) = wa at NA BA ⊢
              have O2 := Lib.hid (O1.out.below BA.out (Nat.le_refl _))
              have T2 : Hid (∀ t ∈ ts, TNew wa (fun b => w.heap.size ≤ b ∧ (Value.slice A n c).ownBlock ≠ some b) t) := Lib.hid (fun t ht => (T1.out t ht).later BA.out)
              have V2 := Lib.hid (V1.out.later BA.out)
              have B2 := Lib.hid (B1.out.trans (BA.out.mono B1.out.size))
              have hb2 := B2.out.size
              have a0 := NA.out.c0; have a1 := NA.out.c1; have a2 := NA.out.c2; have a3 := NA.out.c3; have a4 := NA.out.c4
              clear NA BA O1 T1 V1 B1
              go_wp2_with (at_builtin; refine kT.wp_app rfl _ _ rfl (v := .slice A n c) (l := ts) (m := [tv]) (B := w.heap.size) rfl (O2.out.alloc _) rfl rfl (fun e => by cases e) (Kind.Holds.lit (heap_alloc_new _ _) rfl) (by simp; omega) (by simp; omega) ?_; intro v' w4 hown' hgrow hat)
              obtain ⟨A', n', c', rfl, e1, e2, e3, e4, e5⟩ := hown'.slice
              have LG := list_grew O2.out T2.out V2.out hgrow hat
              have B4 : Hid (Below w.heap.size w w4) := Lib.hid (B2.out.trans (LG.2.to_below (fun i _ hi => (O2.out.lt hi).1) hb2))
              have REL : Hid (GRel w f d s (.string rp) (.slice A' n' c') w4) := Lib.hid ⟨rp, A', n', c', ts ++ [tv], f2, rfl, rfl, by omega, by omega, by rw [List.length_append]; simp only [List.length_cons, List.length_nil]; omega, Lib.hid (by rw [HG.out, GN.out, HP2.out, erL_append]; simp [erL, HER.out]), Lib.hid hown', Lib.hid LG.1, B4⟩
              have hlt : rp.size < x.size := by omega
              clear LG hown' hgrow hat e1 e2 e3 e4 e5 a0 a1 a2 a3 a4
              go_wp2_with fail
              go_roundw
              case rel => exact REL.out
              case measure => exact hlt
        · have q60 : ((x[0].toNat : Int) != 60) = true := by
            have := P2.num_ne h60
            simpa using this
          have GN : Hid (gF (f2 + 1) d x.data.toList (erL ts) = gF f2 d (x.data.toList.drop (untilL x.data.toList [60])) (erL ts ++ [textT (unesc (x.data.toList.take (untilL x.data.toList [60])))])) := Lib.hid (by
            rw [gF, if_neg (by rintro (h | h); exact hne h; omega), if_neg (by rw [hhd]; intro e; injection e with e; exact h60 e)])
          have hu1 : 1 ≤ untilL x.data.toList [60] := by
            cases hxl : x.data.toList with
            | nil => exact absurd hxl hne
            | cons c r =>
              rw [until_no (by
                rw [hxl] at hhd
                simp only [List.head?_cons, Option.some.injEq] at hhd
                rw [hhd]
                simpa using h60)]
              omega
          have hu2 : untilL x.data.toList [60] ≤ x.size := by have := until_le x.data.toList [60]; rwa [size_len] at this
          have hgb := getB_eq x (untilL x.data.toList [60])
          have hdr := ex_tail x (untilL x.data.toList [60])
          have hsz : ∀ u, (x.extract u x.size).size = x.size - u := fun u => by rw [ByteArray.size_extract]; omega
          have CU : Hid (Calls Try.prog 28 #[.string x, .string ⟨#[60]⟩] wr fun e w' => e = .returned (.int .i64 (untilL x.data.toList [60] : Nat)) ∧ Below wr.heap.size wr w') := Lib.hid (until_any x ⟨#[60]⟩ wr (by omega) (by decide))
          clear hhd hne
          generalize untilL x.data.toList [60] = u at GN hu1 hu2 hgb hdr CU
          have HGB := Lib.hid hgb
          have HDR := Lib.hid hdr
          clear hgb hdr
          go_wp2_with fail
          refine CU.out.mono ?_
          rintro e w1 ⟨rfl, b1⟩
          have B1 := Lib.hid b1
          clear b1
          go_wp2_with fail
          refine (P2.rget_any (x.extract 0 u) w1 (by rw [ByteArray.size_extract]; omega)).mono ?_
          rintro e w2 ⟨rfl, b2⟩
          rw [HGB.out]
          have B2 : Hid (Below wr.heap.size wr w2) := Lib.hid (B1.out.trans (b2.mono B1.out.size))
          clear b2 B1
          have O2 := Lib.hid (HO.out.below B2.out (Nat.le_refl _))
          have T2 : Hid (∀ t ∈ ts, TNew w2 (fun b => w.heap.size ≤ b ∧ (Value.slice A n c).ownBlock ≠ some b) t) := Lib.hid (fun t ht => (HT.out t ht).later B2.out)
          have B3 := Lib.hid (HB.out.trans (B2.out.mono HB.out.size))
          have hb3 := B3.out.size
          go_wp2_with (at_builtin; refine kT.wp_app rfl _ _ rfl (v := .slice A n c) (l := ts) (m := [txtV (bs (unesc (x.data.toList.take u)))]) (B := w.heap.size) rfl (O2.out.alloc _) rfl rfl (fun e => by cases e) (Kind.Holds.lit (heap_alloc_new _ _) rfl) (by simp; omega) (by simp; omega) ?_; intro v' w4 hown' hgrow hat)
          obtain ⟨A', n', c', rfl, e1, e2, e3, e4, e5⟩ := hown'.slice
          have LG := list_grew O2.out T2.out (txtV_new w2 (bs (unesc (x.data.toList.take u))) _) hgrow hat
          have B4 : Hid (Below w.heap.size w w4) := Lib.hid (B3.out.trans (LG.2.to_below (fun i _ hi => (O2.out.lt hi).1) hb3))
          have REL : Hid (GRel w f d s (.string (x.extract u x.size)) (.slice A' n' c') w4) := Lib.hid ⟨x.extract u x.size, A', n', c', ts ++ [txtV (bs (unesc (x.data.toList.take u)))], f2, rfl, rfl, by rw [hsz]; omega, by omega, by rw [hsz, List.length_append]; simp only [List.length_cons, List.length_nil]; omega, Lib.hid (by rw [HG.out, GN.out, HDR.out, erL_append]; simp [erL, txtV_er]), Lib.hid hown', Lib.hid LG.1, B4⟩
          have hlt : (x.extract u x.size).size < x.size := by rw [hsz]; omega
          clear LG hown' hgrow hat e1 e2 e3 e4 e5
          go_wp2_with fail
          go_roundw
          case rel => exact REL.out
          case measure => exact hlt
      · have GN : Hid (gF f' d x.data.toList (erL ts) = (erL ts, x.data.toList)) := Lib.hid (by
          obtain ⟨f2, rfl⟩ : ∃ g, f' = g + 1 := ⟨f' - 1, by omega⟩
          rw [gF, if_pos (.inr (by omega))])
        go_wp2_with fail
        go_ret2
        refine ⟨A, n, c, ts, ?_, ?_, HO.out, HT.out, HB.out⟩
        · rw [HG.out, GN.out, bs_eta]; rfl
        · rw [HG.out, GN.out]
    · have GN : Hid (gF f' d x.data.toList (erL ts) = (erL ts, x.data.toList)) := Lib.hid (by
        obtain ⟨f2, rfl⟩ : ∃ g, f' = g + 1 := ⟨f' - 1, by omega⟩
        rw [gF, if_pos (.inl (list_nil (by omega)))])
      go_wp2_with fail
      go_ret2
      refine ⟨A, n, c, ts, ?_, ?_, HO.out, HT.out, HB.out⟩
      · rw [HG.out, GN.out, bs_eta]; rfl
      · rw [HG.out, GN.out]
end Go.Proofs.Ytbdcbjeeaebfeaa.P10
