/- The deeds of layer 5's laws, as they lie in memory; Few, Rec. -/
import Derived.Test.YtopnadaedcpaaaaDom10
import Derived.Test.YtopnadaedcpaaaaFew3
namespace Go.Proofs.Ytopnadaedcpaaaa.P5
open Go.RowKit Kd P4
variable {B p : Nat} {x : Dx}

/-- a deed that came in: its texts are no longer than texts may be, its attributes lie in memory -/
structure DeedOk (w : World) (r : RE) : Prop where
  what1 : -9223372036854775808 ≤ r.what
  what2 : r.what ≤ 9223372036854775807
  tag : r.tag.size ≤ maxLen
  txt : r.txt.size ≤ maxLen
  key : r.key.size ≤ maxLen
  at_ : ∃ l : List P3.At, l.length = r.va.n ∧ r.va.n ≤ r.va.c ∧ r.va.c ≤ maxLen ∧ (r.va.A = none → r.va.c = 0) ∧ kA.Holds w w.heap.size r.va.A l ∧ P3.Wf l
theorem DeedOk.below {w w' : World} {r : RE} (h : DeedOk w r) (hb : Below w.heap.size w w') : DeedOk w' r := by
  obtain ⟨l, h1, h2, h3, h4, h5, h6⟩ := h.at_
  exact ⟨h.what1, h.what2, h.tag, h.txt, h.key, l, h1, h2, h3, h4, h5.on hb, h6⟩
theorem cell_of_deeds {w : World} {B : Nat} {A : Option Addr} {l : List RE} (h : kE.Holds w B A l) {k : Nat} (hk : k < l.length) :
    ∃ b o, A = some ⟨b, o, none⟩ ∧ b < B ∧ w.cell? ⟨b, o + k * 12, none⟩ = some (.int .i64 l[k].what) ∧ w.cell? ⟨b, o + k * 12 + 1, none⟩ = some (.bool l[k].next) ∧
      w.cell? ⟨b, o + k * 12 + 2, none⟩ = some (.int .i64 l[k].op) ∧ w.cell? ⟨b, o + k * 12 + 3, none⟩ = some (.int .i64 l[k].rid) ∧ w.cell? ⟨b, o + k * 12 + 4, none⟩ = some (.int .i64 l[k].par) ∧ w.cell? ⟨b, o + k * 12 + 5, none⟩ = some (.int .i64 l[k].bef) ∧
      w.cell? ⟨b, o + k * 12 + 6, none⟩ = some (.string l[k].tag) ∧ w.cell? ⟨b, o + k * 12 + 7, none⟩ = some (.string l[k].txt) ∧ w.cell? ⟨b, o + k * 12 + 8, none⟩ = some (.string l[k].key) ∧ w.cell? ⟨b, o + k * 12 + 9, none⟩ = some (.slice l[k].va.A l[k].va.n l[k].va.c) ∧
      w.cell? ⟨b, o + k * 12 + 10, none⟩ = some (.int .i64 l[k].id) ∧ w.cell? ⟨b, o + k * 12 + 11, none⟩ = some (.int .i64 l[k].n) := by
  obtain ⟨b, o, rfl, hb, hc⟩ := h.at hk
  exact ⟨b, o, rfl, hb, hc 0 _ rfl, hc 1 _ rfl, hc 2 _ rfl, hc 3 _ rfl, hc 4 _ rfl, hc 5 _ rfl, hc 6 _ rfl, hc 7 _ rfl, hc 8 _ rfl, hc 9 _ rfl, hc 10 _ rfl, hc 11 _ rfl⟩

def Few5 (w : World) (l : List RE) (e : Ending) (w' : World) : Prop :=
  ∃ f : Int, e = .returned (.int .i64 f) ∧ (f = 0 ∨ f = 1 ∧ l.length ≤ 60 ∧ ∀ r ∈ l, r.va.n ≤ 20) ∧ Below w.heap.size w w'
theorem few5_no {w w' : World} {l : List RE} (hb : Below w.heap.size w w') : Few5 w l (.returned (.int .i64 0)) w' := ⟨0, rfl, .inl rfl, hb⟩
set_option maxHeartbeats 1000000 in
theorem few5_any (l : List RE) (A : Option Addr) (n c : Nat) (w : World) (hn : l.length = n) (hm : n ≤ maxLen) (H : kE.Holds w w.heap.size A l) (hd : ∀ r ∈ l, DeedOk w r) :
    Calls Try.prog 7 #[.slice A n c, .int .i64 60] w (Few5 w l) := by
  unfold maxLen at hm
  have HH := Lib.hid H
  have HN := Lib.hid hn
  have HD := Lib.hid hd
  clear H hn hd
  go_enter Try.func7, Try.ntmps7
  go_wp2_with fail
  go_loopw [5] (fun i wr => ∃ k : Nat, k ≤ n ∧ k ≤ 60 ∧ i = .int .i64 k ∧ Hid (∀ j (h : j < l.length), j < k → l[j].va.n ≤ 20) ∧ Hid (Below w.heap.size w wr)) (fun i _ => n - (intOf i).toNat)
  case atStart => exact ⟨0, by omega, by omega, rfl, Lib.hid (fun j _ h => by omega), Lib.hid (Below.refl _ _)⟩
  case round =>
    obtain ⟨k, hk, hk60, rfl, HS, HW⟩ := hrel
    by_cases hlt : k < n
    · by_cases h60 : k < 60
      · have hkl : k < l.length := by have := HN.out; omega
        obtain ⟨b, o, rfl, hb, g0, g1, g2, g3, g4, g5, g6, g7, g8, g9, g10, g11⟩ := cell_of_deeds (HH.out.on HW.out) hkl
        have hdk := (HD.out _ (List.getElem_mem hkl)).below HW.out
        obtain ⟨al, a1, a2, a3, a4, a5, a6⟩ := hdk.at_
        have hz := HW.out.size
        have HL : Hid (l[k].va.n ≤ 20 → ∀ j (h : j < l.length), j < k + 1 → l[j].va.n ≤ 20) := Lib.hid (fun h20 j hj hjk => by
          by_cases e : j = k
          · subst e; exact h20
          · exact HS.out j hj (by omega))
        generalize l[k] = d at g0 g1 g2 g3 g4 g5 g6 g7 g8 g9 g10 g11 hdk a1 a2 a3 a4 a5 HL
        obtain ⟨what, next, op, rid, par, bef, tag, txt, key, ⟨vA, vn, vc⟩, id, dn⟩ := d
        simp only at g0 g1 g2 g3 g4 g5 g6 g7 g8 g9 g10 g11 a1 a2 a3 a4 a5 HL
        have t1 := hdk.tag
        have t2 := hdk.txt
        have t3 := hdk.key
        simp only at t1 t2 t3
        unfold maxLen at a3 t1 t2 t3
        have A1 := Lib.hid a1
        have A5 := Lib.hid a5
        have BW : Hid (Below w.heap.size w (wr.alloc (.cells #[.int .i64 op, .int .i64 rid, .int .i64 par, .int .i64 bef, .string tag, .string txt, .string key, .slice vA vn vc] 35))) := Lib.hid (HW.out.alloc hz _)
        clear hdk a1 a4 a5 a6
        by_cases h1 : 100 < tag.size
        · go_wp2_with fail
          go_ret
          exact few5_no BW.out
        · by_cases h2 : 100 < txt.size
          · go_wp2_with fail
            go_ret
            exact few5_no BW.out
          · by_cases h3 : 100 < key.size
            · go_wp2_with fail
              go_ret
              exact few5_no BW.out
            · cases hf : P3.fewA al with
              | false =>
                have HF : Hid (P3.fewN al = 0) := Lib.hid (by unfold P3.fewN; rw [hf]; rfl)
                clear hf
                go_wp2_with fail
                refine (P3.few_any al vA vn vc _ A1.out (by omega) (p3holds (A5.out.on ((Below.refl _ _).alloc (Nat.le_refl _) _)))).mono ?_
                rintro e w' ⟨rfl, rfl⟩
                rw [HF.out]
                go_wp2_with fail
                go_ret
                exact few5_no BW.out
              | true =>
                have HF : Hid (P3.fewN al = 1) := Lib.hid (by unfold P3.fewN; rw [hf]; rfl)
                have h20 : vn ≤ 20 := by unfold P3.fewA at hf; simp at hf; have := A1.out; omega
                clear hf
                go_wp2_with fail
                refine (P3.few_any al vA vn vc _ A1.out (by omega) (p3holds (A5.out.on ((Below.refl _ _).alloc (Nat.le_refl _) _)))).mono ?_
                rintro e w' ⟨rfl, rfl⟩
                rw [HF.out]
                go_wp2_with fail
                go_roundw
                case rel => exact ⟨k + 1, by omega, by omega, by go_num, Lib.hid (HL.out h20), BW⟩
                case measure => simp [intOf]; omega
      · obtain rfl : k = 60 := by omega
        go_wp2_with fail
        go_ret
        exact few5_no HW.out
    · obtain rfl : k = n := by omega
      go_wp2_with fail
      go_ret
      refine ⟨1, rfl, .inr ⟨rfl, by rw [HN.out]; exact hk60, fun r hr => ?_⟩, HW.out⟩
      obtain ⟨j, hj, rfl⟩ := List.mem_iff_getElem.1 hr
      exact HS.out j hj (by have := HN.out; omega)

/-! ### Rec -/
/-- the change of a deed, of a document whose last identity is n -/
def recOf (r : RE) (n : Int) (l : List P3.At) : Rc := ⟨r.op, if r.next = true ∧ r.op = 1 then n + 1 else r.rid, r.par, r.bef, r.tag, r.txt, r.key, l⟩
def Recd (w : World) (r : RE) (n : Int) (e : Ending) (w' : World) : Prop :=
  e = .returned (.agg #[.int .i64 r.op, .int .i64 (if r.next = true ∧ r.op = 1 then n + 1 else r.rid), .int .i64 r.par, .int .i64 r.bef, .string r.tag, .string r.txt, .string r.key, .slice r.va.A r.va.n r.va.c]) ∧ Below w.heap.size w w'
set_option maxHeartbeats 1000000 in
theorem rec_any (r : RE) (w : World) (hn : x.n ≤ 100000) (h : Dc w B p x) : Calls Try.prog 18 #[.pointer (some ⟨p, 0, none⟩), .agg #[.int .i64 r.what, .bool r.next, .int .i64 r.op, .int .i64 r.rid, .int .i64 r.par, .int .i64 r.bef, .string r.tag, .string r.txt, .string r.key, .slice r.va.A r.va.n r.va.c, .int .i64 r.id, .int .i64 r.n]] w (Recd w r x.n) := by
  obtain ⟨what, next, op, rid, par, bef, tag, txt, key, ⟨vA, vn, vc⟩, id, dn⟩ := r
  simp only
  have H := Lib.hid h
  have B2 : Hid (Below w.heap.size w ((w.alloc (.cells #[.int .i64 what, .bool next, .int .i64 op, .int .i64 rid, .int .i64 par, .int .i64 bef, .string tag, .string txt, .string key, .slice vA vn vc, .int .i64 id, .int .i64 dn] 37)).alloc (.cells #[.int .i64 0, .int .i64 0, .int .i64 0, .int .i64 0, .string ⟨#[]⟩, .string ⟨#[]⟩, .string ⟨#[]⟩, .slice none 0 0] 35))) := Lib.hid (((Below.refl _ _).alloc (Nat.le_refl _) _).alloc (by simp) _)
  have H2 := Lib.hid (h.below B2.out)
  have hz : w.heap.size + 1 < w.heap.size + 1 + 1 := by omega
  clear h
  cases next with
  | false =>
    go_enter Try.func18, Try.ntmps18
    go_wp2_with fail
    refine bodyPost_ret (v := .agg #[.int .i64 op, .int .i64 rid, .int .i64 par, .int .i64 bef, .string tag, .string txt, .string key, .slice vA vn vc]) (by simp [results, Try.results18, go_sem]) rfl ⟨by simp, ?_⟩
    exact (by repeat (first | exact Below.refl _ _ | refine Below.drew ?_ | refine Below.alloc ?_ (by first | exact Nat.le_refl _ | (simp; done) | (simp; omega)) _ | refine Below.setCell ?_ (by first | exact Nat.le_refl _ | (simp; done) | (simp; omega)) _))
  | true =>
    by_cases ho : op = 1
    · have hq : (op == 1) = true := by simpa using ho
      have HO := Lib.hid ho
      clear ho
      go_enter Try.func18, Try.ntmps18
      go_wp2_with fail
      refine (next_any _ hn rfl H2.out).mono ?_
      rintro e w' ⟨rfl, rfl⟩
      go_wp2_with fail
      refine bodyPost_ret (v := .agg #[.int .i64 op, .int .i64 (x.n + 1), .int .i64 par, .int .i64 bef, .string tag, .string txt, .string key, .slice vA vn vc]) (by simp [results, Try.results18, go_sem]) rfl ⟨by simp [HO.out], ?_⟩
      exact (by repeat (first | exact Below.refl _ _ | refine Below.drew ?_ | refine Below.alloc ?_ (by first | exact Nat.le_refl _ | (simp; done) | (simp; omega)) _ | refine Below.setCell ?_ (by first | exact Nat.le_refl _ | (simp; done) | (simp; omega)) _))
    · have hq : (op == 1) = false := by simpa using ho
      have HO := Lib.hid ho
      clear ho
      go_enter Try.func18, Try.ntmps18
      go_wp2_with fail
      refine bodyPost_ret (v := .agg #[.int .i64 op, .int .i64 rid, .int .i64 par, .int .i64 bef, .string tag, .string txt, .string key, .slice vA vn vc]) (by simp [results, Try.results18, go_sem]) rfl ⟨by simp [HO.out], ?_⟩
      exact (by repeat (first | exact Below.refl _ _ | refine Below.drew ?_ | refine Below.alloc ?_ (by first | exact Nat.le_refl _ | (simp; done) | (simp; omega)) _ | refine Below.setCell ?_ (by first | exact Nat.le_refl _ | (simp; done) | (simp; omega)) _))
end Go.Proofs.Ytopnadaedcpaaaa.P5
