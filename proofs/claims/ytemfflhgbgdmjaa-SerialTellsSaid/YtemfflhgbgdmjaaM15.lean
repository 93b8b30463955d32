/- How long a tree's HTML may be. No condition but those stated. -/
import Derived.Shelf.Strings.Builder1
import Derived.Shelf.Strings.Prefix
import Derived.Test.YtemfflhgbgdmjaaProg
import Derived.WalkKit
import Derived.Test.YtemfflhgbgdmjaaM14
set_option linter.unusedVariables false
set_option linter.unusedSimpArgs false
namespace Go.Proofs.Ytemfflhgbgdmjaa.P9
open Go.RowKit Kd P4 P5 P8

theorem attrH_len {a : P3.At} (h : P3.shortA a = true) : (attrH a).length ≤ 1000 := by
  unfold P3.shortA at h
  simp only [Bool.and_eq_true, decide_eq_true_eq] at h
  have h1 := P2.putL_len a.vl.data.toList
  have e1 : a.nm.data.toList.length = a.nm.size := by simp
  have e2 : a.vl.data.toList.length = a.vl.size := by simp
  simp only [attrH, List.length_cons, List.length_append, List.length_nil]
  omega
theorem attrsH_len : ∀ {l : List P3.At}, l.all P3.shortA = true → (attrsH l).length ≤ 1000 * l.length
  | [], _ => by simp [attrsH]
  | a :: l, h => by
    rw [List.all_cons, Bool.and_eq_true] at h
    have h1 := attrH_len h.1
    have h2 := attrsH_len h.2
    simp only [attrsH, List.flatMap_cons, List.length_append, List.length_cons] at h2 ⊢
    omega
theorem attrsH_few {l : List P3.At} (h : P3.fewA l = true) : (attrsH l).length ≤ 20000 := by
  unfold P3.fewA at h
  simp only [Bool.and_eq_true, decide_eq_true_eq] at h
  have := attrsH_len h.2
  omega
theorem attrsH_take_le (l : List P3.At) (k : Nat) : (attrsH (l.take k)).length ≤ (attrsH l).length := by
  have e : attrsH l = attrsH (l.take k) ++ attrsH (l.drop k) := by unfold attrsH; rw [← List.flatMap_append, List.take_append_drop]
  rw [e, List.length_append]
  omega
theorem attrsH_snoc {l : List P3.At} {k : Nat} (h : k < l.length) : attrsH (l.take (k + 1)) = attrsH (l.take k) ++ attrH l[k] := by
  rw [List.take_add_one, List.getElem?_eq_getElem h]
  unfold attrsH
  rw [List.flatMap_append]
  simp
theorem allH_snoc {l : List PT} {k : Nat} (h : k < l.length) : allH (l.take (k + 1)) = allH (l.take k) ++ putH l[k] := by
  rw [List.take_add_one, List.getElem?_eq_getElem h, allH_append]
  simp [allH]
theorem allH_take_le (l : List PT) (k : Nat) : (allH (l.take k)).length ≤ (allH l).length := by
  have e : allH l = allH (l.take k) ++ allH (l.drop k) := by rw [← allH_append, List.take_append_drop]
  rw [e, List.length_append]
  omega
theorem allH_at {l : List PT} {k : Nat} (h : k < l.length) : (putH l[k]).length ≤ (allH l).length := by
  have h1 := congrArg List.length (allH_snoc h)
  have h2 := allH_take_le l (k + 1)
  rw [List.length_append] at h1
  omega
theorem allH_le : ∀ {l : List PT}, (∀ t ∈ l, (putH t).length ≤ 30000 * countP t) → (allH l).length ≤ 30000 * countL l
  | [], _ => by simp [allH]
  | a :: l, h => by
    have h1 := h a (by simp)
    have h2 := allH_le (l := l) (fun t ht => h t (by simp [ht]))
    rw [allH, countL, List.length_append]
    omega
theorem putH_len (t : PT) : fewP t = true → (putH t).length ≤ 30000 * countP t := by
  induction t using PT.ind with
  | h tag txt key attrs kids ih =>
    intro hf
    rw [fewP] at hf
    simp only [Bool.and_eq_true, decide_eq_true_eq] at hf
    obtain ⟨⟨⟨⟨f1, f2⟩, f3⟩, f4⟩, f5⟩ := hf
    rw [fewL_all, List.all_eq_true] at f5
    have h1 := allH_le (fun t ht => ih t ht (f5 t ht))
    have h2 := attrsH_few f4
    have h3 := P2.putL_len txt.data.toList
    have e1 : tag.data.toList.length = tag.size := by simp
    have e2 : txt.data.toList.length = txt.size := by simp
    rw [putH, countP]
    split
    · omega
    · simp only [List.length_cons, List.length_append]
      split
      · simp; omega
      · simp only [List.length_cons, List.length_append, List.length_nil]
        omega
theorem allH_len {l : List PT} (h : fewL l = true) : (allH l).length ≤ 30000 * countL l := allH_le (fun t ht => putH_len t (by rw [fewL_all, List.all_eq_true] at h; exact h t ht))
/-- an element's HTML up to its first > -/
def openH (tag : List UInt8) (attrs : List P3.At) : List UInt8 := 60 :: (tag ++ (attrsH attrs ++ [62]))
theorem putH_text {tag txt key : ByteArray} {attrs : List P3.At} {kids : List PT} (h : tag.toList.isEmpty = true) : putH (.mk tag txt key attrs kids) = P2.putL txt.data.toList := by rw [putH, if_pos h]
theorem putH_void {tag txt key : ByteArray} {attrs : List P3.At} {kids : List PT} (h : tag.toList.isEmpty = false) (hv : P1.voidB tag.data.toList = true) : putH (.mk tag txt key attrs kids) = openH tag.data.toList attrs := by rw [putH, if_neg (by simp [h]), hv]; rfl
theorem putH_el {tag txt key : ByteArray} {attrs : List P3.At} {kids : List PT} (h : tag.toList.isEmpty = false) (hv : P1.voidB tag.data.toList = false) : putH (.mk tag txt key attrs kids) = openH tag.data.toList attrs ++ (allH kids ++ 60 :: 47 :: (tag.data.toList ++ [62])) := by
  rw [putH, if_neg (by simp [h]), hv]
  simp [openH]
end Go.Proofs.Ytemfflhgbgdmjaa.P9

/- What the three writing calls of strings.Builder do at a builder that the call itself has made; and String and HasPrefix, laid by the shelf. -/
namespace Go.Proofs.Ytemfflhgbgdmjaa.Bd
open Go.RowKit
set_option linter.unusedVariables false

theorem sizeBuilder : (Try.prog.info? 39).map (·.size) = some 2 := by kernel_rfl
theorem liesBuilder : liesAt Try.prog Try.prog.depth 39 (2 / Try.prog.cellsOf 39) 0 39 1 = true := by kernel_rfl
theorem infoByte : (Try.prog.info? 5).map (fun i => (i.zero, i.size, i.bytes)) = some (some (.int .u8 0), 1, 1) := by kernel_rfl

set_option maxHeartbeats 1000000 in
set_option maxRecDepth 100000 in
theorem check_used (b : Nat) (w : World) (h0 : w.cell? ⟨b, 0, none⟩ = some (.pointer (some ⟨b, 0, none⟩))) :
    Calls Try.prog 31 #[.pointer (some ⟨b, 0, none⟩)] w fun e w' => e = .returned (.tuple #[]) ∧ w' = w := by
  obtain ⟨j, hj, _⟩ := Option.map_eq_some_iff.1 sizeBuilder
  go_enter Try.func31, Try.ntmps31
  go_wp2
  rw [Lib.run_neq_ptr_same w _ Try.underlying36 hj]
  go_wp2
  go_end0
  exact ⟨rfl, rfl⟩

set_option maxHeartbeats 1000000 in
set_option maxRecDepth 100000 in
theorem check_fresh (b : Nat) (w : World) (h0 : w.cell? ⟨b, 0, none⟩ = some (.pointer none)) (hsh : w.shape? b = some (39, 2)) (hfz : w.frozen? ⟨b, 0, none⟩ = false) :
    Calls Try.prog 31 #[.pointer (some ⟨b, 0, none⟩)] w fun e w' => e = .returned (.tuple #[]) ∧ w' = w.setCell ⟨b, 0, none⟩ (.pointer (some ⟨b, 0, none⟩)) := by
  obtain ⟨j, hj, hjs⟩ := Option.map_eq_some_iff.1 sizeBuilder
  go_enter Try.func31, Try.ntmps31
  go_wp2
  rw [Lib.run_to_unsafe w ⟨b, 0, none⟩ Try.underlying36 Try.underlying57 hj (by rw [hjs]; decide) hsh (Nat.zero_lt_succ 1)]
  simp only [Result.andThen]
  rw [Oper.upon_value]
  go_wp2
  rw [run_callFunc_extern Try.func34 (by kernel_rfl) (by kernel_rfl) (by kernel_rfl) (e := Extern.AbiNoEscape.same) (by kernel_rfl)]
  rw [Lib.run_noEscape]
  simp only [Result.andThen]
  rw [Oper.upon_value]
  go_wp2
  rw [Lib.run_from_unsafe w ⟨b, 0, none⟩ Try.underlying57 Try.underlying36 hj hsh liesBuilder]
  simp only [Result.andThen]
  rw [Oper.upon_value]
  go_wp2
  go_end0
  exact ⟨rfl, rfl⟩

theorem check_any (B b : Nat) (bs : List Value) (w : World) (h : Lib.IsBuilder 39 5 B b bs w) :
    Calls Try.prog 31 #[.pointer (some ⟨b, 0, none⟩)] w fun e w' => e = .returned (.tuple #[]) ∧ (Lib.BuilderAt 39 5 B b (.pointer (some ⟨b, 0, none⟩)) bs w' ∧ Below B w w') := by
  rcases h with h | h
  · exact (check_fresh b w h.cell0 h.shape h.frozen0).mono fun e w' ⟨he, hw⟩ => ⟨he, hw ▸ h.used _, hw ▸ (Below.refl B w).setCell (p := ⟨b, 0, none⟩) h.1 _⟩
  · exact (check_used b w h.cell0).mono fun e w' ⟨he, hw⟩ => ⟨he, hw ▸ h, hw ▸ Below.refl B _⟩

set_option maxHeartbeats 2000000 in
set_option maxRecDepth 100000 in
theorem byte_any (B b : Nat) (bs : List Value) (c : Int) (w : World) (h : Lib.IsBuilder 39 5 B b bs w) (hlen : bs.length + 1 ≤ 140737488355328) (hBw : B ≤ w.heap.size) :
    Calls Try.prog 33 #[.pointer (some ⟨b, 0, none⟩), .int .u8 c] w fun e w' => e = .returned .nilIface ∧ (Lib.IsBuilder 39 5 B b (bs ++ [.int .u8 c]) w' ∧ Below B w w') := by
  obtain ⟨i0, hi, hz0, hz1, hz2⟩ := info_parts infoByte
  go_enter Try.func33, Try.ntmps33
  go_wp2_with (go_at_call 31; refine (check_any B b bs _ h).mono ?_)
  rintro e w1 ⟨rfl, h1, hb1⟩
  obtain ⟨hB, v, hbk, hown, hne⟩ := h1
  have c0 : w1.cell? ⟨b, 0, none⟩ = some (.pointer (some ⟨b, 0, none⟩)) := by rw [Lib.cell_of_heap hbk]; rfl
  have c1 : w1.cell? ⟨b, 1, none⟩ = some v := by rw [Lib.cell_of_heap hbk]; rfl
  go_wp2_with (at_builtin; refine wpList_append_own _ rfl _ _ 37 rfl B 5 i0 (.int .u8 0) 1 1 Try.underlying37 hi hz0 hz1 hz2 rfl (by decide) _ _ _ rfl (hown.alloc _) ⟨w1.heap.size, 0, none⟩ 1 1 [.int .u8 c] rfl rfl ?c1 ?c2 ?c3 ?c4 ?c5 ?_)
  case c1 =>
    intro j u hj
    match j, hj with
    | 0, hj => simp at hj; subst hj; simp [Addr.add]
  case c2 => intro u hu; simp at hu; subst hu; rfl
  case c3 => unfold maxLen; omega
  case c4 => omega
  case c5 => have := hb1.size; simp; omega
  intro v' w2 hown' hgrow _
  have hlt : b < w1.heap.size := by
    rcases Nat.lt_or_ge b w1.heap.size with h' | h'
    · exact h'
    · simp [Array.getElem?_eq_none h'] at hbk
  have hb2 : w2.heap[b]? = some (.cells #[.pointer (some ⟨b, 0, none⟩), v] 39 (0, 0)) := by
    rw [hgrow.block b (by simp; omega) (fun e => hne e.symm), Lib.alloc_old w1 _ b hlt]
    exact hbk
  have d0 : w2.cell? ⟨b, 0, none⟩ = some (.pointer (some ⟨b, 0, none⟩)) := by rw [Lib.cell_of_heap hb2]; rfl
  have d1 : w2.cell? ⟨b, 1, none⟩ = some v := by rw [Lib.cell_of_heap hb2]; rfl
  have f1 : w2.frozen? ⟨b, 1, none⟩ = false := Lib.frozen_of_heap hb2 1
  obtain ⟨g, cap, rfl⟩ : ∃ g cap, v' = .slice (some ⟨g, 0, none⟩) (bs.length + 1) cap := by
    rcases hown'.2 with ⟨_, h0⟩ | ⟨g, cap, cur, hv, _⟩
    · omega
    · exact ⟨g, cap, hv⟩
  go_wp2
  go_ret
  refine ⟨rfl, ?_, ?_⟩
  · exact Or.inr (Lib.BuilderAt.put (T := 39) (e := 5) hB hb2 (bs' := bs ++ [.int .u8 c]) (by simpa using hown') (by decide))
  · exact ((hb1.alloc (by have := hb1.size; omega) _).grown hgrow (by have := hb1.size; simp; omega) (fun k hk => (hown.lt k hk).1)).setCell (p := ⟨b, 1, none⟩) hB _

set_option maxHeartbeats 2000000 in
set_option maxRecDepth 100000 in
theorem string_any (B b : Nat) (bs : List Value) (s : ByteArray) (w : World) (h : Lib.IsBuilder 39 5 B b bs w) (hlen : bs.length + s.size ≤ 140737488355328) (hBw : B ≤ w.heap.size) :
    Calls Try.prog 25 #[.pointer (some ⟨b, 0, none⟩), .string s] w fun e w' => e = .returned (.tuple #[.int .i64 s.size, .nilIface]) ∧ (Lib.IsBuilder 39 5 B b (bs ++ Lib.strCells s) w' ∧ Below B w w') := by
  obtain ⟨i0, hi, hz0, hz1, hz2⟩ := info_parts infoByte
  go_enter Try.func25, Try.ntmps25
  go_wp2_with (go_at_call 31; refine (check_any B b bs _ h).mono ?_)
  rintro e w1 ⟨rfl, h1, hb1⟩
  obtain ⟨hB, v, hbk, hown, hne⟩ := h1
  have c0 : w1.cell? ⟨b, 0, none⟩ = some (.pointer (some ⟨b, 0, none⟩)) := by rw [Lib.cell_of_heap hbk]; rfl
  have c1 : w1.cell? ⟨b, 1, none⟩ = some v := by rw [Lib.cell_of_heap hbk]; rfl
  go_wp2_with (at_builtin; refine Lib.wpList_append_own_string _ rfl _ _ 37 9 rfl B 5 i0 Try.underlying37 Try.underlying9 hi hz0 hz1 hz2 _ _ _ rfl hown s rfl ?c3 ?c4 ?c5 ?_)
  case c3 => unfold maxLen; omega
  case c4 => omega
  case c5 => have := hb1.size; omega
  intro v' w2 hown' hgrow _
  have hlt : b < w1.heap.size := by
    rcases Nat.lt_or_ge b w1.heap.size with h' | h'
    · exact h'
    · simp [Array.getElem?_eq_none h'] at hbk
  have hb2 : w2.heap[b]? = some (.cells #[.pointer (some ⟨b, 0, none⟩), v] 39 (0, 0)) := by
    rw [hgrow.block b hlt (fun e => hne e.symm)]
    exact hbk
  have d0 : w2.cell? ⟨b, 0, none⟩ = some (.pointer (some ⟨b, 0, none⟩)) := by rw [Lib.cell_of_heap hb2]; rfl
  have d1 : w2.cell? ⟨b, 1, none⟩ = some v := by rw [Lib.cell_of_heap hb2]; rfl
  have f1 : w2.frozen? ⟨b, 1, none⟩ = false := Lib.frozen_of_heap hb2 1
  obtain ⟨ao, n', cap, rfl⟩ : ∃ ao n' cap, v' = .slice ao n' cap := by
    rcases hown'.2 with ⟨hv, _⟩ | ⟨g, cap, cur, hv, _⟩
    · exact ⟨_, _, _, hv⟩
    · exact ⟨_, _, _, hv⟩
  go_wp2
  go_ret2
  refine ⟨rfl, ?_, ?_⟩
  · exact Or.inr (Lib.BuilderAt.put (T := 39) (e := 5) hB hb2 (bs' := bs ++ Lib.strCells s) (by simpa [Lib.strCells_length] using hown') (by decide))
  · exact (hb1.grown hgrow (by have := hb1.size; omega) (fun k hk => (hown.lt k hk).1)).setCell (p := ⟨b, 1, none⟩) hB _

def ren169 : Go.Shelf.Ren := ⟨fun | 169 => 17 | n => n, fun | 70 => 36 | 9 => 9 | 0 => 0 | 72 => 39 | 37 => 37 | 127 => 53 | 3 => 3 | 5 => 5 | n => n, fun | n => n⟩
theorem lays169 : Go.Proofs.Lays.n169 Try.prog ren169 := {
  mixed := by kernel_rfl
  f169 := Try.func17.trans (congrArg some (by kernel_rfl))
  t0 := Try.underlying0
  a0 := Try.isAgg0
  z0 := Try.sizeOf0
  v0 := Try.zeroValue0
  t3 := Try.underlying3
  a3 := Try.isAgg3
  z3 := Try.sizeOf3
  v3 := Try.zeroValue3
  t9 := Try.underlying9
  a9 := Try.isAgg9
  z9 := Try.sizeOf9
  v9 := Try.zeroValue9
  t37 := Try.underlying37
  a37 := Try.isAgg37
  z37 := Try.sizeOf37
  v37 := Try.zeroValue37
  t70 := Try.underlying36
  a70 := Try.isAgg36
  z70 := Try.sizeOf36
  v70 := Try.zeroValue36
  t72 := Try.underlying39
  a72 := Try.isAgg39
  z72 := Try.sizeOf39
  v72 := Try.zeroValue39
  t127 := Try.underlying53
  a127 := Try.isAgg53
  z127 := Try.sizeOf53
  v127 := Try.zeroValue53 }
theorem extra169 : Builder.Extra Try.prog ren169 := {
  sizeBuilder := by kernel_rfl
  liesBuilder := by kernel_rfl
  t5 := Try.underlying5
  a5 := Try.isAgg5
  z5 := Try.sizeOf5
  v5 := Try.zeroValue5
  infoByte := by kernel_rfl
  cellsByte := by kernel_rfl
  sizeByte := by kernel_rfl
  neB5 := by decide }
theorem text_any (B b : Nat) (l : List UInt8) (w : World) (h : Lib.IsBuilder 39 5 B b (Lib.byteCells l) w) (hBw : B ≤ w.heap.size) :
    Calls Try.prog 17 #[.pointer (some ⟨b, 0, none⟩)] w fun e w' => e = .returned (.string ⟨l.toArray⟩) ∧ Below B w w' := Any.Builder_String_any lays169 extra169 B b l w h hBw

end Go.Proofs.Ytemfflhgbgdmjaa.Bd
