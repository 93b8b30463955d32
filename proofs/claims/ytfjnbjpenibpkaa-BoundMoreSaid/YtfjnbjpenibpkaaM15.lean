/- Each change leaves a document as it must be; what a kept one tells of its parts. No condition. -/
import Derived.Test.YtfjnbjpenibpkaaM14
set_option linter.unusedVariables false
set_option linter.unusedSimpArgs false
set_option linter.unusedVariables false
set_option linter.unusedSimpArgs false
namespace Go.Proofs.Ytfjnbjpenibpkaa.P5

theorem elem_upd {l : List Nd} {i : Int} {f : Nd → Nd} (h : ∀ x ∈ l, x.tag.toList = [] → x.kids = []) (ht : ∀ x, (f x).tag = x.tag) (hf : ∀ x ∈ l, x.id = i → x.tag.toList = [] → x.kids = [] → (f x).kids = []) :
    ∀ x ∈ upd l i f, x.tag.toList = [] → x.kids = [] := by
  intro x hx ht'
  obtain ⟨z, hz, rfl⟩ := mem_upd.1 hx
  by_cases e : z.id = i
  · rw [if_pos e] at ht' ⊢
    rw [ht] at ht'
    exact hf z hz e ht' (h z hz ht')
  · rw [if_neg e] at ht' ⊢
    exact h z hz ht'
theorem att_upd {l : List Nd} {i : Int} {f : Nd → Nd} (h : ∀ x ∈ l, x.attrs.length ≤ 8) (hf : ∀ x, x.attrs.length ≤ 8 → (f x).attrs.length ≤ 8) : ∀ x ∈ upd l i f, x.attrs.length ≤ 8 := by
  intro x hx
  obtain ⟨z, hz, rfl⟩ := mem_upd.1 hx
  split
  · exact hf z (h z hz)
  · exact h z hz
theorem key_upd {l : List Nd} {i : Int} {f : Nd → Nd} (h : ∀ x ∈ l, KeyT x) (ht : ∀ x, (f x).tag = x.tag) (hk : ∀ x, (f x).key = x.key) : ∀ x ∈ upd l i f, KeyT x := by
  intro x hx
  obtain ⟨z, hz, rfl⟩ := mem_upd.1 hx
  split
  · unfold KeyT
    rw [ht, hk]
    exact h z hz
  · exact h z hz
theorem mayt_upd {l : List Nd} {i : Int} {f : Nd → Nd} (h : ∀ x ∈ l, P3.mayA x.attrs = true) (hf : ∀ x, P3.mayA x.attrs = true → P3.mayA (f x).attrs = true) : ∀ x ∈ upd l i f, P3.mayA x.attrs = true := by
  intro x hx
  obtain ⟨z, hz, rfl⟩ := mem_upd.1 hx
  split
  · exact hf z (h z hz)
  · exact h z hz
theorem mayA_nil : P3.mayA [] = true := P3.mayA_iff.2 ⟨by simp, fun a h => absurd h (by simp), List.Pairwise.nil⟩
theorem rng_ids {l m : List Nd} {n : Int} (h : ∀ x ∈ l, 1 ≤ x.id ∧ x.id ≤ n) (e : idsOf m = idsOf l) : ∀ x ∈ m, 1 ≤ x.id ∧ x.id ≤ n := by
  intro x hx
  have : x.id ∈ idsOf m := List.mem_map.2 ⟨x, hx, rfl⟩
  rw [e] at this
  obtain ⟨z, hz, e2⟩ := List.mem_map.1 this
  rw [← e2]
  exact h z hz
theorem len_ids {l m : List Nd} (e : idsOf m = idsOf l) : m.length = l.length := by
  have := congrArg List.length e
  simpa [idsOf] using this
theorem has_of_ids {l m : List Nd} (e : idsOf m = idsOf l) (y : Int) : hasL m y = hasL l y := by
  rw [Bool.eq_iff_iff, has_ids, has_ids, e]

section
variable {d : D}
theorem WF.mem (h : WF d) {x : Nd} (hx : x ∈ d.l) : hasL d.l x.id = true := has_iff.2 ⟨x, hx, rfl⟩
theorem WF.len200 (h : WF d) : d.l.length ≤ 200 := Nat.le_trans h.len h.room
theorem WF.kids_len (h : WF d) {x : Nd} (hx : x ∈ d.l) : x.kids.length ≤ 200 := by
  have hk := kids_at (h.asc.find hx)
  have hn := h.tr.nod x.id
  rw [hk] at hn
  have := nodup_len x.kids (idsOf d.l) hn (fun c hc => has_ids.1 (h.tr.kid x.id c (by rw [hk]; exact hc)).2.1)
  have := h.len200
  simp only [idsOf, List.length_map] at *
  omega
theorem WF.kid_has (h : WF d) {x : Nd} (hx : x ∈ d.l) {c : Int} (hc : c ∈ x.kids) : hasL d.l c = true ∧ parOf d.l c = x.id :=
  (h.tr.kid x.id c (by rw [kids_at (h.asc.find hx)]; exact hc)).2
theorem WF.pos (h : WF d) {y : Int} (hy : hasL d.l y = true) : 1 ≤ y ∧ y ≤ d.n := by
  obtain ⟨x, hx, rfl⟩ := has_iff.1 hy
  exact h.rng x hx
theorem WF.no0 (h : WF d) : hasL d.l 0 = false := by
  rw [← Bool.not_eq_true]
  intro e
  have := (h.pos e).1
  omega
theorem WF.next (h : WF d) : hasL d.l (d.n + 1) = false := by
  rw [← Bool.not_eq_true]
  intro e
  have := (h.pos e).2
  omega

theorem wf_upd (h : WF d) (i : Int) (f : Nd → Nd) (h1 : ∀ x, (f x).id = x.id) (h2 : ∀ x, (f x).par = x.par) (h3 : ∀ x, (f x).kids = x.kids) (h4 : ∀ x, (f x).tag = x.tag) (h5 : ∀ x, x.attrs.length ≤ 8 → (f x).attrs.length ≤ 8) (h6 : ∀ x, (f x).key = x.key) (h7 : ∀ x, P3.mayA x.attrs = true → P3.mayA (f x).attrs = true) : WF { d with l := upd d.l i f } := by
  have e := upd_ids d.l i f h1
  have hp : parOf (upd d.l i f) = parOf d.l := by
    funext y
    rw [par_upd h1 (g := fun x => x.par) h2]
    unfold parOf
    cases find d.l y <;> simp
  have hk : kidsOf (upd d.l i f) = kidsOf d.l := by
    funext y
    rw [kids_upd h1 (g := fun x => x.kids) h3]
    unfold kidsOf
    cases find d.l y <;> simp
  have hh := has_of_ids e
  refine ⟨asc_of_ids h.asc e, rng_ids h.rng e, h.n0, by rw [len_ids e]; exact h.len, h.room, ?_, ?_, ?_, elem_upd h.elem h4 (fun x _ _ _ hx => (h3 x).trans hx), att_upd h.att h5, ?_, key_upd h.keyt h4 h6, mayt_upd h.mayt h7⟩
  · show hasL (upd d.l i f) 1 = true
    rw [hh]; exact h.root
  · show parOf (upd d.l i f) 1 = 0
    rw [hp]; exact h.root0
  · show Tr (fun y => hasL (upd d.l i f) y = true) (parOf (upd d.l i f)) (kidsOf (upd d.l i f))
    rw [has_fun _ _ hh, hp, hk]; exact h.tr
  · show d.foc = 0 ∨ hasL (upd d.l i f) d.foc = true
    rw [hh]; exact h.foc
theorem leave_elem {l : List Nd} (i : Int) (h : ∀ x ∈ l, x.tag.toList = [] → x.kids = []) : ∀ x ∈ leaveL l i, x.tag.toList = [] → x.kids = [] := by
  unfold leaveL
  split
  · exact h
  · exact elem_upd (elem_upd h (fun _ => rfl) (fun x _ _ _ hx => by show less i x.kids = []; rw [hx]; rfl)) (fun _ => rfl) (fun x _ _ _ hx => hx)
theorem leave_att {l : List Nd} (i : Int) (h : ∀ x ∈ l, x.attrs.length ≤ 8) : ∀ x ∈ leaveL l i, x.attrs.length ≤ 8 := by
  unfold leaveL
  split
  · exact h
  · exact att_upd (att_upd h (fun _ h => h)) (fun _ h => h)
theorem leave_key {l : List Nd} (i : Int) (h : ∀ x ∈ l, KeyT x) : ∀ x ∈ leaveL l i, KeyT x := by
  unfold leaveL
  split
  · exact h
  · exact key_upd (key_upd h (fun _ => rfl) (fun _ => rfl)) (fun _ => rfl) (fun _ => rfl)
theorem leave_mayt {l : List Nd} (i : Int) (h : ∀ x ∈ l, P3.mayA x.attrs = true) : ∀ x ∈ leaveL l i, P3.mayA x.attrs = true := by
  unfold leaveL
  split
  · exact h
  · exact mayt_upd (mayt_upd h (fun _ h => h)) (fun _ h => h)
theorem leave_tag {l : List Nd} {x : Nd} (i : Int) (hx : x ∈ leaveL l i) : ∃ z ∈ l, z.id = x.id ∧ z.tag = x.tag := by
  unfold leaveL at hx
  split at hx
  · exact ⟨x, hx, rfl, rfl⟩
  · obtain ⟨z, hz, rfl⟩ := mem_upd.1 hx
    obtain ⟨u, hu, rfl⟩ := mem_upd.1 hz
    refine ⟨u, hu, ?_, ?_⟩
    · split <;> split <;> rfl
    · split <;> split <;> rfl
theorem wf_put (h : WF d) {i p b : Int} (hk : PutOk d.l i p b) : WF { d with l := putL d.l i p b } := by
  have e : idsOf (putL d.l i p b) = idsOf d.l := put_ids
  have hh := has_of_ids e
  refine ⟨asc_of_ids h.asc e, rng_ids h.rng e, h.n0, by rw [len_ids e]; exact h.len, h.room, ?_, ?_, put_tr h.tr hk, ?_, ?_, ?_, ?_, ?_⟩
  · show hasL (putL d.l i p b) 1 = true
    rw [hh]; exact h.root
  · show parOf (putL d.l i p b) 1 = 0
    rw [put_par h.tr hk.hi, setF_ne _ _ (Ne.symm hk.h1), leave_par h.tr, setF_ne _ _ (Ne.symm hk.h1)]
    exact h.root0
  · show ∀ x ∈ putL d.l i p b, x.tag.toList = [] → x.kids = []
    unfold putL
    refine elem_upd (elem_upd (leave_elem i h.elem) (fun _ => rfl) (fun x hx hxp ht hx0 => ?_)) (fun _ => rfl) (fun x _ _ _ hx => hx)
    obtain ⟨z, hz, hzi, hzt⟩ := leave_tag i hx
    have hnk := hk.hk
    have hfz := h.asc.find hz
    rw [hzi, hxp] at hfz
    unfold noKids tagOf at hnk
    rw [hfz] at hnk
    simp only [hzt, ht] at hnk
    simp at hnk
  · show ∀ x ∈ putL d.l i p b, x.attrs.length ≤ 8
    unfold putL
    exact att_upd (att_upd (leave_att i h.att) (fun _ h => h)) (fun _ h => h)
  · show d.foc = 0 ∨ hasL (putL d.l i p b) d.foc = true
    rw [hh]; exact h.foc
  · show ∀ x ∈ putL d.l i p b, KeyT x
    unfold putL
    exact key_upd (key_upd (leave_key i h.keyt) (fun _ => rfl) (fun _ => rfl)) (fun _ => rfl) (fun _ => rfl)
  · show ∀ x ∈ putL d.l i p b, P3.mayA x.attrs = true
    unfold putL
    exact mayt_upd (mayt_upd (leave_mayt i h.mayt) (fun _ h => h)) (fun _ h => h)
theorem below_root (h : WF d) {i : Int} (hi : hasL d.l i = true) (h1 : i ≠ 1) : 1 ∉ below (leaveL d.l i) i := by
  intro hm
  have hl := leave_tr (i := i) h.tr
  have hb : Hb (kidsOf (leaveL d.l i)) ((leaveL d.l i).length + 1) i := by
    have := hl.hb_all (L := idsOf (leaveL d.l i)) (fun y hy => has_ids.1 hy) (y := i) (by rw [leave_has]; exact hi)
    simpa [idsOf] using this
  have := hl.sub_par _ _ _ hb hm (Ne.symm h1)
  rw [leave_par h.tr, setF_ne _ _ (Ne.symm h1), h.root0] at this
  have h0 := hl.sub_h _ _ _ (by rw [leave_has]; exact hi) this
  exact hl.z h0
theorem wf_gone (h : WF d) {i : Int} (hi : hasL d.l i = true) (h1 : i ≠ 1) : WF { d with l := goneL d.l i, foc := if d.foc ∈ below (leaveL d.l i) i then 0 else d.foc } := by
  have e : idsOf (leaveL d.l i) = idsOf d.l := leave_ids d.l i
  have hsub : (goneL d.l i).Sublist (leaveL d.l i) := List.filter_sublist
  have hr := below_root h hi h1
  refine ⟨(asc_of_ids h.asc e).sublist hsub, fun x hx => rng_ids h.rng e x (hsub.subset hx), h.n0, ?_, h.room, ?_, ?_, gone_tr h.tr hi, fun x hx => leave_elem i h.elem x (hsub.subset hx), fun x hx => leave_att i h.att x (hsub.subset hx), ?_, fun x hx => leave_key i h.keyt x (hsub.subset hx), fun x hx => leave_mayt i h.mayt x (hsub.subset hx)⟩
  · have := hsub.length_le
    rw [len_ids e] at this
    exact Nat.le_trans this h.len
  · show hasL (outA _ _) 1 = true
    rw [out_has, leave_has]
    exact ⟨h.root, hr⟩
  · show parOf (outA _ _) 1 = 0
    unfold parOf
    rw [out_find, if_neg hr]
    show parOf (leaveL d.l i) 1 = 0
    rw [leave_par h.tr, setF_ne _ _ (Ne.symm h1)]
    exact h.root0
  · by_cases hf : d.foc ∈ below (leaveL d.l i) i
    · exact .inl (if_pos hf)
    · rw [if_neg hf]
      rcases h.foc with h0 | h0
      · exact .inl h0
      · refine .inr ((out_has _ _ _).2 ⟨?_, hf⟩)
        rw [leave_has]; exact h0
theorem may_key {tag txt key : ByteArray} (h : mayMake tag txt key ≠ false) (i : Int) : KeyT (newN i tag txt key) := by
  have sz : ∀ b : ByteArray, b.data.toList.length = b.size := fun b => rfl
  have tx : ∀ {l : List UInt8}, P1.textB l = true → l.length ≤ 60 := fun {l} h => by
    unfold P1.textB at h
    rw [Bool.and_eq_true] at h
    simpa using h.1
  have nm : ∀ {l : List UInt8}, P1.nameB l = true → l.length ≤ 60 := fun {l} h => by
    cases l with
    | nil => simp
    | cons c r =>
      have := (P1.nameB_cons h).1
      simp only [List.length_cons]
      omega
  have nil0 : ∀ {b : ByteArray}, b.toList = [] → b.size = 0 := fun {b} e => by
    rw [ByteArray.toList_eq] at e
    rw [← sz, e]
    rfl
  unfold mayMake at h
  show (tag.toList = [] → key.toList = []) ∧ tag.size ≤ 60 ∧ key.size ≤ 60
  by_cases ht : tag.toList = []
  · rw [if_pos ht] at h
    have hk : key.toList = [] := by
      cases hh : decide (key.toList = []) with
      | false => rw [hh] at h; simp at h
      | true => simpa using hh
    exact ⟨fun _ => hk, by rw [nil0 ht]; omega, by rw [nil0 hk]; omega⟩
  · rw [if_neg ht] at h
    have h' : ((P1.nameB tag.data.toList && P1.textB key.data.toList) && decide (txt.toList = [])) = true := by
      cases hh : ((P1.nameB tag.data.toList && P1.textB key.data.toList) && decide (txt.toList = [])) with
      | false => exact absurd hh h
      | true => rfl
    rw [Bool.and_eq_true, Bool.and_eq_true] at h'
    have h1 := nm h'.1.1
    have h2 := tx h'.1.2
    rw [sz] at h1 h2
    exact ⟨fun e => absurd e ht, h1, h2⟩
theorem wf_new (h : WF d) (tag txt key : ByteArray) (hR : d.l.length < d.R) (hm : mayMake tag txt key ≠ false) : WF { d with l := d.l ++ [newN (d.n + 1) tag txt key], n := d.n + 1 } := by
  have hnx := h.next
  have hf : ∀ y, find (d.l ++ [newN (d.n + 1) tag txt key]) y = if y = d.n + 1 then some (newN (d.n + 1) tag txt key) else find d.l y := fun y => find_new (l := d.l) (x := newN (d.n + 1) tag txt key) hnx y
  have hid : (newN (d.n + 1) tag txt key).id = d.n + 1 := rfl
  have hh : ∀ y, hasL (d.l ++ [newN (d.n + 1) tag txt key]) y = true ↔ y = d.n + 1 ∨ hasL d.l y = true := by
    intro y
    unfold hasL
    rw [hf]
    by_cases e : y = d.n + 1
    · rw [if_pos e]; simp [e]
    · rw [if_neg e]; simp [e]
  have hp : parOf (d.l ++ [newN (d.n + 1) tag txt key]) = parOf d.l := by
    funext y
    unfold parOf
    rw [hf]
    by_cases e : y = d.n + 1
    · have e0 : find d.l y = none := by rw [e]; simpa [hasL] using hnx
      rw [if_pos e, e0]
      rfl
    · rw [if_neg e]
  have hk : kidsOf (d.l ++ [newN (d.n + 1) tag txt key]) = kidsOf d.l := by
    funext y
    unfold kidsOf
    rw [hf]
    by_cases e : y = d.n + 1
    · have e0 : find d.l y = none := by rw [e]; simpa [hasL] using hnx
      rw [if_pos e, e0]
      rfl
    · rw [if_neg e]
  have hn := h.n0
  refine ⟨?_, fun x hx => ?_, by show 1 ≤ d.n + 1; omega, ?_, h.room, (hh 1).2 (.inr h.root), ?_, ?_, fun x hx ht => ?_, fun x hx => ?_, ?_, fun x hx => ?_, fun x hx => ?_⟩
  · refine List.pairwise_append.2 ⟨h.asc, by simp, fun a ha b hb => ?_⟩
    simp only [List.mem_singleton] at hb
    subst hb
    have := h.rng a ha
    show a.id < d.n + 1
    omega
  · simp only [List.mem_append, List.mem_singleton] at hx
    rcases hx with hx | rfl
    · have := h.rng x hx
      show 1 ≤ x.id ∧ x.id ≤ d.n + 1
      omega
    · show 1 ≤ d.n + 1 ∧ d.n + 1 ≤ d.n + 1
      omega
  · show (d.l ++ [_]).length ≤ d.R
    simp; omega
  · show parOf (d.l ++ [_]) 1 = 0
    rw [hp]; exact h.root0
  · show Tr (fun y => hasL (d.l ++ [_]) y = true) (parOf (d.l ++ [_])) (kidsOf (d.l ++ [_]))
    rw [hp, hk]
    have t := h.tr
    refine ⟨fun h0 => ?_, fun y hy => t.p0 y (fun hh' => hy ((hh y).2 (.inr hh'))), fun x c hc => ?_, t.par, t.nod, t.acy⟩
    · rcases (hh 0).1 h0 with e | e
      · omega
      · exact t.z e
    · obtain ⟨a, b, e⟩ := t.kid x c hc
      exact ⟨(hh x).2 (.inr a), (hh c).2 (.inr b), e⟩
  · simp only [List.mem_append, List.mem_singleton] at hx
    rcases hx with hx | rfl
    · exact h.elem x hx ht
    · rfl
  · simp only [List.mem_append, List.mem_singleton] at hx
    rcases hx with hx | rfl
    · exact h.att x hx
    · exact Nat.zero_le _
  · rcases h.foc with e | e
    · exact .inl e
    · exact .inr ((hh _).2 (.inr e))
  · simp only [List.mem_append, List.mem_singleton] at hx
    rcases hx with hx | rfl
    · exact h.keyt x hx
    · exact may_key hm _
  · simp only [List.mem_append, List.mem_singleton] at hx
    rcases hx with hx | rfl
    · exact h.mayt x hx
    · exact mayA_nil
theorem mayA_len {l : List P3.At} (h : P3.mayA l ≠ false) : l.length ≤ 8 := by
  rcases Nat.lt_or_ge 8 l.length with hl | hl
  · exact absurd (P3.mayA_long hl) h
  · exact hl
theorem wf_apply (h : WF d) (r : Rc) : WF (applyD d r).2 := by
  unfold applyD
  split
  · unfold makeD
    split
    · exact h
    · split
      · exact h
      · rename_i c1 c2 c3
        simp only [ne_eq, not_or, Classical.not_not] at c2
        have := wf_new h r.tag r.txt r.key (by omega) c2.2
        rw [← c2.1] at this
        show WF { d with l := d.l ++ [newN r.id r.tag r.txt r.key], n := d.n + 1 }
        rw [← c2.1]
        exact this
  · split
    · unfold putD
      split
      · rename_i hp; exact wf_put h (putErr_ok hp)
      · exact h
    · split
      · unfold goneD
        split
        · exact h
        · split
          · exact h
          · rename_i c1 c2
            exact wf_gone h (by simpa using c1) c2
      · split
        · unfold attrsD
          split
          · exact h
          · split
            · exact h
            · split
              · exact h
              · rename_i c3
                exact wf_upd h _ _ (fun _ => rfl) (fun _ => rfl) (fun _ => rfl) (fun _ => rfl) (fun _ _ => mayA_len c3) (fun _ => rfl) (fun _ _ => by show P3.mayA r.attrs = true; simpa using c3)
        · split
          · unfold dataD
            split
            · exact h
            · split
              · exact h
              · split
                · exact h
                · exact wf_upd h _ _ (fun _ => rfl) (fun _ => rfl) (fun _ => rfl) (fun _ => rfl) (fun _ hx => hx) (fun _ => rfl) (fun _ hx => hx)
          · exact h
theorem wf_focus (h : WF d) (i : Int) : WF (focusD d i).2 := by
  unfold focusD
  split
  · exact h
  · rename_i c
    refine ⟨h.asc, h.rng, h.n0, h.len, h.room, h.root, h.root0, h.tr, h.elem, h.att, ?_, h.keyt, h.mayt⟩
    show i = 0 ∨ hasL d.l i = true
    by_cases e : i = 0
    · exact .inl e
    · exact .inr (by simpa [e] using c)
theorem wf_note (h : WF d) (i n : Int) : WF (noteD d i n).2 := by
  unfold noteD
  split
  · exact h
  · exact wf_upd h _ _ (fun _ => rfl) (fun _ => rfl) (fun _ => rfl) (fun _ => rfl) (fun _ hx => hx) (fun _ => rfl) (fun _ hx => hx)
def newD (R : Nat) : D := ⟨[newN 1 ⟨#[114, 111, 111, 116]⟩ ⟨#[]⟩ ⟨#[]⟩], 1, R, 0⟩
theorem wf_newD {R : Nat} (h1 : 1 ≤ R) (h2 : R ≤ 200) : WF (newD R) := by
  have hf : ∀ y, find (newD R).l y = if y = 1 then some (newN 1 ⟨#[114, 111, 111, 116]⟩ ⟨#[]⟩ ⟨#[]⟩) else none := by
    intro y
    show List.find? _ [_] = _
    rw [List.find?_cons]
    by_cases e : y = 1
    · subst e; rfl
    · rw [if_neg e]
      have : decide ((newN 1 ⟨#[114, 111, 111, 116]⟩ ⟨#[]⟩ ⟨#[]⟩).id = y) = false := by
        rw [decide_eq_false_iff_not]; exact fun e2 => e e2.symm
      rw [this]; rfl
  have hp : ∀ y, parOf (newD R).l y = 0 := by
    intro y; unfold parOf; rw [hf]; split <;> rename_i e
    · split at e
      · injection e with e; subst e; rfl
      · cases e
    · rfl
  have hk : ∀ y, kidsOf (newD R).l y = [] := by
    intro y; unfold kidsOf; rw [hf]; split <;> rename_i e
    · split at e
      · injection e with e; subst e; rfl
      · cases e
    · rfl
  refine ⟨List.pairwise_singleton _ _, fun x hx => ?_, by show (1 : Int) ≤ 1; omega, h1, h2, ?_, hp 1, ?_, fun x hx _ => ?_, fun x hx => ?_, .inl rfl, fun x hx => ?_, fun x hx => ?_⟩
  · simp only [newD, List.mem_singleton] at hx
    subst hx
    show (1 : Int) ≤ 1 ∧ (1 : Int) ≤ 1
    omega
  · unfold hasL; rw [hf]; rfl
  · refine ⟨fun h => ?_, fun y _ => hp y, fun x c hc => ?_, fun y hy => absurd (hp y) hy, fun x => ?_, fun y => ⟨1, hp y⟩⟩
    · unfold hasL at h; rw [hf] at h; simp at h
    · rw [hk] at hc; simp at hc
    · rw [hk]; exact List.nodup_nil
  · simp only [newD, List.mem_singleton] at hx
    subst hx; rfl
  · simp only [newD, List.mem_singleton] at hx
    subst hx; exact Nat.zero_le _
  · simp only [newD, List.mem_singleton] at hx
    subst hx
    exact ⟨fun _ => ByteArray.toList_eq _, by show (4 : Nat) ≤ 60; omega, by show (0 : Nat) ≤ 60; omega⟩
  · simp only [newD, List.mem_singleton] at hx
    subst hx
    exact mayA_nil
end
end Go.Proofs.Ytfjnbjpenibpkaa.P5
