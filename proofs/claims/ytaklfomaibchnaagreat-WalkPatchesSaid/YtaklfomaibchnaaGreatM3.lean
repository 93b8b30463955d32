/- A part of what the claimed theorem hangs on. No condition but those stated. -/
import Derived.Shelf.Spec.SlicesInsertGrow
import Derived.Deep.RegionHeld3
import Derived.Test.YtaklfomaibchnaaGreatM1
import Derived.Test.YtaklfomaibchnaaGreatM2
set_option linter.unusedVariables false
set_option linter.unusedSimpArgs false
set_option maxRecDepth 100000
set_option maxHeartbeats 40000000
namespace Go.Proofs.YtaklfomaibchnaaGreat
namespace P5
theorem elem_upd{l:List Nd}{i:Int}{f:Nd→Nd}(h:∀x∈l,x.tag.toList=[]→x.kids=[])(ht:∀x,(f x).tag=x.tag)(hf:∀x∈l,x.id=i→x.tag.toList=[]→x.kids=[]→(f x).kids=[]):
 ∀x∈upd l i f,x.tag.toList=[]→x.kids=[]:=by
 intro x hx ht';obtain⟨z,hz,rfl⟩:=mem_upd.1 hx;by_cases e:z.id=i
 ·rw[if_pos e] at ht'⊢;rw[ht] at ht';exact hf z hz e ht' (h z hz ht')
 ·rw[if_neg e] at ht'⊢;exact h z hz ht'
theorem att_upd{l:List Nd}{i:Int}{f:Nd→Nd}(h:∀x∈l,x.attrs.length≤8)(hf:∀x,x.attrs.length≤8→(f x).attrs.length≤8):∀x∈upd l i f,x.attrs.length≤8:=by
 intro x hx;obtain⟨z,hz,rfl⟩:=mem_upd.1 hx;split
 ·exact hf z (h z hz)
 ·exact h z hz
theorem key_upd{l:List Nd}{i:Int}{f:Nd→Nd}(h:∀x∈l,KeyT x)(ht:∀x,(f x).tag=x.tag)(hk:∀x,(f x).key=x.key):∀x∈upd l i f,KeyT x:=by
 intro x hx;obtain⟨z,hz,rfl⟩:=mem_upd.1 hx;split
 ·unfold KeyT;rw[ht,hk];exact h z hz
 ·exact h z hz
theorem mayt_upd{l:List Nd}{i:Int}{f:Nd→Nd}(h:∀x∈l,P3.mayA x.attrs=true)(hf:∀x,P3.mayA x.attrs=true→P3.mayA (f x).attrs=true):∀x∈upd l i f,P3.mayA x.attrs=true:=by
 intro x hx;obtain⟨z,hz,rfl⟩:=mem_upd.1 hx;split
 ·exact hf z (h z hz)
 ·exact h z hz
theorem mayA_nil:P3.mayA []=true:=P3.mayA_iff.2 ⟨by simp,fun a h=>absurd h (by simp),List.Pairwise.nil⟩
theorem rng_ids{l m:List Nd}{n:Int}(h:∀x∈l,1≤x.id∧x.id≤n)(e:idsOf m=idsOf l):∀x∈m,1≤x.id∧x.id≤n:=by
 intro x hx;have:x.id∈idsOf m:=List.mem_map.2 ⟨x,hx,rfl⟩;rw[e] at this;obtain⟨z,hz,e2⟩:=List.mem_map.1 this;rw[←e2];exact h z hz
theorem len_ids{l m:List Nd}(e:idsOf m=idsOf l):m.length=l.length:=by
 have:=congrArg List.length e;simpa[idsOf] using this
theorem has_of_ids{l m:List Nd}(e:idsOf m=idsOf l)(y:Int):hasL m y=hasL l y:=by
 rw[Bool.eq_iff_iff,has_ids,has_ids,e]
section
variable{d:D}
theorem WF.len200(h:WF d):d.l.length≤200:=Nat.le_trans h.len h.room
theorem WF.kids_len(h:WF d){x:Nd}(hx:x∈d.l):x.kids.length≤200:=by
 have hk:=kids_at (h.asc.find hx);have hn:=h.tr.nod x.id;rw[hk] at hn;have:=nodup_len x.kids (idsOf d.l) hn (fun c hc=>has_ids.1 (h.tr.kid x.id c (by rw[hk];exact hc)).2.1);have:=h.len200;simp only[idsOf,List.length_map] at *;omega
theorem WF.kid_has(h:WF d){x:Nd}(hx:x∈d.l){c:Int}(hc:c∈x.kids):hasL d.l c=true∧parOf d.l c=x.id:=
 (h.tr.kid x.id c (by rw[kids_at (h.asc.find hx)];exact hc)).2
theorem WF.pos(h:WF d){y:Int}(hy:hasL d.l y=true):1≤y∧y≤d.n:=by
 obtain⟨x,hx,rfl⟩:=has_iff.1 hy;exact h.rng x hx
theorem WF.no0(h:WF d):hasL d.l 0=false:=by
 rw[←Bool.not_eq_true];intro e;have:=(h.pos e).1;omega
theorem WF.next(h:WF d):hasL d.l (d.n+1)=false:=by
 rw[←Bool.not_eq_true];intro e;have:=(h.pos e).2;omega
theorem wf_upd(h:WF d)(i:Int)(f:Nd→Nd)(h1:∀x,(f x).id=x.id)(h2:∀x,(f x).par=x.par)(h3:∀x,(f x).kids=x.kids)(h4:∀x,(f x).tag=x.tag)(h5:∀x,x.attrs.length≤8→(f x).attrs.length≤8)(h6:∀x,(f x).key=x.key)(h7:∀x,P3.mayA x.attrs=true→P3.mayA (f x).attrs=true):WF {d with l:=upd d.l i f}:=by
 have e:=upd_ids d.l i f h1;have hp:parOf (upd d.l i f)=parOf d.l:=by
  funext y;rw[par_upd h1 (g:=fun x=>x.par) h2];unfold parOf;cases find d.l y<;>simp
 have hk:kidsOf (upd d.l i f)=kidsOf d.l:=by
  funext y;rw[kids_upd h1 (g:=fun x=>x.kids) h3];unfold kidsOf;cases find d.l y<;>simp
 have hh:=has_of_ids e;refine⟨asc_of_ids h.asc e,rng_ids h.rng e,h.n0,by rw[len_ids e];exact h.len,h.room,?_,?_,?_,elem_upd h.elem h4 (fun x _ _ _ hx=>(h3 x).trans hx),att_upd h.att h5,?_,key_upd h.keyt h4 h6,mayt_upd h.mayt h7⟩
 ·show hasL (upd d.l i f) 1=true;rw[hh];exact h.root
 ·show parOf (upd d.l i f) 1=0;rw[hp];exact h.root0
 ·show Tr (fun y=>hasL (upd d.l i f) y=true) (parOf (upd d.l i f)) (kidsOf (upd d.l i f));rw[has_fun _ _ hh,hp,hk];exact h.tr
 ·show d.foc=0∨hasL (upd d.l i f) d.foc=true;rw[hh];exact h.foc
theorem leave_elem{l:List Nd}(i:Int)(h:∀x∈l,x.tag.toList=[]→x.kids=[]):∀x∈leaveL l i,x.tag.toList=[]→x.kids=[]:=by
 unfold leaveL;split
 ·exact h
 ·exact elem_upd (elem_upd h (fun _=>rfl) (fun x _ _ _ hx=>by show less i x.kids=[];rw[hx];rfl)) (fun _=>rfl) (fun x _ _ _ hx=>hx)
theorem leave_att{l:List Nd}(i:Int)(h:∀x∈l,x.attrs.length≤8):∀x∈leaveL l i,x.attrs.length≤8:=by
 unfold leaveL;split
 ·exact h
 ·exact att_upd (att_upd h (fun _ h=>h)) (fun _ h=>h)
theorem leave_key{l:List Nd}(i:Int)(h:∀x∈l,KeyT x):∀x∈leaveL l i,KeyT x:=by
 unfold leaveL;split
 ·exact h
 ·exact key_upd (key_upd h (fun _=>rfl) (fun _=>rfl)) (fun _=>rfl) (fun _=>rfl)
theorem leave_mayt{l:List Nd}(i:Int)(h:∀x∈l,P3.mayA x.attrs=true):∀x∈leaveL l i,P3.mayA x.attrs=true:=by
 unfold leaveL;split
 ·exact h
 ·exact mayt_upd (mayt_upd h (fun _ h=>h)) (fun _ h=>h)
theorem leave_tag{l:List Nd}{x:Nd}(i:Int)(hx:x∈leaveL l i):∃z∈l,z.id=x.id∧z.tag=x.tag:=by
 unfold leaveL at hx;split at hx
 ·exact⟨x,hx,rfl,rfl⟩
 ·obtain⟨z,hz,rfl⟩:=mem_upd.1 hx;obtain⟨u,hu,rfl⟩:=mem_upd.1 hz;refine⟨u,hu,?_,?_⟩
  ·split<;>split<;>rfl
  ·split<;>split<;>rfl
theorem wf_put(h:WF d){i p b:Int}(hk:PutOk d.l i p b):WF {d with l:=putL d.l i p b}:=by
 have e:idsOf (putL d.l i p b)=idsOf d.l:=put_ids;have hh:=has_of_ids e;refine⟨asc_of_ids h.asc e,rng_ids h.rng e,h.n0,by rw[len_ids e];exact h.len,h.room,?_,?_,put_tr h.tr hk,?_,?_,?_,?_,?_⟩
 ·show hasL (putL d.l i p b) 1=true;rw[hh];exact h.root
 ·show parOf (putL d.l i p b) 1=0;rw[put_par h.tr hk.hi,setF_ne _ _ (Ne.symm hk.h1),leave_par h.tr,setF_ne _ _ (Ne.symm hk.h1)];exact h.root0
 ·show∀x∈putL d.l i p b,x.tag.toList=[]→x.kids=[];unfold putL;refine elem_upd (elem_upd (leave_elem i h.elem) (fun _=>rfl) (fun x hx hxp ht hx0=>?_)) (fun _=>rfl) (fun x _ _ _ hx=>hx);obtain⟨z,hz,hzi,hzt⟩:=leave_tag i hx;have hnk:=hk.hk;have hfz:=h.asc.find hz;rw[hzi,hxp] at hfz;unfold noKids tagOf at hnk;rw[hfz] at hnk;simp only[hzt,ht] at hnk;simp at hnk
 ·show∀x∈putL d.l i p b,x.attrs.length≤8;unfold putL;exact att_upd (att_upd (leave_att i h.att) (fun _ h=>h)) (fun _ h=>h)
 ·show d.foc=0∨hasL (putL d.l i p b) d.foc=true;rw[hh];exact h.foc
 ·show∀x∈putL d.l i p b,KeyT x;unfold putL;exact key_upd (key_upd (leave_key i h.keyt) (fun _=>rfl) (fun _=>rfl)) (fun _=>rfl) (fun _=>rfl)
 ·show∀x∈putL d.l i p b,P3.mayA x.attrs=true;unfold putL;exact mayt_upd (mayt_upd (leave_mayt i h.mayt) (fun _ h=>h)) (fun _ h=>h)
theorem below_root(h:WF d){i:Int}(hi:hasL d.l i=true)(h1:i≠1):1∉below (leaveL d.l i) i:=by
 intro hm;have hl:=leave_tr (i:=i) h.tr;have hb:Hb (kidsOf (leaveL d.l i)) ((leaveL d.l i).length+1) i:=by
  have:=hl.hb_all (L:=idsOf (leaveL d.l i)) (fun y hy=>has_ids.1 hy) (y:=i) (by rw[leave_has];exact hi);simpa[idsOf] using this
 have:=hl.sub_par _ _ _ hb hm (Ne.symm h1);rw[leave_par h.tr,setF_ne _ _ (Ne.symm h1),h.root0] at this;have h0:=hl.sub_h _ _ _ (by rw[leave_has];exact hi) this;exact hl.z h0
theorem wf_gone(h:WF d){i:Int}(hi:hasL d.l i=true)(h1:i≠1):WF {d with l:=goneL d.l i,foc:=if d.foc∈below (leaveL d.l i) i then 0 else d.foc}:=by
 have e:idsOf (leaveL d.l i)=idsOf d.l:=leave_ids d.l i;have hsub:(goneL d.l i).Sublist (leaveL d.l i):=List.filter_sublist;have hr:=below_root h hi h1;refine⟨(asc_of_ids h.asc e).sublist hsub,fun x hx=>rng_ids h.rng e x (hsub.subset hx),h.n0,?_,h.room,?_,?_,gone_tr h.tr hi,fun x hx=>leave_elem i h.elem x (hsub.subset hx),fun x hx=>leave_att i h.att x (hsub.subset hx),?_,fun x hx=>leave_key i h.keyt x (hsub.subset hx),fun x hx=>leave_mayt i h.mayt x (hsub.subset hx)⟩
 ·have:=hsub.length_le;rw[len_ids e] at this;exact Nat.le_trans this h.len
 ·show hasL (outA _ _) 1=true;rw[out_has,leave_has];exact⟨h.root,hr⟩
 ·show parOf (outA _ _) 1=0;unfold parOf;rw[out_find,if_neg hr];show parOf (leaveL d.l i) 1=0;rw[leave_par h.tr,setF_ne _ _ (Ne.symm h1)];exact h.root0
 ·by_cases hf:d.foc∈below (leaveL d.l i) i
  ·exact .inl (if_pos hf)
  ·rw[if_neg hf];rcases h.foc with h0|h0
   ·exact .inl h0
   ·refine .inr ((out_has _ _ _).2 ⟨?_,hf⟩);rw[leave_has];exact h0
theorem may_key{tag txt key:ByteArray}(h:mayMake tag txt key≠false)(i:Int):KeyT (newN i tag txt key):=by
 have sz:∀b:ByteArray,b.data.toList.length=b.size:=fun b=>rfl
 have tx:∀{l:List UInt8},P1.textB l=true→l.length≤60:=fun {l} h=>by
  unfold P1.textB at h;rw[Bool.and_eq_true] at h;simpa using h.1
 have nm:∀{l:List UInt8},P1.nameB l=true→l.length≤60:=fun {l} h=>by
  cases l with
  |nil=>simp
  |cons c r=>
   have:=(P1.nameB_cons h).1;simp only[List.length_cons];omega
 have nil0:∀{b:ByteArray},b.toList=[]→b.size=0:=fun {b} e=>by
  rw[ByteArray.toList_eq] at e;rw[←sz,e];rfl
 unfold mayMake at h;show(tag.toList=[]→key.toList=[])∧tag.size≤60∧key.size≤60;by_cases ht:tag.toList=[]
 ·rw[if_pos ht] at h;have hk:key.toList=[]:=by
   cases hh:decide (key.toList=[]) with
   |false=>rw[hh] at h;simp at h
   |true=>simpa using hh
  exact⟨fun _=>hk,by rw[nil0 ht];omega,by rw[nil0 hk];omega⟩
 ·rw[if_neg ht] at h;have h':((P1.nameB tag.data.toList&&P1.textB key.data.toList)&&decide (txt.toList=[]))=true:=by
   cases hh:((P1.nameB tag.data.toList&&P1.textB key.data.toList)&&decide (txt.toList=[])) with
   |false=>exact absurd hh h
   |true=>rfl
  rw[Bool.and_eq_true,Bool.and_eq_true] at h';have h1:=nm h'.1.1;have h2:=tx h'.1.2;rw[sz] at h1 h2;exact⟨fun e=>absurd e ht,h1,h2⟩
theorem wf_new(h:WF d)(tag txt key:ByteArray)(hR:d.l.length<d.R)(hm:mayMake tag txt key≠false):WF {d with l:=d.l++[newN (d.n+1) tag txt key],n:=d.n+1}:=by
 have hnx:=h.next;have hf:∀y,find (d.l++[newN (d.n+1) tag txt key]) y=if y=d.n+1 then some (newN (d.n+1) tag txt key) else find d.l y:=fun y=>find_new (l:=d.l) (x:=newN (d.n+1) tag txt key) hnx y
 have hid:(newN (d.n+1) tag txt key).id=d.n+1:=rfl;have hh:∀y,hasL (d.l++[newN (d.n+1) tag txt key]) y=true↔y=d.n+1∨hasL d.l y=true:=by
  intro y;unfold hasL;rw[hf];by_cases e:y=d.n+1
  ·rw[if_pos e];simp[e]
  ·rw[if_neg e];simp[e]
 have hp:parOf (d.l++[newN (d.n+1) tag txt key])=parOf d.l:=by
  funext y;unfold parOf;rw[hf];by_cases e:y=d.n+1
  ·have e0:find d.l y=none:=(by rw[e];simpa[hasL] using hnx);rw[if_pos e,e0];rfl
  ·rw[if_neg e]
 have hk:kidsOf (d.l++[newN (d.n+1) tag txt key])=kidsOf d.l:=by
  funext y;unfold kidsOf;rw[hf];by_cases e:y=d.n+1
  ·have e0:find d.l y=none:=(by rw[e];simpa[hasL] using hnx);rw[if_pos e,e0];rfl
  ·rw[if_neg e]
 have hn:=h.n0;refine⟨?_,fun x hx=>?_,by show 1≤d.n+1;omega,?_,h.room,(hh 1).2 (.inr h.root),?_,?_,fun x hx ht=>?_,fun x hx=>?_,?_,fun x hx=>?_,fun x hx=>?_⟩
 ·refine List.pairwise_append.2 ⟨h.asc,by simp,fun a ha b hb=>?_⟩;simp only[List.mem_singleton] at hb;subst hb;have:=h.rng a ha;show a.id<d.n+1;omega
 ·simp only[List.mem_append,List.mem_singleton] at hx;rcases hx with hx|rfl
  ·have:=h.rng x hx;show 1≤x.id∧x.id≤d.n+1;omega
  ·show 1≤d.n+1∧d.n+1≤d.n+1;omega
 ·show(d.l++[_]).length≤d.R;simp;omega
 ·show parOf (d.l++[_]) 1=0;rw[hp];exact h.root0
 ·show Tr (fun y=>hasL (d.l++[_]) y=true) (parOf (d.l++[_])) (kidsOf (d.l++[_]));rw[hp,hk];have t:=h.tr;refine⟨fun h0=>?_,fun y hy=>t.p0 y (fun hh'=>hy ((hh y).2 (.inr hh'))),fun x c hc=>?_,t.par,t.nod,t.acy⟩
  ·rcases(hh 0).1 h0 with e|e
   ·omega
   ·exact t.z e
  ·obtain⟨a,b,e⟩:=t.kid x c hc;exact⟨(hh x).2 (.inr a),(hh c).2 (.inr b),e⟩
 ·simp only[List.mem_append,List.mem_singleton] at hx;rcases hx with hx|rfl
  ·exact h.elem x hx ht
  ·rfl
 ·simp only[List.mem_append,List.mem_singleton] at hx;rcases hx with hx|rfl
  ·exact h.att x hx
  ·exact Nat.zero_le _
 ·rcases h.foc with e|e
  ·exact .inl e
  ·exact .inr ((hh _).2 (.inr e))
 ·simp only[List.mem_append,List.mem_singleton] at hx;rcases hx with hx|rfl
  ·exact h.keyt x hx
  ·exact may_key hm _
 ·simp only[List.mem_append,List.mem_singleton] at hx;rcases hx with hx|rfl
  ·exact h.mayt x hx
  ·exact mayA_nil
theorem mayA_len{l:List P3.At}(h:P3.mayA l≠false):l.length≤8:=by
 rcases Nat.lt_or_ge 8 l.length with hl|hl
 ·exact absurd (P3.mayA_long hl) h
 ·exact hl
theorem wf_apply(h:WF d)(r:Rc):WF (applyD d r).2:=by
 unfold applyD;split
 ·unfold makeD;split
  ·exact h
  ·split
   ·exact h
   ·rename_i c1 c2 c3;simp only[ne_eq,not_or,Classical.not_not] at c2;have:=wf_new h r.tag r.txt r.key (by omega) c2.2;rw[←c2.1] at this;show WF {d with l:=d.l++[newN r.id r.tag r.txt r.key],n:=d.n+1};rw[←c2.1];exact this
 ·split
  ·unfold putD;split
   ·rename_i hp;exact wf_put h (putErr_ok hp)
   ·exact h
  ·split
   ·unfold goneD;split
    ·exact h
    ·split
     ·exact h
     ·rename_i c1 c2;exact wf_gone h (by simpa using c1) c2
   ·split
    ·unfold attrsD;split
     ·exact h
     ·split
      ·exact h
      ·split
       ·exact h
       ·rename_i c3;exact wf_upd h _ _ (fun _=>rfl) (fun _=>rfl) (fun _=>rfl) (fun _=>rfl) (fun _ _=>mayA_len c3) (fun _=>rfl) (fun _ _=>by show P3.mayA r.attrs=true;simpa using c3)
    ·split
     ·unfold dataD;split
      ·exact h
      ·split
       ·exact h
       ·split
        ·exact h
        ·exact wf_upd h _ _ (fun _=>rfl) (fun _=>rfl) (fun _=>rfl) (fun _=>rfl) (fun _ hx=>hx) (fun _=>rfl) (fun _ hx=>hx)
     ·exact h
theorem wf_focus(h:WF d)(i:Int):WF (focusD d i).2:=by
 unfold focusD;split
 ·exact h
 ·rename_i c;refine⟨h.asc,h.rng,h.n0,h.len,h.room,h.root,h.root0,h.tr,h.elem,h.att,?_,h.keyt,h.mayt⟩;show i=0∨hasL d.l i=true;by_cases e:i=0
  ·exact .inl e
  ·exact .inr (by simpa[e] using c)
def newD(R:Nat):D:=⟨[newN 1 ⟨#[114,111,111,116]⟩ ⟨#[]⟩ ⟨#[]⟩],1,R,0⟩
theorem wf_newD{R:Nat}(h1:1≤R)(h2:R≤200):WF (newD R):=by
 have hf:∀y,find (newD R).l y=if y=1 then some (newN 1 ⟨#[114,111,111,116]⟩ ⟨#[]⟩ ⟨#[]⟩) else none:=by
  intro y;show List.find? _ [_]=_;rw[List.find?_cons];by_cases e:y=1
  ·subst e;rfl
  ·rw[if_neg e];have:decide ((newN 1 ⟨#[114,111,111,116]⟩ ⟨#[]⟩ ⟨#[]⟩).id=y)=false:=by
    rw[decide_eq_false_iff_not];exact fun e2=>e e2.symm
   rw[this];rfl
 have hp:∀y,parOf (newD R).l y=0:=by
  intro y;unfold parOf;rw[hf];split<;>rename_i e
  ·split at e
   ·injection e with e;subst e;rfl
   ·cases e
  ·rfl
 have hk:∀y,kidsOf (newD R).l y=[]:=by
  intro y;unfold kidsOf;rw[hf];split<;>rename_i e
  ·split at e
   ·injection e with e;subst e;rfl
   ·cases e
  ·rfl
 refine⟨List.pairwise_singleton _ _,fun x hx=>?_,by show(1:Int)≤1;omega,h1,h2,?_,hp 1,?_,fun x hx _=>?_,fun x hx=>?_,.inl rfl,fun x hx=>?_,fun x hx=>?_⟩
 ·simp only[newD,List.mem_singleton] at hx;subst hx;show(1:Int)≤1∧(1:Int)≤1;omega
 ·unfold hasL;rw[hf];rfl
 ·refine⟨fun h=>?_,fun y _=>hp y,fun x c hc=>?_,fun y hy=>absurd (hp y) hy,fun x=>?_,fun y=>⟨1,hp y⟩⟩
  ·unfold hasL at h;rw[hf] at h;simp at h
  ·rw[hk] at hc;simp at hc
  ·rw[hk];exact List.nodup_nil
 ·simp only[newD,List.mem_singleton] at hx;subst hx;rfl
 ·simp only[newD,List.mem_singleton] at hx;subst hx;exact Nat.zero_le _
 ·simp only[newD,List.mem_singleton] at hx;subst hx;exact⟨fun _=>ByteArray.toList_eq _,by show(4:Nat)≤60;omega,by show(0:Nat)≤60;omega⟩
 ·simp only[newD,List.mem_singleton] at hx;subst hx;exact mayA_nil
end
end P5
namespace P5
open Go.RowKit Kd P4
structure AOk(w:World)(s:Sv)(l:List P3.At):Prop where
 len:l.length=s.n
 cap:s.n≤s.c
 cm:s.c≤maxLen
 nil:s.A=none→s.c=0
 holds:kA.Holds w w.heap.size s.A l
 ty:∀b o,s.A=some ⟨b,o,none⟩→l≠[]→∃cur fr,w.heap[b]? = some (.cells cur 121 fr)
def NoA(w:World)(S:Nat→Prop):Prop:=∀k cur fr,S k→w.heap[k]?≠some (.cells cur 121 fr)
theorem NoA.none(w:World):NoA w (fun _=>False):=fun _ _ _ h=>h.elim
section
variable{w w':World}{s:Sv}{l:List P3.At}
theorem AOk.but{S:Nat→Prop}(h:AOk w s l)(hb:But S w w')(hS:NoA w S):AOk w' s l:=by
 have key:∀b o,s.A=some ⟨b,o,Option.none⟩→l≠[]→w'.heap[b]? = w.heap[b]?:=by
  intro b o hA hl;obtain⟨cur,fr,hc⟩:=h.ty b o hA hl;exact hb.block b (heap_lt hc) (fun hs=>hS b cur fr hs hc)
 refine⟨h.len,h.cap,h.cm,h.nil,?_,fun b o hA hl=>?_⟩
 ·cases l with
  |nil=>exact Kind.Holds.nil _ _ _
  |cons a r=>exact(h.holds.keep fun b ⟨o,hA⟩ _=>key b o hA (by simp)).more hb.size
 ·obtain⟨cur,fr,hc⟩:=h.ty b o hA hl;exact⟨cur,fr,(key b o hA hl).trans hc⟩
theorem AOk.below(h:AOk w s l)(hb:Below w.heap.size w w'):AOk w' s l:=h.but (But.of_below hb (fun _=>False)) (NoA.none w)
theorem AOk.nil_(w:World):AOk w ⟨Option.none,0,0⟩ []:=⟨rfl,Zl,by simp[maxLen],fun _=>rfl,Kind.Holds.nil _ _ _,fun _ _ h=>by cases h⟩
theorem AOk.own{B:Nat}{v:Value}(h:kA.Own w B v l):∃s:Sv,v=s.val∧AOk w s l:=by
 obtain⟨A,n,c,rfl,h1,h2,h3,h4,h5⟩:=h.slice;refine⟨⟨A,n,c⟩,rfl,h1,h2,h3,h4,h5,fun b o hA hl=>?_⟩;simp only at hA;subst hA;rcases h.form with⟨hv,rfl⟩|⟨g,c',cur,hv,_,_,_,hh,_⟩
 ·exact absurd rfl hl
 ·injection hv with e1;injection e1 with e1;injection e1 with e1;subst e1;exact⟨cur,_,hh⟩
theorem AOk.drewN(h:AOk w s l)(n:Nat):AOk (w.drewN n) s l:=⟨h.len,h.cap,h.cm,h.nil,h.holds,h.ty⟩
theorem p3holds{B:Nat}{A:Option Addr}(h:kA.Holds w B A l):P3.Holds w B A l:=by
 intro k hk;obtain⟨b,o,hA,hb,hc⟩:=h.at hk;exact⟨b,o,hA,hb,hc 0 _ rfl,hc 1 _ rfl,hc 2 _ rfl⟩
end
structure Rw where
 b:Nat
 va:Sv
 vk:Sv
 nd:Nd
def Nd.cells(nd:Nd)(va vk:Sv):Array Value:=#[.int .i64 nd.id,.int .i64 nd.par,.string nd.tag,.string nd.txt,.string nd.key,va.val,vk.val,.int .i64 nd.note]
def slotOf(r:Rw):Sl Nat:=⟨r.nd.id,r.b⟩
structure Dx where
 a:Nat
 v:Value
 vi:Value
 R:Nat
 n:Int
 foc:Int
 rs:List Rw
def Dx.l(x:Dx):List Nd:=x.rs.map (·.nd)
def Dx.d(x:Dx):D:=⟨x.l,x.n,x.R,x.foc⟩
def foot(p:Nat)(x:Dx)(k:Nat):Prop:=k=p∨k=x.a∨x.v.ownBlock=some k∨x.vi.ownBlock=some k∨∃r∈x.rs,k=r.b∨r.vk.val.ownBlock=some k
structure NdAt(w:World)(B:Nat)(r:Rw):Prop where
 blk:w.heap[r.b]? = some (.cells (r.nd.cells r.va r.vk) 48 (0,0))
 base:B≤r.b
 att:AOk w r.va r.nd.attrs
 kids:kI.Own w B r.vk.val r.nd.kids
structure Dc(w:World)(B p:Nat)(x:Dx):Prop where
 blk:w.heap[p]? = some (.cells #[.pointer (some ⟨x.a,0,none⟩),x.vi,.int .i64 x.foc] 87 (0,0))
 base:B≤p
 ar:ArP w B x.a x.R x.n x.v (x.rs.map slotOf)
 ids:kI.Own w B x.vi (idsOf x.l)
 nodes:∀r∈x.rs,NdAt w B r
 apV:∀r∈x.rs,Apart x.vi r.vk.val
 pw:x.rs.Pairwise fun r s=>r.b≠s.b∧Apart r.vk.val s.vk.val
theorem NdAt.lt{w:World}{B:Nat}{r:Rw}(h:NdAt w B r):r.b<w.heap.size:=heap_lt h.blk
theorem NdAt.cell{w:World}{B:Nat}{r:Rw}(h:NdAt w B r)(i:Nat):w.cell? ⟨r.b,i,none⟩=(r.nd.cells r.va r.vk)[i]?:=cell_of_row w r.b i _ _ (0,0) h.blk
theorem NdAt.frozen{w:World}{B:Nat}{r:Rw}(h:NdAt w B r)(i:Nat):w.frozen? ⟨r.b,i,none⟩=false:=by
 have:=h.blk;simp[World.frozen?,this]
theorem NdAt.keep{w w':World}{B:Nat}{r:Rw}(h:NdAt w B r)(hb:w'.heap[r.b]? = w.heap[r.b]?)(hk:∀g,r.vk.val.ownBlock=some g→w'.heap[g]? = w.heap[g]?)(ha:AOk w' r.va r.nd.attrs):NdAt w' B r:=
 ⟨hb.trans h.blk,h.base,ha,h.kids.keep hk⟩
section
variable{w w':World}{B p:Nat}{x:Dx}
theorem Dc.lt(h:Dc w B p x){k:Nat}(hk:foot p x k):k<w.heap.size:=by
 rcases hk with rfl|rfl|hk|hk|⟨r,hr,rfl|hk⟩
 ·exact heap_lt h.blk
 ·exact h.ar.lt
 ·exact(h.ar.own.lt hk).2
 ·exact(h.ids.lt hk).2
 ·exact(h.nodes r hr).lt
 ·exact((h.nodes r hr).kids.lt hk).2
theorem Dc.ge(h:Dc w B p x){k:Nat}(hk:foot p x k):B≤k:=by
 rcases hk with rfl|rfl|hk|hk|⟨r,hr,rfl|hk⟩
 ·exact h.base
 ·exact h.ar.base
 ·exact(h.ar.own.lt hk).1
 ·exact(h.ids.lt hk).1
 ·exact(h.nodes r hr).base
 ·exact((h.nodes r hr).kids.lt hk).1
theorem Dc.ty(h:Dc w B p x){k:Nat}(hk:foot p x k):∃cur t,w.heap[k]? = some (.cells cur t (0,0))∧(t=87∨t=165∨t=179∨t=3∨t=48):=by
 rcases hk with rfl|rfl|hk|hk|⟨r,hr,rfl|hk⟩
 ·exact⟨_,_,h.blk,.inl rfl⟩
 ·exact⟨_,_,h.ar.blk,.inr (.inl rfl)⟩
 ·obtain⟨c,hc⟩:=h.ar.own.ty hk;exact⟨_,_,hc,.inr (.inr (.inl rfl))⟩
 ·obtain⟨c,hc⟩:=h.ids.ty hk;exact⟨_,_,hc,.inr (.inr (.inr (.inl rfl)))⟩
 ·exact⟨_,_,(h.nodes r hr).blk,.inr (.inr (.inr (.inr rfl)))⟩
 ·obtain⟨c,hc⟩:=(h.nodes r hr).kids.ty hk;exact⟨_,_,hc,.inr (.inr (.inr (.inl rfl)))⟩
theorem Dc.other(h:Dc w B p x){k:Nat}{cur:Array Value}{t:TypeId}{fr:Nat×Nat}(hk:w.heap[k]? = some (.cells cur t fr))(h1:t≠87)(h2:t≠165)(h3:t≠179)(h4:t≠3)(h5:t≠48):¬foot p x k:=by
 intro hf;obtain⟨c,t',hc,ht⟩:=h.ty hf;rw[hk] at hc;injection hc with hc;injection hc with _ e;subst e;rcases ht with e|e|e|e|e<;>contradiction
theorem Dc.noA(h:Dc w B p x):NoA w (foot p x):=fun k cur fr hk hc=>h.other hc (by decide) (by decide) (by decide) (by decide) (by decide) hk
theorem Dc.but{S:Nat→Prop}(h:Dc w B p x)(hb:But S w w')(hS:∀k,foot p x k→¬S k)(hA:NoA w S):Dc w' B p x:=by
 have kb:∀k,foot p x k→w'.heap[k]? = w.heap[k]?:=fun k hk=>hb.block k (h.lt hk) (hS k hk)
 refine⟨(kb p (.inl rfl)).trans h.blk,h.base,h.ar.keep (kb _ (.inr (.inl rfl))) (fun g hg=>kb g (.inr (.inr (.inl hg)))),h.ids.keep (fun g hg=>kb g (.inr (.inr (.inr (.inl hg))))),fun r hr=>?_,h.apV,h.pw⟩;exact(h.nodes r hr).keep (kb _ (.inr (.inr (.inr (.inr ⟨r,hr,.inl rfl⟩))))) (fun g hg=>kb g (.inr (.inr (.inr (.inr ⟨r,hr,.inr hg⟩))))) ((h.nodes r hr).att.but hb hA)
theorem Dc.below(h:Dc w B p x)(hb:Below w.heap.size w w'):Dc w' B p x:=h.but (But.of_below hb (fun _=>False)) (fun _ _ h=>h) (NoA.none w)
theorem Dc.drewN(h:Dc w B p x)(n:Nat):Dc (w.drewN n) B p x:=
 ⟨h.blk,h.base,h.ar.drewN n,h.ids,fun r hr=>⟨(h.nodes r hr).blk,(h.nodes r hr).base,(h.nodes r hr).att.drewN n,(h.nodes r hr).kids⟩,h.apV,h.pw⟩
theorem Dc.alloc(h:Dc w B p x)(o:Obj):Dc (w.alloc o) B p x:=h.below (Ze.alloc (Zl) o)
theorem Dc.frozen(h:Dc w B p x)(i:Nat):w.frozen? ⟨p,i,none⟩=false:=by
 have:=h.blk;simp[World.frozen?,this]
theorem Dc.c0(h:Dc w B p x):w.cell? ⟨p,0,none⟩=some (.pointer (some ⟨x.a,0,none⟩)):=cell_of_row w p 0 _ _ (0,0) h.blk
theorem Dc.c1(h:Dc w B p x):w.cell? ⟨p,1,none⟩=some x.vi:=cell_of_row w p 1 _ _ (0,0) h.blk
theorem Dc.c2(h:Dc w B p x):w.cell? ⟨p,2,none⟩=some (.int .i64 x.foc):=cell_of_row w p 2 _ _ (0,0) h.blk
theorem Dc.asc(h:Dc w B p x):Asc x.l:=by
 have:=h.ar.asc.1;rw[List.pairwise_map] at this;unfold Asc Dx.l;rw[List.pairwise_map];exact this
theorem l_len(x:Dx):x.l.length=x.rs.length:=by simp[Dx.l]
theorem l_at(x:Dx){k:Nat}(hk:k<x.rs.length):x.l[k]'(by rw[l_len];exact hk)=x.rs[k].nd:=by simp[Dx.l]
theorem Dc.has_slot(h:Dc w B p x)(y:Int):hasA (x.rs.map slotOf) y=hasL x.l y:=by
 rw[Bool.eq_iff_iff,hasA_iff h.ar.asc,has_iff];constructor
 ·rintro⟨s,hs,e⟩;obtain⟨r,hr,rfl⟩:=List.mem_map.1 hs;exact⟨r.nd,List.mem_map.2 ⟨r,hr,rfl⟩,e⟩
 ·rintro⟨s,hs,e⟩;obtain⟨r,hr,rfl⟩:=List.mem_map.1 hs;exact⟨slotOf r,List.mem_map.2 ⟨r,hr,rfl⟩,e⟩
theorem Dc.place(h:Dc w B p x){y:Int}(hy:hasL x.l y=true):∃k,∃hk:k<x.rs.length,x.rs[k].nd.id=y∧find x.l y=some x.rs[k].nd:=by
 obtain⟨z,hz,rfl⟩:=has_iff.1 hy;obtain⟨r,hr,rfl⟩:=List.mem_map.1 hz;obtain⟨k,hk,rfl⟩:=List.mem_iff_getElem.1 hr;exact⟨k,hk,rfl,h.asc.find hz⟩
theorem Dc.nd(h:Dc w B p x){k:Nat}(hk:k<x.rs.length):NdAt w B x.rs[k]:=h.nodes _ (List.getElem_mem hk)
theorem Dc.b_ne(h:Dc w B p x){i j:Nat}(hi:i<x.rs.length)(hj:j<x.rs.length)(hij:i≠j):x.rs[i].b≠x.rs[j].b∧Apart x.rs[i].vk.val x.rs[j].vk.val:=by
 have:=List.pairwise_iff_getElem.1 h.pw;rcases Nat.lt_or_gt_of_ne hij with hl|hl
 ·exact this i j hi hj hl
 ·obtain⟨a,b⟩:=this j i hj hi hl;exact⟨Ne.symm a,b.symm⟩
structure Did(w:World)(B p:Nat)(x x':Dx)(w':World):Prop where
 dc:Dc w' B p x'
 but:But (foot p x) w w'
 ft:∀k,foot p x' k→foot p x k∨w.heap.size≤k
theorem Did.trans{w2:World}{x1 x2:Dx}(h:Did w B p x x1 w')(k:Did w' B p x1 x2 w2):Did w B p x x2 w2:=by
 have hs:=h.but.size;refine⟨k.dc,h.but.trans k.but (fun i hi hf=>?_),fun i hi=>?_⟩
 ·rcases h.ft i hf with e|e
  ·exact e
  ·omega
 ·rcases k.ft i hi with e|e
  ·exact h.ft i e
  ·exact .inr (by omega)
theorem Did.below_(h:Dc w B p x)(hb:Below w.heap.size w w'):Did w B p x x w':=⟨h.below hb,But.of_below hb _,fun _ h=> .inl h⟩
theorem Did.below{x':Dx}{w2:World}(h:Did w B p x x' w')(hb:Below w'.heap.size w' w2):Did w B p x x' w2:=h.trans (Did.below_ h.dc hb)
theorem Did.to_below{x':Dx}(h:Dc w B p x)(k:Did w B p x x' w'):Below B w w':=k.but.to_below (fun _ _ hi=>h.ge hi) (by have:=h.base;have:=h.lt (.inl rfl:foot p x p);omega)
theorem mem_set_{α:Type}{l:List α}{k:Nat}{r s:α}(h:s∈l.set k r):s=r∨∃j,∃hj:j<l.length,k≠j∧s=l[j]:=by
 obtain⟨j,hj,rfl⟩:=List.mem_iff_getElem.1 h;rw[List.getElem_set];split
 ·exact .inl rfl
 ·rename_i e;exact .inr ⟨j,by simpa using hj,e,rfl⟩
def Dx.put(x:Dx)(k:Nat)(r:Rw):Dx:={x with rs:=x.rs.set k r}
theorem Dc.node(h:Dc w B p x){k:Nat}(hk:k<x.rs.length){r:Rw}(hb:r.b=x.rs[k].b)(hid:r.nd.id=x.rs[k].nd.id)
 (hw:But (fun g=>g=x.rs[k].b∨x.rs[k].vk.val.ownBlock=some g) w w') (hn:NdAt w' B r) (hv:∀g,r.vk.val.ownBlock=some g→x.rs[k].vk.val.ownBlock=some g∨w.heap.size≤g):Did w B p x (x.put k r) w':=by
 have hS:∀g,(g=x.rs[k].b∨x.rs[k].vk.val.ownBlock=some g)→foot p x g:=fun g hg=> .inr (.inr (.inr (.inr ⟨_,List.getElem_mem hk,hg⟩)))
 have hbut:But (foot p x) w w':=hw.mono fun g _ hg=>hS g hg
 have hnA:NoA w (fun g=>g=x.rs[k].b∨x.rs[k].vk.val.ownBlock=some g):=fun g c f hg=>h.noA g c f (hS g hg)
 have hkd:=h.nd hk;have blkN:=hkd.blk;have nb:∀{g:Nat} {c:Array Value} {t:TypeId},w.heap[g]? = some (.cells c t (0,0))→t≠48→t≠3→w'.heap[g]? = w.heap[g]?:=by
  intro g c t hg h1 h2;refine hw.block g (heap_lt hg) ?_;rintro(rfl|e)
  ·exact heap_ne hg blkN h1 rfl
  ·obtain⟨d,hd⟩:=hkd.kids.ty e;exact heap_ne hg hd h2 rfl
 have hslots:(x.rs.set k r).map slotOf=x.rs.map slotOf:=by
  apply List.ext_getElem
  ·simp
  ·intro j h1 h2;simp only[List.getElem_map,List.getElem_set];split
   ·rename_i e;subst e;simp[slotOf,hb,hid]
   ·rfl
 have hids:idsOf ((x.rs.set k r).map (·.nd))=idsOf x.l:=by
  have:=congrArg (List.map (·.id)) hslots;simpa[idsOf,Dx.l,slotOf,List.map_map,Function.comp_def] using this
 have kN:∀{g:Nat} {c:Array Value},w.heap[g]? = some (.cells c 3 (0,0))→x.rs[k].vk.val.ownBlock≠some g→w'.heap[g]? = w.heap[g]?:=by
  intro g c hg hne;refine hw.block g (heap_lt hg) ?_;rintro(rfl|e)
  ·exact heap_ne hg blkN (by decide) rfl
  ·exact hne e
 refine⟨⟨(nb h.blk (by decide) (by decide)).trans h.blk,h.base,?_,?_,?_,?_,?_⟩,hbut,?_⟩
 ·show ArP w' B x.a x.R x.n x.v ((x.rs.set k r).map slotOf);rw[hslots];refine h.ar.keep (nb h.ar.blk (by decide) (by decide)) (fun g hg=>?_);obtain⟨c,hc⟩:=h.ar.own.ty hg;exact nb hc (by decide) (by decide)
 ·show kI.Own w' B x.vi (idsOf ((x.rs.set k r).map (·.nd)));rw[hids];refine h.ids.keep (fun g hg=>?_);obtain⟨c,hc⟩:=h.ids.ty hg;exact kN hc (h.apV _ (List.getElem_mem hk) g hg)
 ·intro s hs;rcases mem_set_ (show s∈x.rs.set k r from hs) with rfl|⟨j,hj',hne,rfl⟩
  ·exact hn
  ·obtain⟨hbj,hkj⟩:=h.b_ne hk hj' hne;have hnj:=h.nd hj';refine hnj.keep (hw.block _ hnj.lt ?_) (fun g hg=>?_) (hnj.att.but hw hnA)
   ·rintro(e|e)
    ·exact hbj e.symm
    ·obtain⟨d,hd⟩:=hkd.kids.ty e;exact heap_ne hnj.blk hd (by decide) rfl
   ·obtain⟨c,hc⟩:=hnj.kids.ty hg;exact kN hc (fun e=>hkj g e hg)
 ·intro s hs;show Apart x.vi s.vk.val;rcases mem_set_ (show s∈x.rs.set k r from hs) with rfl|⟨j,hj',hne,rfl⟩
  ·intro g hg e;rcases hv g e with e2|e2
   ·exact h.apV _ (List.getElem_mem hk) g hg e2
   ·have:=(h.ids.lt hg).2;omega
  ·exact h.apV _ (List.getElem_mem hj')
 ·show(x.rs.set k r).Pairwise _;refine List.pairwise_iff_getElem.2 fun i j hi hj hij=>?_
  have hi':i<x.rs.length:=(by simpa using hi);have hj':j<x.rs.length:=(by simpa using hj);have ap:∀m (hm:m<x.rs.length),m≠k→r.b≠x.rs[m].b∧Apart r.vk.val x.rs[m].vk.val:=by
   intro m hm hmk;obtain⟨h1,h2⟩:=h.b_ne hk hm (Ne.symm hmk);refine⟨by rw[hb];exact h1,fun g hg e=>?_⟩;rcases hv g hg with e2|e2
   ·exact h2 g e2 e
   ·have:=((h.nd hm).kids.lt e).2;omega
  rw[List.getElem_set,List.getElem_set];by_cases e1:k=i
  ·rw[if_pos e1,if_neg (by omega)];exact ap j hj' (by omega)
  ·rw[if_neg e1];by_cases e2:k=j
   ·rw[if_pos e2];obtain⟨h1,h2⟩:=ap i hi' (by omega);exact⟨Ne.symm h1,h2.symm⟩
   ·rw[if_neg e2];exact h.b_ne hi' hj' (by omega)
 ·intro g hg;rcases hg with e|e|e|e|⟨s,hs,e⟩
  ·exact .inl (.inl e)
  ·exact .inl (.inr (.inl e))
  ·exact .inl (.inr (.inr (.inl e)))
  ·exact .inl (.inr (.inr (.inr (.inl e))))
  ·have hs':s∈x.rs.set k r:=hs;rcases mem_set_ hs' with rfl|⟨j,hj',_,rfl⟩
   ·rcases e with e|e
    ·exact .inl (.inr (.inr (.inr (.inr ⟨_,List.getElem_mem hk,.inl (by rw[e,hb])⟩))))
    ·rcases hv g e with e2|e2
     ·exact .inl (.inr (.inr (.inr (.inr ⟨_,List.getElem_mem hk,.inr e2⟩))))
     ·exact .inr e2
   ·exact .inl (.inr (.inr (.inr (.inr ⟨_,List.getElem_mem hj',e⟩))))
theorem put_l(h:Dc w B p x){k:Nat}(hk:k<x.rs.length){r:Rw}{f:Nd→Nd}(hf:r.nd=f x.rs[k].nd):(x.put k r).l=upd x.l x.rs[k].nd.id f:=by
 have:=h.asc.set_upd (k:=k) (by rw[l_len];exact hk) f;rw[l_at x hk] at this;rw[←this];show(x.rs.set k r).map (·.nd)=(x.rs.map (·.nd)).set k _;rw[List.map_set,hf]
theorem Dc.cell_(h:Dc w B p x){k:Nat}(hk:k<x.rs.length){r:Rw}(hb:r.b=x.rs[k].b)(hid:r.nd.id=x.rs[k].nd.id)(hvk:r.vk=x.rs[k].vk)(hkd:r.nd.kids=x.rs[k].nd.kids)(ha:AOk w r.va r.nd.attrs){i:Nat}{u:Value}
 (hc:r.nd.cells r.va r.vk=(x.rs[k].nd.cells x.rs[k].va x.rs[k].vk).setIfInBounds i u):Did w B p x (x.put k r) (w.setCell ⟨x.rs[k].b,i,none⟩ u):=by
 have hn:=h.nd hk;have hbut:But (fun g=>g=x.rs[k].b∨x.rs[k].vk.val.ownBlock=some g) w (w.setCell ⟨x.rs[k].b,i,none⟩ u):=But.setCell (But.refl _ _) (fun _=> .inl rfl) u;refine h.node hk hb hid hbut ⟨?_,by rw[hb];exact hn.base,ha.but hbut (fun g c f hg=>h.noA g c f (.inr (.inr (.inr (.inr ⟨_,List.getElem_mem hk,hg⟩))))),?_⟩ (fun g hg=> .inl (by rw[←hvk];exact hg))
 ·rw[hb,hc];exact heap_set hn.blk i u
 ·rw[hvk,hkd];refine hn.kids.keep (fun g hg=>Below.heap_setCell _ _ _ _ ?_);rintro rfl;obtain⟨d,hd⟩:=hn.kids.ty hg;exact heap_ne hd hn.blk (by decide) rfl
theorem Dc.kids_(h:Dc w B p x){k:Nat}(hk:k<x.rs.length){r:Rw}(hb:r.b=x.rs[k].b)(hva:r.va=x.rs[k].va){f:List Int→List Int}(hnd:r.nd=withKids f x.rs[k].nd)(hw:But (fun g=>x.rs[k].vk.val.ownBlock=some g) w w')(hown:kI.Own w' B r.vk.val r.nd.kids)
 (hv:∀g,r.vk.val.ownBlock=some g→x.rs[k].vk.val.ownBlock=some g∨w.heap.size≤g):Did w B p x (x.put k r) (w'.setCell ⟨x.rs[k].b,6,none⟩ r.vk.val):=by
 have hn:=h.nd hk;have hne:x.rs[k].vk.val.ownBlock≠some x.rs[k].b:=by
  intro e;obtain⟨d,hd⟩:=hn.kids.ty e;exact heap_ne hd hn.blk (by decide) rfl
 have hblk:w'.heap[x.rs[k].b]? = some (.cells (x.rs[k].nd.cells x.rs[k].va x.rs[k].vk) 48 (0,0)):=(hw.block _ hn.lt hne).trans hn.blk;have hbut:But (fun g=>g=x.rs[k].b∨x.rs[k].vk.val.ownBlock=some g) w (w'.setCell ⟨x.rs[k].b,6,none⟩ r.vk.val):=But.setCell (hw.mono fun _ _ hg=> .inr hg) (fun _=> .inl rfl) _;refine h.node hk hb (by rw[hnd];rfl) hbut ⟨?_,by rw[hb];exact hn.base,?_,?_⟩ hv
 ·rw[hb,hva,hnd];exact heap_set hblk 6 _
 ·have:r.nd.attrs=x.rs[k].nd.attrs:=(by rw[hnd];rfl);rw[hva,this];exact hn.att.but hbut (fun g c f hg=>h.noA g c f (.inr (.inr (.inr (.inr ⟨_,List.getElem_mem hk,hg⟩)))))
 ·refine hown.keep (fun g hg=>Below.heap_setCell _ _ _ _ ?_);rintro rfl;obtain⟨d,hd⟩:=hown.ty hg;exact heap_ne hd hblk (by decide) rfl
end
def idxA:List Int→Int→Nat
 |[],_=>0
 |a:: r,t=>if t=a then 0 else idxA r t+1
theorem idxA_le(l:List Int)(t:Int):idxA l t≤l.length:=by
 induction l with
 |nil=>simp[idxA]
 |cons a r ih=>simp only[idxA,List.length_cons];split<;>omega
theorem idxA_of:∀{l:List Int} {t:Int} {k:Nat} (hk:k<l.length),l[k]=t→(∀j (h:j<l.length),j<k→l[j]≠t)→idxA l t=k
 |[],_,_,hk,_,_=>absurd hk (by simp)
 |a:: r,t,0,_,h,_=>by simp only[List.getElem_cons_zero] at h;simp[idxA,h]
 |a:: r,t,k+1,hk,h,hj=>by
  have h0:=hj 0 (by simp) (by omega);simp only[List.getElem_cons_zero] at h0;rw[idxA,if_neg (fun e=>h0 e.symm),idxA_of (k:=k) (by simpa using hk) (by simpa using h) (fun j h1 h2=>by have:=hj (j+1) (by simpa using h1) (by omega);rwa[List.getElem_cons_succ] at this)]
theorem idxA_lt{l:List Int}{t:Int}(h:t∈l):idxA l t<l.length:=by
 induction l with
 |nil=>simp at h
 |cons a r ih=>
  simp only[idxA,List.length_cons];split
  ·omega
  ·rename_i e;have:=ih ((List.mem_cons.1 h).resolve_left e);omega
theorem cell_int{w:World}{B:Nat}{A:Option Addr}{l:List Int}(h:kI.Holds w B A l){k:Nat}(hk:k<l.length):∃b o,A=some ⟨b,o,none⟩∧b<B∧w.cell? ⟨b,o+k,none⟩=some (.int .i64 l[k]):=by
 obtain⟨b,o,hA,hb,hc⟩:=h.at hk;refine⟨b,o,hA,hb,?_⟩;have:=hc 0 _ rfl;rw[show k*kI.size+0=k from Nat.mul_one k] at this;exact this
theorem index_any(l:List Int)(t:Int)(A:Option Addr)(n c:Nat)(w:World)(hn:l.length=n)(hn2:n≤1000000)(ht:t∈l)(H:kI.Holds w w.heap.size A l):
 Calls Tryz.prog 74 #[.slice A n c,.int .i64 t] w fun e w'=>e = .returned (.int .i64 (idxA l t))∧w=w':=by
 have HH:=Zh H;have HN:=Zh hn;have HT:=Zh ht;clear H hn ht;go_enter Tryz.func74,Tryz.ntmps74;go_wp2_with fail;go_loop [8] (fun i=>∃k:Nat,k≤n∧i = .int .i64 k∧Hid (∀j (h:j<l.length),j<k→l[j]≠t)) (fun i=>n-(intOf i).toNat)
 case atStart=>exact⟨0,by omega,rfl,Zh (fun j _ h=>by omega)⟩
 case round=>
  obtain⟨k,hk,rfl,HJ⟩:=hrel;by_cases hlt:k<n
  ·have hkl:k<l.length:=(by have:=HN.out;omega);obtain⟨b,o,rfl,hb,hc⟩:=cell_int HH.out hkl;by_cases he:t=l[k]
   ·have hq:(t==l[k])=true:=beq_iff_eq.2 he;have HE:=Zh he;clear he;go_wp2;go_ret;exact⟨ret_int (by rw[idxA_of hkl HE.out.symm HJ.out]),rfl⟩
   ·have hq:(t==l[k])=false:=beq_eq_false_iff_ne.2 he;have HE:=Zh he;clear he;go_wp2;go_round
    case rel=>
     refine⟨k+1,by omega,by go_num,Zh (fun j hj hjk=>?_)⟩;by_cases e:j=k
     ·subst e;exact fun e2=>HE.out e2.symm
     ·exact HJ.out j hj (by omega)
    case measure=>simp[intOf];omega
  ·exfalso;obtain⟨j,hj,e⟩:=List.mem_iff_getElem.1 HT.out;exact HJ.out j hj (by have:=HN.out;omega) e
theorem clearInt(w:World)(ty:TypeId)(b o c:Nat)(hc:(w.cell? ⟨b,o,none⟩).isSome=true)(hf:w.frozen? ⟨b,o,none⟩=false):
 (Builtin.clear_ #[23] ty #[.slice (some ⟨b,o,none⟩) 1 c]).run Tryz.prog w = .ok (.tuple #[]) (w.setCells b o [.int .i64 0]):=by
 have hst:=run_storeCells_cells (P:=Tryz.prog) b o [.int .i64 0] 0 w (by intro j hj;simp at hj;subst hj;simpa using hc) (by intro j hj;simp at hj;subst hj;simpa using hf) (by simp[Value.oneCell']);simp only[Nat.add_zero] at hst;have hz:(Builtin.zeroCells (Value.int .i64 0).cells 1).toList=[.int .i64 0]:=by
  simp[Builtin.zeroCells,Value.cells,Array.range]
 simp[Builtin.clear_,run_underlying Tryz.underlying23,hz,hst]
theorem deleteInt_any(g i r c:Nat){B:Nat}{l:List Int}(w:World)(hl:l.length=i+1+r)(hl2:i+1+r≤1000000)(h:kI.Own w B (.slice (some ⟨g,0,none⟩) (i+1+r) c) l):
 Calls Tryz.prog 143 #[.slice (some ⟨g,0,none⟩) (i+1+r) c,.int .i64 i,.int .i64 ((i:Int)+1)] w fun e w'=>
  e = .returned (.slice (some ⟨g,0,none⟩) (i+r) c)∧kI.Own w' B (.slice (some ⟨g,0,none⟩) (i+r) c) (l.eraseIdx i)∧But (fun k=>k=g) w w':=by
 obtain⟨i0,hi0,hz0,hz1,hz2⟩:=info_parts infoI;rcases h.form with⟨hv,_⟩|⟨g',c',cur,hv,_,hBg,hlt,hh,hnc,hcm,hcs,ht⟩
 ·cases hv
 injection hv with e1 e2 e3;injection e1 with e1;injection e1 with e1;subst e1;subst e3;clear e2;rw[hl] at hnc ht;have hcs:cur.size=c*1:=hcs;have ht:cur.toList.take ((i+1+r)*1)=kI.cells l:=ht;obtain⟨news,hnews⟩:∃news,news=kI.cells (l.drop (i+1)):=⟨_,rfl⟩;have hnl:news.length=r:=(by rw[hnews,Kind.cells_len,List.length_drop,hl];show(i+1+r-(i+1))*1=r;omega);have hnd:news=(kI.cells l).drop ((i+1)*1):=(by rw[hnews,Kind.cells_drop];rfl);have cell:∀k,w.drew.cell? ⟨g,k,none⟩=cur[k]?:=fun k=>cell_of_row w.drew g k _ _ (0,0) hh
 have s1:Hid (news.length=r*1):=(by show news.length=r*1;omega);have s2:Hid (∀u∈news,u.oneCell'=true):=(by intro u hu;rw[hnews] at hu;exact Kind.cells_one _ _ u hu);have s3:Hid (∀t,t<news.length→(w.drew.cell? ⟨g,0+i*1+t,none⟩).isSome=true∧w.drew.frozen? ⟨g,0+i*1+t,none⟩=false):=by
  intro t htl;refine⟨by rw[cell,Array.getElem?_eq_getElem (by omega)];rfl,?_⟩;have hh':w.drew.heap[g]? = some (.cells cur kI.e (0,0)):=hh;simp[World.frozen?,hh']
 have hsrc:∀t u,news[t]? = some u→w.drew.cell? ⟨g,i+1+t,none⟩=some u:=by
  intro t u hu;have htl:=(List.getElem?_eq_some_iff.1 hu).1;rw[cell,←hu,hnd,List.getElem?_drop,←ht,List.getElem?_take,if_pos (by omega),Array.getElem?_toList,Nat.mul_one]
 obtain⟨A,hA,hS⟩:∃A:Addr,(if c=i+1 then(some (⟨g,0,none⟩:Addr)) else some ⟨g,i+1,none⟩)=some A∧Hid (∀t u,news[t]? = some u→w.drew.cell? (A.add t)=some u):=by
  by_cases hcj:c=i+1
  ·refine⟨⟨g,0,none⟩,if_pos hcj,fun t u hu=>?_⟩;have htl:=(List.getElem?_eq_some_iff.1 hu).1;omega
  ·refine⟨⟨g,i+1,none⟩,if_neg hcj,fun t u hu=>?_⟩;rw[Addr.add_lit];exact hsrc t u hu
 obtain⟨W1,hW1⟩:∃W1,W1=w.drew.setCells g (0+i*1) news:=⟨_,rfl⟩;have hh':w.drew.heap[g]? = some (.cells cur kI.e (0,0)):=hh;obtain⟨c1,k1,k2,k3⟩:=heap_setCells g news (0+i*1) w.drew cur _ _ hh';rw[←hW1] at k1;have hcl:∀ty q,(Builtin.clear_ #[23] ty #[.slice (some ⟨g,i+r,none⟩) (i+1+r-(i+r)) q]).run Tryz.prog W1 = .ok (.tuple #[]) (W1.setCells g (i+r) [.int .i64 0]):=
  fun ty q=>by
   rw[show i+1+r-(i+r)=1 by omega];exact clearInt W1 ty g (i+r) q (by rw[cell_of_row W1 g _ _ _ (0,0) k1,Array.getElem?_eq_getElem (by omega)];rfl) (by simp[World.frozen?,k1])
 obtain⟨c2,m1,m2,m3⟩:=heap_setCells g [.int .i64 0] (i+r) W1 c1 _ _ k1;have hO:Hid (kI.Own (W1.setCells g (i+r) [.int .i64 0]) B (.slice (some ⟨g,0,none⟩) (i+r) c) (l.eraseIdx i)):=by
  refine Kind.own_mk (by rw[List.length_eraseIdx_of_lt (by omega)];omega) hBg m1 (by omega) hcm (by rw[m2,k2];exact hcs) ?_;have hr:=del_row (s:=1) ht (by omega) hnd (zs:=[.int .i64 0]) rfl k2 (fun k hk=>by have:=k3 k hk;rwa[Nat.zero_add] at this) m2 (by simpa using m3);rw[show kI.size=1 from rfl,hr,eraseIdx_eq,Kind.cells_append,Kind.cells_take,←hnews];rfl
 have hB:Hid (But (fun k=>k=g) w (W1.setCells g (i+r) [.int .i64 0])):=by
  rw[hW1];exact But.setCells (S:=fun k=>k=g) (But.setCells (S:=fun k=>k=g) (But.drew (But.refl _ w)) (fun _=>rfl) _ _) (fun _=>rfl) _ _
 have hW:Hid (W1=w.drew.setCells g (0+i*1) news):=hW1;have hic:i≤c:=(by omega);have hjc:i+1≤c:=(by omega);have hne:((i:Int)==(i:Int)+1)=false:=beq_eq_false_iff_ne.2 (by omega);unfold maxLen at hcm;have hb0:(0:Int)≤(i:Int)+1:=(by omega);have hb1:(i:Int)+1≤(i:Int)+1+(r:Int):=(by omega);clear hW1 hh hh' hcs ht hnews hnl hnd cell hsrc k1 k2 k3 m1 m2 m3 h hl hz0 hz2;go_enter Tryz.func143,Tryz.ntmps143;go_wp2_with fail
 go_region_law (refine step_append_room rfl (.tmp 22) (.tmp 25) 23 rfl 3 i0 1 Tryz.underlying23 hi0 hz1 g 0 i c (by simp[Act.eval,Act.put]) A r (c-(i+1)) news (by simp[Act.eval,Act.put]) s1.out hS.out s2.out (by omega) s3.out ?_;rw[←hW.out])
 go_wp2;go_ret;exact⟨rfl,hO.out,hB.out⟩
theorem erase_less:∀{l:List Int} {t:Int},l.Nodup→t∈l→l.eraseIdx (idxA l t)=less t l
 |[],_,_,h=>absurd h (by simp)
 |a:: r,t,hn,h=>by
  obtain⟨h1,h2⟩:=List.nodup_cons.1 hn;by_cases e:t=a
  ·subst e;simp only[idxA,if_true,List.eraseIdx_cons_zero,less];rw[List.filter_cons];simp only[ne_eq,not_true_eq_false,decide_false,Bool.false_eq_true,if_false];exact(List.filter_eq_self.2 (fun c hc=>by simp;rintro rfl;exact h1 hc)).symm
  ·have ih:=erase_less h2 ((List.mem_cons.1 h).resolve_left e);rw[idxA,if_neg e,List.eraseIdx_cons_succ,ih];simp only[less];rw[List.filter_cons];simp[Ne.symm e]
def Without(w:World)(B:Nat)(v:Value)(l:List Int)(t:Int)(e:Ending)(w':World):Prop:=
 ∃A n c,e = .returned (.slice A n c)∧kI.Own w' B (.slice A n c) (less t l)∧But (fun k=>v.ownBlock=some k) w w'∧(Value.slice A n c).ownBlock=v.ownBlock
theorem without_any(l:List Int)(t:Int){B:Nat}{v:Value}(w:World)(hn:l.length≤1000000)(ht:t∈l)(hd:l.Nodup)(h:kI.Own w B v l):
 Calls Tryz.prog 126 #[v,.int .i64 t] w (Without w B v l t):=by
 have hk:=idxA_lt ht;obtain⟨g,c,rfl⟩:∃g c,v = .slice (some ⟨g,0,none⟩) l.length c:=by
  rcases h.form with⟨_,rfl⟩|⟨g,c,cur,rfl,_⟩
  ·simp at ht
  ·exact⟨g,c,rfl⟩
 obtain⟨k,hkk⟩:∃k,k=idxA l t:=⟨_,rfl⟩;rw[←hkk] at hk;obtain⟨r,hr⟩:∃r,l.length=k+1+r:=⟨l.length-(k+1),by omega⟩;rw[hr] at h hn⊢;obtain⟨A,n,c',hv,h1,h2,h3,h4,h5⟩:=h.slice;injection hv with e1 e2 e3;subst e1;subst e2;subst e3;have H:=Zh h;have HI:=Zh h5;have HR:=Zh hr;have HK:=Zh hkk;have HT:=Zh ht;have HD:=Zh hd;clear h h1 h2 h3 h4 h5 hr hkk ht hd hk;go_enter Tryz.func126,Tryz.ntmps126;go_wp2_with fail;refine(index_any l t _ (k+1+r) c w HR.out hn HT.out HI.out).mono ?_;rintro e w' ⟨rfl,rfl⟩;rw[←HK.out];go_wp2_with fail;refine(deleteInt_any g k r c w HR.out hn H.out).mono ?_;rintro e w2 ⟨rfl,o2,b2⟩;have O2:=Zh o2;have B2:=Zh b2;clear o2 b2;go_wp2_with fail;go_ret;refine⟨some ⟨g,0,none⟩,k+r,c,rfl,?_,B2.out.mono (fun i _ hi=>by subst hi;rfl),rfl⟩;rw[←erase_less HD.out HT.out,←HK.out];exact O2.out
def Cloned{α:Type}(K:Kind Tryz.prog α)(w:World)(l:List α)(e:Ending)(w':World):Prop:=∃A n c,e = .returned (.slice A n c)∧K.Own w' w.heap.size (.slice A n c) l∧Below w.heap.size w w'
theorem cloneInt_any(l:List Int)(A:Option Addr)(n c:Nat)(w:World)(hn:l.length=n)(hn2:n≤1000000)(hz:A=none→c=0∧n=0)(H:kI.Holds w w.heap.size A l):
 Calls Tryz.prog 76 #[.slice A n c] w (Cloned kI w l):=by
 cases A with
 |none=>
  obtain⟨rfl,rfl⟩:=hz rfl;obtain rfl:l=[]:=List.length_eq_zero_iff.1 hn;clear H hn hz;have hq:=fun w'=>Lib.run_eql_slice_nil (P:=Tryz.prog) w' 23 3 Option.none 0 0 0 0 Tryz.underlying23
  go_enter Tryz.func76,Tryz.ntmps76;go_wp2;go_ret;exact⟨none,0,0,rfl,Kind.Own.nil _ _ _,Ze⟩
 |some a=>
  have HM:=Zh hn;have HH:=Zh H;clear H hn hz;have hq:=fun w'=>Lib.run_eql_slice_nil (P:=Tryz.prog) w' 23 3 (some a) n c 0 0 Tryz.underlying23
  go_enter Tryz.func76,Tryz.ntmps76;go_wp2_with (at_builtin;refine kI.wp_app rfl _ _ rfl (v:=.slice (some ⟨w.heap.size,0,Option.none⟩) 0 0) (l:=[]) (m:=l) (B:=w.heap.size) rfl (Kind.Own.made kI w _ (Zl)) rfl HM.out (fun e=>by cases e) (HH.out.on (Zb _ _)) (by simp;omega) (by simp) ?_;intro v' w2 hown hgrow hat);go_ret;obtain⟨A',n',c',rfl,_⟩:=hown.slice;exact⟨A',n',c',rfl,hown,(Zb _ _).grown hgrow (by simp) (fun k hk=>by simp[Value.ownBlock] at hk;omega)⟩
theorem cloneAt_any(l:List P3.At)(A:Option Addr)(n c:Nat)(w:World)(hn:l.length=n)(hn2:n≤1000000)(hz:A=none→c=0∧n=0)(H:kA.Holds w w.heap.size A l):
 Calls Tryz.prog 82 #[.slice A n c] w (Cloned kA w l):=by
 cases A with
 |none=>
  obtain⟨rfl,rfl⟩:=hz rfl;obtain rfl:l=[]:=List.length_eq_zero_iff.1 hn;clear H hn hz;have hq:=fun w'=>Lib.run_eql_slice_nil (P:=Tryz.prog) w' 46 121 Option.none 0 0 0 0 Tryz.underlying46
  go_enter Tryz.func82,Tryz.ntmps82;go_wp2;go_ret;exact⟨none,0,0,rfl,Kind.Own.nil _ _ _,Ze⟩
 |some a=>
  have HM:=Zh hn;have HH:=Zh H;clear H hn hz;have hq:=fun w'=>Lib.run_eql_slice_nil (P:=Tryz.prog) w' 46 121 (some a) n c 0 0 Tryz.underlying46
  go_enter Tryz.func82,Tryz.ntmps82;go_wp2_with (at_builtin;refine kA.wp_app rfl _ _ rfl (v:=.slice (some ⟨w.heap.size,0,Option.none⟩) 0 0) (l:=[]) (m:=l) (B:=w.heap.size) rfl (Kind.Own.made kA w _ (Zl)) rfl HM.out (fun e=>by cases e) (HH.out.on (Zb _ _)) (by simp;omega) (by simp) ?_;intro v' w2 hown hgrow hat);go_ret;obtain⟨A',n',c',rfl,_⟩:=hown.slice;exact⟨A',n',c',rfl,hown,(Zb _ _).grown hgrow (by simp) (fun k hk=>by simp[Value.ownBlock] at hk;omega)⟩
def ren21:Go.Shelf.Ren:=⟨fun|21=>105|27=>127|28=>128|35=>153|39=>161|n=>n,fun|0=>0|3=>3|4=>4|22=>23|n=>n,fun|n=>n⟩
theorem lays21:Go.Proofs.Lays2.n21 Tryz.prog ren21:={
 mixed:=by kernel_rfl
 f21:=Tryz.func105.trans (congrArg some (by kernel_rfl))
 f27:=Tryz.func127.trans (congrArg some (by kernel_rfl))
 f28:=Tryz.func128.trans (congrArg some (by kernel_rfl))
 f35:=Tryz.func153.trans (congrArg some (by kernel_rfl))
 f39:=Tryz.func161.trans (congrArg some (by kernel_rfl))
 t0:=Tryz.underlying0
 a0:=Tryz.isAgg0
 z0:=Tryz.sizeOf0
 v0:=Tryz.zeroValue0
 t3:=Tryz.underlying3
 a3:=Tryz.isAgg3
 z3:=Tryz.sizeOf3
 v3:=Tryz.zeroValue3
 t4:=Tryz.underlying4
 a4:=Tryz.isAgg4
 z4:=Tryz.sizeOf4
 v4:=Tryz.zeroValue4
 t22:=Tryz.underlying23
 a22:=Tryz.isAgg23
 z22:=Tryz.sizeOf23
 v22:=Tryz.zeroValue23
 i3:=infoI}
theorem ins_row{c2:Array Value}{C:List Value}{n i:Nat}{u:Value}(hC:C.length=n)(hi:i≤n)(hs:n+1≤c2.size)(h:∀k,k<n+1→c2[k]? = if k<i then C[k]? else if k=i then some u else C[k-1]?):
 c2.toList.take (n+1)=C.take i++u:: C.drop i:=by
 apply List.ext_getElem?;intro k;rw[List.getElem?_take];have hti:(C.take i).length=i:=(by rw[List.length_take];omega);by_cases hk:k<n+1
 ·rw[if_pos hk,Array.getElem?_toList,h k hk];by_cases h1:k<i
  ·rw[if_pos h1,List.getElem?_append_left (by omega),List.getElem?_take,if_pos h1]
  ·rw[if_neg h1,List.getElem?_append_right (by omega),hti];by_cases h2:k=i
   ·subst h2;simp
   ·obtain⟨m,rfl⟩:∃m,k=i+(m+1):=⟨k-i-1,by omega⟩;rw[if_neg h2,show i+(m+1)-i=m+1 by omega,List.getElem?_cons_succ,List.getElem?_drop,show i+(m+1)-1=i+m by omega]
 ·rw[if_neg hk,List.getElem?_eq_none];simp only[List.length_append,List.length_cons,List.length_drop,hti];omega
theorem cells_ins(l:List Int)(i:Nat)(t:Int):kI.cells (l.take i++t:: l.drop i)=(kI.cells l).take i ++ .int .i64 t:: (kI.cells l).drop i:=by
 rw[Kind.cells_append];show _++kI.cells ([t]++l.drop i)=_;rw[Kind.cells_append,Kind.cells_take,Kind.cells_drop];have:i*kI.size=i:=Nat.mul_one i;rw[this];rfl
theorem kI_len(l:List Int):(kI.cells l).length=l.length:=by rw[Kind.cells_len];exact Nat.mul_one _
def Inserted(w:World)(B:Nat)(v:Value)(l:List Int)(e:Ending)(w':World):Prop:=
 ∃A n c,e = .returned (.slice A n c)∧kI.Own w' B (.slice A n c) l∧But (fun k=>v.ownBlock=some k) w w'∧∀g,(Value.slice A n c).ownBlock=some g→v.ownBlock=some g∨w.heap.size≤g
theorem insert_any(l:List Int)(t:Int)(i:Nat){B vb:Nat}{v:Value}(w:World)(hi:i≤l.length)(hl:l.length≤1000000)(hB:B≤w.heap.size)(h:kI.Own w B v l)
 (hb:w.heap[vb]? = some (.cells #[.int .i64 t] 3 (0,0))) (hne:v.ownBlock≠some vb):
 Calls Tryz.prog 105 #[v,.int .i64 i,.slice (some ⟨vb,0,none⟩) 1 1] w (Inserted w B v (l.take i++t:: l.drop i)):=by
 have hvs:∀j u,([.int .i64 t]:List Value)[j]? = some u→w.cell? ⟨vb,0+j,none⟩=some u:=by
  intro j u hj;cases j with
  |zero=>
   have:Value.int .i64 t=u:=(by simpa using hj);subst this;exact cell_of_row w vb 0 _ _ (0,0) hb
  |succ j=>simp at hj
 have h1v:∀u∈([.int .i64 t]:List Value),u.oneCell'=true:=(by intro u hu;simp at hu;subst hu;rfl);have h1c:∀u∈kI.cells l,u.oneCell'=true:=Kind.cells_one _ _;have grow:∀(W:World) (g:Nat) (cur:Array Value) (c:Nat),B≤g→W.heap[g]? = some (.cells cur 3 (0,0))→l.length+1≤c→c≤maxLen→cur.size=c→(∀k,k<l.length+1→cur[k]? = if k<i then(kI.cells l)[k]? else if k=i then some (.int .i64 t) else(kI.cells l)[k-1]?)→
  kI.Own W B (.slice (some ⟨g,0,none⟩) (l.length+1) c) (l.take i++t:: l.drop i):=by
  intro W g cur c hg hh h1 h2 h3 h4;refine Kind.own_mk (cur:=cur) (by simp;omega) hg hh h1 h2 (by rw[h3];exact(Nat.mul_one c).symm) ?_;rw[show(l.length+1)*kI.size=l.length+1 from Nat.mul_one _,ins_row (kI_len l) hi (by omega) h4,cells_ins]
 have hG63:∀c,grownCap w (l.length+1) c 3≤maxLen:=fun c=>grownCap_le_maxLen w _ c _ (by unfold maxLen;omega)
 have hGn:∀c,l.length+1≤grownCap w (l.length+1) c 3:=fun c=>grownCap_ge w _ c _
 have hzc:∀k,(Builtin.zeroCells (Value.int .i64 0).cells k).size=k:=fun k=>by simp[Builtin.zeroCells,Value.cells]
 have happ:∀(c:Nat) (k:Nat),k<l.length+1→i=l.length→((kI.cells l++[Value.int .i64 t]).toArray++Builtin.zeroCells (Value.int .i64 0).cells c)[k]? = if k<i then(kI.cells l)[k]? else if k=i then some (.int .i64 t) else(kI.cells l)[k-1]?:=by
  intro c k hk hil;have hsz:(kI.cells l++[Value.int .i64 t]).toArray.size=l.length+1:=(by simp[kI_len]);rw[Array.getElem?_append_left (by omega),List.getElem?_toArray];by_cases h1:k<i
  ·rw[if_pos h1,List.getElem?_append_left (by rw[kI_len];omega)]
  ·rw[if_neg h1,List.getElem?_append_right (by rw[kI_len];omega),kI_len,if_pos (by omega),show k-l.length=0 by omega];rfl
 rcases h.form with⟨rfl,rfl⟩|⟨g,c,cur,rfl,_,hBg,hlt,hh,hnc,hcm,hcs,hta⟩
 ·obtain rfl:i=0:=by simpa using hi
  refine(Any2.slices_Insert_int_end_grow lays21 none 0 0 vb 0 1 1 [] [.int .i64 t] w (by omega) (by omega) (by omega) (by omega) rfl rfl (fun _=>rfl) (fun a ha=>by cases ha) hvs h1v).mono ?_;rintro e w' ⟨rfl,rfl⟩;have hsz:=happ (grownCap w 1 0 3-1);refine⟨some ⟨w.heap.size,0,none⟩,1,grownCap w 1 0 3,rfl,?_,But.alloc (But.drew (But.refl _ _)) _,fun g hg=> .inr (by simp[Value.ownBlock] at hg;omega)⟩;exact grow _ w.heap.size _ _ hB (heap_alloc_new w.drew _) (hGn 0) (hG63 0) (by have:=hGn 0;simp at this;simp[hzc,show ren21.t 3=3 from rfl];omega) (fun k hk=>hsz k hk rfl)
 ·have hcs':cur.size=c:=hcs.trans (Nat.mul_one c);have hta':cur.toList.take l.length=kI.cells l:=(by rw[←hta];exact congrArg (fun m=>cur.toList.take m) (Nat.mul_one _).symm);have hcur:∀k,k<l.length→(kI.cells l)[k]? = cur[k]?:=fun k hk=>by rw[←hta',List.getElem?_take,if_pos hk,Array.getElem?_toList]
  have hcc:∀j u,(kI.cells l)[j]? = some u→w.cell? ⟨g,0+j,none⟩=some u:=by
   intro j u hj;have hjl:=(List.getElem?_eq_some_iff.1 hj).1;rw[kI_len] at hjl;rw[Nat.zero_add,cell_of_row w g j _ _ _ hh,←hcur j hjl];exact hj
  have hcell:∀k,w.cell? ⟨g,k,none⟩=cur[k]?:=fun k=>cell_of_row w g k _ _ _ hh
  have hfz:∀k,w.frozen? ⟨g,k,none⟩=false:=fun k=>by simp[World.frozen?,hh]
  have hhi:w.heap[g]? = some (.cells cur 3 (0,0)):=hh;have hgv:vb≠g:=fun e=>hne (by rw[e];rfl)
  by_cases hil:i=l.length
  ·subst hil;by_cases hroom:l.length+1≤c
   ·refine(Any2.slices_Insert_int_end_room lays21 g 0 l.length c vb 0 1 1 [.int .i64 t] w (by omega) hroom (by unfold maxLen at hcm;omega) rfl (fun j hj=>by rw[hcell,Array.getElem?_eq_getElem (by omega)];rfl) (fun j _=>hfz _) hvs h1v).mono ?_;rintro e w' ⟨rfl,rfl⟩;obtain⟨c1,k1,k2,k3⟩:=heap_setCells g [.int .i64 t] (0+l.length) w cur _ _ hh;refine⟨some ⟨g,0,none⟩,l.length+1,c,rfl,?_,But.setCells (S:=fun k=>(Value.slice (some ⟨g,0,none⟩) l.length c).ownBlock=some k) (But.refl _ _) (fun _=>rfl) _ _,fun g' hg=> .inl hg⟩;refine grow _ g c1 c hBg k1 hroom hcm (by omega) (fun k hk=>?_);rw[k3 k (by omega)];by_cases h1:k<l.length
    ·rw[if_neg (by simp;omega),if_pos h1,hcur k h1]
    ·rw[if_pos (by simp;omega),if_neg h1,if_pos (by omega),show k-(0+l.length)=0 by omega];rfl
   ·refine(Any2.slices_Insert_int_end_grow lays21 (some ⟨g,0,none⟩) l.length c vb 0 1 1 (kI.cells l) [.int .i64 t] w (by omega) hnc (by omega) (by omega) (kI_len l) rfl (fun e=>by cases e) (fun a ha j u hj=>by injection ha with ha;subst ha;rw[Addr.add_lit];exact hcc j u hj) hvs h1v).mono ?_;rintro e w' ⟨rfl,rfl⟩;refine⟨some ⟨w.heap.size,0,none⟩,l.length+1,grownCap w (l.length+1) c 3,rfl,?_,But.alloc (But.drew (But.refl _ _)) _,fun g hg=> .inr (by simp[Value.ownBlock] at hg;omega)⟩;exact grow _ w.heap.size _ _ hB (heap_alloc_new w.drew _) (hGn c) (hG63 c) (by have:=hGn c;simp[hzc,kI_len,show ren21.t 3=3 from rfl];omega) (fun k hk=>happ _ k hk rfl)
  ·have hil':i<l.length:=(by omega);by_cases hroom:l.length+1≤c
   ·refine(Any2.slices_Insert_int_shift lays21 g 0 l.length c i vb 0 1 1 (kI.cells l) [.int .i64 t] w hil' (by omega) hroom (by unfold maxLen at hcm;omega) hgv (kI_len l) rfl hcc (fun j hj=>by rw[hcell,Array.getElem?_eq_getElem (by omega)];rfl) (fun j _=>hfz _) hvs h1c h1v 3 3 1 c (by simp[World.shape?,hb]) (by simp[World.shape?,hhi,hcs']) (by omega) (by simp[World.frozen?,hb]) (by simp[World.frozen?,hb])).mono ?_;rintro e w' ⟨rfl,rfl⟩;obtain⟨c1,k1,k2,k3⟩:=heap_setCells g ((kI.cells l).drop i) (0+(i+1)) w.drew cur _ _ hh;obtain⟨c2,m1,m2,m3⟩:=heap_setCells g [.int .i64 t] (0+i) _ c1 _ _ k1;refine⟨some ⟨g,0,none⟩,l.length+1,c,rfl,?_,But.setCells (S:=fun k=>(Value.slice (some ⟨g,0,none⟩) l.length c).ownBlock=some k) (But.setCells (S:=fun k=>(Value.slice (some ⟨g,0,none⟩) l.length c).ownBlock=some k) (But.drew (But.refl _ _)) (fun _=>rfl) _ _) (fun _=>rfl) _ _,fun g' hg=> .inl hg⟩;refine grow _ g c2 c hBg m1 hroom hcm (by omega) (fun k hk=>?_);rw[m3 k (by omega)];by_cases h1:k<i
    ·rw[if_neg (by simp;omega),if_pos h1,k3 k (by omega),if_neg (by omega),hcur k (by omega)]
    ·rw[if_neg h1];by_cases h2:k=i
     ·rw[if_pos (by simp;omega),if_pos h2,show k-(0+i)=0 by omega];rfl
     ·rw[if_neg (by simp;omega),if_neg h2,k3 k (by omega),if_pos (by rw[List.length_drop,kI_len];omega),List.getElem?_drop,show i+(k-(0+(i+1)))=k-1 by omega]
   ·refine(Any2.slices_Insert_int_grow lays21 g 0 l.length c i vb 0 1 1 (kI.cells l) [.int .i64 t] w hil' (by omega) hnc (by omega) (by omega) (kI_len l) rfl hcc hvs h1c h1v).mono ?_;rintro e w' ⟨rfl,rfl⟩;obtain⟨G,hG⟩:∃G,G=grownCap w (l.length+1) c 3:=⟨_,rfl⟩;have hGn':=hGn c;have hG63':=hG63 c;simp only[show ren21.t 3=3 from rfl];rw[←hG] at hGn' hG63'⊢;obtain⟨row,hrow⟩:∃row,row=((kI.cells l).take i).toArray++Builtin.zeroCells (Value.int .i64 0).cells (l.length+1-i)++Builtin.zeroCells (Value.int .i64 0).cells (G-(l.length+1)):=⟨_,rfl⟩;rw[←hrow];have hrs:row.size=G:=by
     rw[hrow];simp[hzc,kI_len];omega
    have hr1:∀k,k<i→row[k]? = (kI.cells l)[k]?:=by
     intro k hk;rw[hrow,Array.getElem?_append_left (by simp[hzc,kI_len];omega),Array.getElem?_append_left (by simp[kI_len];omega),List.getElem?_toArray,List.getElem?_take,if_pos hk]
    have hh0:(w.alloc (.cells row 3)).drew.heap[w.heap.size]? = some (.cells row 3 (0,0)):=heap_alloc_new w _;obtain⟨c1,k1,k2,k3⟩:=heap_setCells w.heap.size [.int .i64 t] i _ row _ _ hh0;have k1':((w.alloc (.cells row 3)).drew.setCells w.heap.size i [.int .i64 t]).drew.heap[w.heap.size]? = some (.cells c1 3 (0,0)):=k1;obtain⟨c2,m1,m2,m3⟩:=heap_setCells w.heap.size ((kI.cells l).drop i) (i+1) _ c1 _ _ k1';refine⟨some ⟨w.heap.size,0,none⟩,l.length+1,G,rfl,?_,?_,fun g hg=> .inr (by simp[Value.ownBlock] at hg;omega)⟩
    ·refine grow _ w.heap.size c2 G hB m1 hGn' hG63' (by omega) (fun k hk=>?_);rw[m3 k (by omega)];by_cases h1:k<i
     ·rw[if_neg (by omega),if_pos h1,k3 k (by omega),if_neg (by simp;omega),hr1 k h1]
     ·rw[if_neg h1];by_cases h2:k=i
      ·rw[if_neg (by omega),if_pos h2,k3 k (by omega),if_pos (by simp;omega),show k-i=0 by omega];rfl
      ·rw[if_pos (by rw[List.length_drop,kI_len];omega),if_neg h2,List.getElem?_drop,show i+(k-(i+1))=k-1 by omega]
    ·exact But.setCells (But.drew (But.setCells (But.drew (But.alloc (But.refl _ _) _)) (fun e=>absurd e (by omega)) _ _)) (fun e=>absurd e (by omega)) _ _
variable{B p:Nat}{x:Dx}
theorem NdAt.c1{w:World}{r:Rw}(h:NdAt w B r):w.cell? ⟨r.b,1,none⟩=some (.int .i64 r.nd.par):=h.cell 1
theorem NdAt.c2{w:World}{r:Rw}(h:NdAt w B r):w.cell? ⟨r.b,2,none⟩=some (.string r.nd.tag):=h.cell 2
theorem NdAt.c3{w:World}{r:Rw}(h:NdAt w B r):w.cell? ⟨r.b,3,none⟩=some (.string r.nd.txt):=h.cell 3
theorem NdAt.c5{w:World}{r:Rw}(h:NdAt w B r):w.cell? ⟨r.b,5,none⟩=some r.va.val:=h.cell 5
theorem NdAt.c6{w:World}{r:Rw}(h:NdAt w B r):w.cell? ⟨r.b,6,none⟩=some r.vk.val:=h.cell 6
theorem node_at(y:Int){k:Nat}{b:Nat}(w:World)(hk:k<x.rs.length)(hy:x.rs[k].nd.id=y)(hb:x.rs[k].b=b)(h:Dc w B p x):
 Calls Tryz.prog 101 #[.pointer (some ⟨p,0,none⟩),.int .i64 y] w fun e w'=>e = .returned (.pointer (some ⟨b,0,none⟩))∧Below w.heap.size w w':=by
 have H:=Zh h;have HY:=Zh hy;have HB:=Zh hb;have c0:=h.c0;clear h hy hb;go_enter Tryz.func101,Tryz.ntmps101;go_wp2_with fail;refine(getP_at y k (x:=b) w (l:=x.rs.map slotOf) (by simpa using hk) (by simp[slotOf,HY.out]) (by simp[slotOf,HB.out]) H.out.ar).mono ?_;rintro e w1 ⟨rfl,b1⟩;have B1:=Zh b1;clear b1;go_wp2_with fail;go_ret;exact⟨rfl,B1.out⟩
theorem has_at(y:Int){r:Bool}(w:World)(hr:hasL x.l y=r)(h:Dc w B p x):
 Calls Tryz.prog 30 #[.pointer (some ⟨p,0,none⟩),.int .i64 y] w fun e w'=>e = .returned (.bool r)∧Below w.heap.size w w':=by
 have H:=Zh h;have c0:=h.c0;cases r with
 |false=>
  have HR:=Zh hr;clear h hr;go_enter Tryz.func30,Tryz.ntmps30;go_wp2_with fail;refine(getP_no y w (by rw[H.out.has_slot];exact HR.out) H.out.ar).mono ?_;rintro e w1 ⟨rfl,b1⟩;have B1:=Zh b1;clear b1;go_wp2_with fail;go_ret;exact⟨rfl,B1.out⟩
 |true=>
  obtain⟨k,hk,hy,_⟩:=h.place hr;have HY:=Zh hy;clear h hr hy;go_enter Tryz.func30,Tryz.ntmps30;go_wp2_with fail;refine(getP_at y k (x:=x.rs[k].b) w (l:=x.rs.map slotOf) (by simpa using hk) (by simp[slotOf,HY.out]) (by simp[slotOf]) H.out.ar).mono ?_;rintro e w1 ⟨rfl,b1⟩;have B1:=Zh b1;clear b1;go_wp2_with fail;go_ret;exact⟨rfl,B1.out⟩
theorem next_any{m:Int}(w:World)(hn:x.n≤100000)(hm:m=x.n+1)(h:Dc w B p x):Calls Tryz.prog 51 #[.pointer (some ⟨p,0,none⟩)] w fun e w'=>e = .returned (.int .i64 m)∧w=w':=by
 have H:=Zh h;have HM:=Zh hm;have c0:=h.c0;clear h hm;go_enter Tryz.func51,Tryz.ntmps51;go_wp2_with fail;refine(nextP_any w hn HM.out H.out.ar).mono ?_;rintro e w' ⟨rfl,rfl⟩;go_wp2_with fail;go_ret;exact⟨rfl,rfl⟩
theorem focus_any(w:World)(h:Dc w B p x):Calls Tryz.prog 53 #[.pointer (some ⟨p,0,none⟩)] w fun e w'=>e = .returned (.int .i64 x.foc)∧w=w':=by
 have c2:=h.c2;clear h;go_enter Tryz.func53,Tryz.ntmps53;go_wp2;go_ret;exact⟨rfl,rfl⟩
theorem own_nil_zero{v:Value}{w:World}{l:List Int}{A:Option Addr}{n c:Nat}(h:kI.Own w B v l)(hv:v = .slice A n c):l.length=n∧n≤c∧c≤maxLen∧(A=none→c=0∧n=0)∧kI.Holds w w.heap.size A l:=by
 subst hv;obtain⟨A',n',c',hv,h1,h2,h3,h4,h5⟩:=h.slice;injection hv with e1 e2 e3;subst e1;subst e2;subst e3;exact⟨h1,h2,h3,fun e=>by have:=h4 e;omega,h5⟩
theorem ids_any(w:World)(hn:x.rs.length≤1000)(h:Dc w B p x):Calls Tryz.prog 50 #[.pointer (some ⟨p,0,none⟩)] w (Cloned kI w (idsOf x.l)):=by
 have c1:=h.c1;obtain⟨A,n,c,hv,_⟩:=h.ids.slice;obtain⟨h1,h2,h3,h4,h5⟩:=own_nil_zero h.ids hv;have hn2:n≤1000000:=(by rw[←h1];simp[idsOf,Dx.l];omega);have H1:=Zh h1;have H4:=Zh h4;have H5:=Zh h5;rw[hv] at c1;clear h h1 h2 h3 h4 h5 hv;go_enter Tryz.func50,Tryz.ntmps50;go_wp2_with fail;refine(cloneInt_any (idsOf x.l) A n c w H1.out hn2 H4.out H5.out).mono ?_;rintro e w1 ⟨A1,n1,c1',rfl,o1,b1⟩;have O1:=Zh o1;have B1:=Zh b1;clear o1 b1;go_wp2_with fail;go_ret;exact⟨_,_,_,rfl,O1.out,B1.out⟩
def Told(w:World)(nd:Nd)(e:Ending)(w':World):Prop:=
 ∃A n c A2 n2 c2,e = .returned (.agg #[.int .i64 nd.id,.int .i64 nd.par,.string nd.tag,.string nd.txt,.string nd.key,.slice A n c,.slice A2 n2 c2,.int .i64 nd.note])∧AOk w' ⟨A,n,c⟩ nd.attrs∧kI.Own w' w.heap.size (.slice A2 n2 c2) nd.kids∧Below w.heap.size w w'
theorem own_end{w w2 wf:World}{nd:Nd}{A A2:Option Addr}{n c n2 c2:Nat}{C D:Nat}(hB:Below w.heap.size w w2)(hA:kA.Own w2 C (.slice A n c) nd.attrs)(hK:kI.Own w2 D (.slice A2 n2 c2) nd.kids)(hC:w.heap.size+1<C)(hD:w.heap.size+1<D)
 (hb:But (fun k=>k=w.heap.size∨k=w.heap.size+1) w2 wf):Told w nd (.returned (.agg #[.int .i64 nd.id,.int .i64 nd.par,.string nd.tag,.string nd.txt,.string nd.key,.slice A n c,.slice A2 n2 c2,.int .i64 nd.note])) wf:=by
 have h1:kA.Own wf C (.slice A n c) nd.attrs:=hA.but hb (fun g hg h=>by have:=(hA.lt hg).1;omega);have h2:kI.Own wf D (.slice A2 n2 c2) nd.kids:=hK.but hb (fun g hg h=>by have:=(hK.lt hg).1;omega);obtain⟨s,hs,ha⟩:=AOk.own h1;obtain⟨sA,sn,sc⟩:=s;simp only[Sv.val,Value.slice.injEq] at hs;obtain⟨rfl,rfl,rfl⟩:=hs;exact⟨_,_,_,_,_,_,rfl,ha,h2.base_le (by omega),hB.trans (hb.to_below (fun i _ hi=>by omega) hB.size)⟩
theorem own_any(nd:Nd){A A2:Option Addr}{n c n2 c2:Nat}(w:World)(ha:AOk w ⟨A,n,c⟩ nd.attrs)(hal:nd.attrs.length≤1000)(hkl:nd.kids.length≤1000)(hk:kI.Own w B (.slice A2 n2 c2) nd.kids):
 Calls Tryz.prog 89 #[.agg #[.int .i64 nd.id,.int .i64 nd.par,.string nd.tag,.string nd.txt,.string nd.key,.slice A n c,.slice A2 n2 c2,.int .i64 nd.note]] w (Told w nd):=by
 obtain⟨h1,h2,h3,h4,h5⟩:=own_nil_zero hk rfl;have a1:=ha.len;have a2:=ha.cap;have a4:=ha.nil;simp only at a1 a2 a4;have hn2:n2≤1000000:=(by omega);have hn:n≤1000000:=(by omega);have HA:=Zh ha;have H1:=Zh h1;have H4:=Zh h4;have H5:=Zh h5;have A1:=Zh a1;have A4:Hid (A=none→c=0∧n=0):=Zh (fun e=>by have:=a4 e;omega);clear h1 h2 h3 h4 h5 a1 a2 a4 ha hk hal hkl;go_enter Tryz.func89,Tryz.ntmps89;go_wp2_with fail;have W0:Hid (Below w.heap.size w ((w.alloc (.cells #[.int .i64 nd.id,.int .i64 nd.par,.string nd.tag,.string nd.txt,.string nd.key,.slice A n c,.slice A2 n2 c2,.int .i64 nd.note] 48)).alloc (.cells #[.int .i64 0,.int .i64 0,.string ⟨#[]⟩,.string ⟨#[]⟩,.string ⟨#[]⟩,.slice none 0 0,.slice none 0 0,.int .i64 0] 48))):=Zh ((Zb _ _).alloc (by simp) _);have K0:Hid (((w.alloc (.cells #[.int .i64 nd.id,.int .i64 nd.par,.string nd.tag,.string nd.txt,.string nd.key,.slice A n c,.slice A2 n2 c2,.int .i64 nd.note] 48)).alloc (.cells #[.int .i64 0,.int .i64 0,.string ⟨#[]⟩,.string ⟨#[]⟩,.string ⟨#[]⟩,.slice none 0 0,.slice none 0 0,.int .i64 0] 48)).heap[w.heap.size]? = some (.cells #[.int .i64 nd.id,.int .i64 nd.par,.string nd.tag,.string nd.txt,.string nd.key,.slice A n c,.slice A2 n2 c2,.int .i64 nd.note] 48 (0,0))):=Zh (heap_up (heap_alloc_new w _));have K1:Hid (((w.alloc (.cells #[.int .i64 nd.id,.int .i64 nd.par,.string nd.tag,.string nd.txt,.string nd.key,.slice A n c,.slice A2 n2 c2,.int .i64 nd.note] 48)).alloc (.cells #[.int .i64 0,.int .i64 0,.string ⟨#[]⟩,.string ⟨#[]⟩,.string ⟨#[]⟩,.slice none 0 0,.slice none 0 0,.int .i64 0] 48)).heap[w.heap.size+1]? = some (.cells #[.int .i64 0,.int .i64 0,.string ⟨#[]⟩,.string ⟨#[]⟩,.string ⟨#[]⟩,.slice none 0 0,.slice none 0 0,.int .i64 0] 48 (0,0))):=Zh (by have:=heap_alloc_new (w.alloc (.cells #[.int .i64 nd.id,.int .i64 nd.par,.string nd.tag,.string nd.txt,.string nd.key,.slice A n c,.slice A2 n2 c2,.int .i64 nd.note] 48)) (.cells #[.int .i64 0,.int .i64 0,.string ⟨#[]⟩,.string ⟨#[]⟩,.string ⟨#[]⟩,.slice none 0 0,.slice none 0 0,.int .i64 0] 48);simpa using this);generalize ((w.alloc (.cells #[.int .i64 nd.id,.int .i64 nd.par,.string nd.tag,.string nd.txt,.string nd.key,.slice A n c,.slice A2 n2 c2,.int .i64 nd.note] 48)).alloc (.cells #[.int .i64 0,.int .i64 0,.string ⟨#[]⟩,.string ⟨#[]⟩,.string ⟨#[]⟩,.slice none 0 0,.slice none 0 0,.int .i64 0] 48))=W at W0 K0 K1⊢;have hz0:w.heap.size<W.heap.size:=heap_lt K0.out;have hz1:w.heap.size+1<W.heap.size:=heap_lt K1.out;refine(cloneAt_any nd.attrs A n c W A1.out hn A4.out (by exact((HA.out.below W0.out).holds))).mono ?_;rintro e w1 ⟨s1A,s1n,s1c,rfl,o1,b1⟩;have O1:=Zh o1;have B1:=Zh (W0.out.trans (b1.mono W0.out.size));have L0:Hid (w1.heap[w.heap.size]? = _):=Zh ((b1.block _ hz0).trans K0.out);have L1:Hid (w1.heap[w.heap.size+1]? = _):=Zh ((b1.block _ hz1).trans K1.out);have d5:w1.cell? ⟨w.heap.size,5,none⟩=some (.slice A n c):=cell_of_row w1 _ 5 _ _ (0,0) L0.out;have d6:w1.cell? ⟨w.heap.size,6,none⟩=some (.slice A2 n2 c2):=cell_of_row w1 _ 6 _ _ (0,0) L0.out;have f5:w1.frozen? ⟨w.heap.size,5,none⟩=false:=(by have hb:=L0.out;simp[World.frozen?,hb]);clear o1 b1 K0 K1;go_wp2_with fail;have M0:Hid ((w1.setCell ⟨w.heap.size,5,none⟩ (.slice s1A s1n s1c)).heap[w.heap.size]? = some (.cells #[.int .i64 nd.id,.int .i64 nd.par,.string nd.tag,.string nd.txt,.string nd.key,.slice s1A s1n s1c,.slice A2 n2 c2,.int .i64 nd.note] 48 (0,0))):=Zh (heap_set L0.out 5 _);have M1:Hid ((w1.setCell ⟨w.heap.size,5,none⟩ (.slice s1A s1n s1c)).heap[w.heap.size+1]? = _):=Zh ((Below.heap_setCell _ _ _ _ (by show w.heap.size+1≠w.heap.size;omega)).trans L1.out);have BM:Hid (Below w.heap.size w (w1.setCell ⟨w.heap.size,5,none⟩ (.slice s1A s1n s1c))):=Zh (B1.out.setCell (p:=⟨w.heap.size,5,none⟩) (Zl) _);have OM:Hid (kA.Own (w1.setCell ⟨w.heap.size,5,none⟩ (.slice s1A s1n s1c)) W.heap.size (.slice s1A s1n s1c) nd.attrs):=Zh (O1.out.keep fun g hg=>Below.heap_setCell _ _ _ _ (by have:=(O1.out.lt hg).1;show g≠w.heap.size;omega));generalize w1.setCell ⟨w.heap.size,5,none⟩ (.slice s1A s1n s1c)=W1 at M0 M1 BM OM⊢;clear d5 d6 f5 L0 L1 B1 O1;refine(cloneInt_any nd.kids A2 n2 c2 W1 H1.out hn2 H4.out (H5.out.on BM.out)).mono ?_;rintro e w2 ⟨s2A,s2n,s2c,rfl,o2,b2⟩;have hz2:w.heap.size<W1.heap.size:=heap_lt M0.out;have hz3:w.heap.size+1<W1.heap.size:=heap_lt M1.out;have O2:=Zh o2;have OA:=Zh (OM.out.below b2 (Zl));have B2:=Zh (BM.out.trans (b2.mono BM.out.size));have N0:Hid (w2.heap[w.heap.size]? = _):=Zh ((b2.block _ hz2).trans M0.out);have N1:Hid (w2.heap[w.heap.size+1]? = _):=Zh ((b2.block _ hz3).trans M1.out);have hz4:w.heap.size+1<w2.heap.size:=heap_lt N1.out;have e0:w2.cell? ⟨w.heap.size,0,none⟩=some (.int .i64 nd.id):=cell_of_row w2 _ 0 _ _ (0,0) N0.out;have e1:w2.cell? ⟨w.heap.size,1,none⟩=some (.int .i64 nd.par):=cell_of_row w2 _ 1 _ _ (0,0) N0.out;have e2:w2.cell? ⟨w.heap.size,2,none⟩=some (.string nd.tag):=cell_of_row w2 _ 2 _ _ (0,0) N0.out;have e3:w2.cell? ⟨w.heap.size,3,none⟩=some (.string nd.txt):=cell_of_row w2 _ 3 _ _ (0,0) N0.out;have e4:w2.cell? ⟨w.heap.size,4,none⟩=some (.string nd.key):=cell_of_row w2 _ 4 _ _ (0,0) N0.out;have e5:w2.cell? ⟨w.heap.size,5,none⟩=some (.slice s1A s1n s1c):=cell_of_row w2 _ 5 _ _ (0,0) N0.out;have e6:w2.cell? ⟨w.heap.size,6,none⟩=some (.slice A2 n2 c2):=cell_of_row w2 _ 6 _ _ (0,0) N0.out;have e7:w2.cell? ⟨w.heap.size,7,none⟩=some (.int .i64 nd.note):=cell_of_row w2 _ 7 _ _ (0,0) N0.out;have g6:w2.frozen? ⟨w.heap.size,6,none⟩=false:=(by have hb:=N0.out;simp[World.frozen?,hb]);have r0:w2.cell? ⟨w.heap.size+1,0,none⟩=some (.int .i64 0):=cell_of_row w2 _ 0 _ _ (0,0) N1.out;have r1:w2.cell? ⟨w.heap.size+1,1,none⟩=some (.int .i64 0):=cell_of_row w2 _ 1 _ _ (0,0) N1.out;have r2:w2.cell? ⟨w.heap.size+1,2,none⟩=some (.string ⟨#[]⟩):=cell_of_row w2 _ 2 _ _ (0,0) N1.out;have r3:w2.cell? ⟨w.heap.size+1,3,none⟩=some (.string ⟨#[]⟩):=cell_of_row w2 _ 3 _ _ (0,0) N1.out;have r4:w2.cell? ⟨w.heap.size+1,4,none⟩=some (.string ⟨#[]⟩):=cell_of_row w2 _ 4 _ _ (0,0) N1.out;have r5:w2.cell? ⟨w.heap.size+1,5,none⟩=some (.slice none 0 0):=cell_of_row w2 _ 5 _ _ (0,0) N1.out
 have r6:w2.cell? ⟨w.heap.size+1,6,none⟩=some (.slice none 0 0):=cell_of_row w2 _ 6 _ _ (0,0) N1.out;have r7:w2.cell? ⟨w.heap.size+1,7,none⟩=some (.int .i64 0):=cell_of_row w2 _ 7 _ _ (0,0) N1.out;have rf:∀i,w2.frozen? ⟨w.heap.size+1,i,none⟩=false:=fun i=>by have hb:=N1.out;simp[World.frozen?,hb]
 clear o2 b2 M0 M1 BM OM hz2 hz0;go_wp2_with fail;refine bodyPost_ret (v:=.agg #[.int .i64 nd.id,.int .i64 nd.par,.string nd.tag,.string nd.txt,.string nd.key,.slice s1A s1n s1c,.slice s2A s2n s2c,.int .i64 nd.note]) (by simp[results,Tryz.results89,go_sem,e0,e1,e2,e3,e4,e5,e6,e7,r0,r1,r2,r3,r4,r5,r6,r7,hz4]) rfl ?_;refine own_end B2.out OA.out O2.out hz1 hz3 ?_;exact But.setCell (But.setCell (But.setCell (But.setCell (But.setCell (But.setCell (But.setCell (But.setCell (But.setCell (But.refl _ _) (fun _=> .inl rfl) _) (fun _=> .inr rfl) _) (fun _=> .inr rfl) _) (fun _=> .inr rfl) _) (fun _=> .inr rfl) _) (fun _=> .inr rfl) _) (fun _=> .inr rfl) _) (fun _=> .inr rfl) _) (fun _=> .inr rfl) _
theorem setOne{a w:World}{g i:Nat}{u:Value}(h:But (fun k=>k=g) a w):But (fun k=>k=g) a (w.setCell ⟨g,i,none⟩ u):=But.setCell h (fun _=>rfl) u
theorem one_end{w w2 wf:World}(hB:Below w.heap.size w w2)(hb:But (fun k=>k=w.heap.size) w2 wf):Below w.heap.size w wf:=hB.trans (hb.to_below (fun i _ hi=>by omega) hB.size)
theorem tell_no(y:Int)(w:World)(hy:hasL x.l y=false)(h:Dc w B p x):Calls Tryz.prog 54 #[.pointer (some ⟨p,0,none⟩),.int .i64 y] w fun e w'=>e = .returned (.tuple #[.agg #[.int .i64 0,.int .i64 0,.string ⟨#[]⟩,.string ⟨#[]⟩,.string ⟨#[]⟩,.slice none 0 0,.slice none 0 0,.int .i64 0],.bool false])∧Below w.heap.size w w':=by
 have H:=Zh h;have HY:=Zh hy;have c0:=h.c0;have hlt:=h.lt (.inl rfl:foot p x p);clear h hy;go_enter Tryz.func54,Tryz.ntmps54;go_wp2_with fail;refine(getP_no y _ (by rw[H.out.has_slot];exact HY.out) (H.out.alloc _).ar).mono ?_;rintro e w1 ⟨rfl,b1⟩;have B1:=Zh ((((Below.refl _ w).alloc (Zl) _)).trans (b1.mono (by simp)));have BLK:Hid (w1.heap[w.heap.size]? = some (.cells #[.int .i64 0,.int .i64 0,.string ⟨#[]⟩,.string ⟨#[]⟩,.string ⟨#[]⟩,.slice none 0 0,.slice none 0 0,.int .i64 0] 48 (0,0))):=Zh ((b1.block _ (by simp)).trans (heap_alloc_new w _));have hz4:w.heap.size<w1.heap.size:=heap_lt BLK.out;have r0:w1.cell? ⟨w.heap.size,0,none⟩=some (.int .i64 0):=cell_of_row w1 _ 0 _ _ (0,0) BLK.out;have r1:w1.cell? ⟨w.heap.size,1,none⟩=some (.int .i64 0):=cell_of_row w1 _ 1 _ _ (0,0) BLK.out;have r2:w1.cell? ⟨w.heap.size,2,none⟩=some (.string ⟨#[]⟩):=cell_of_row w1 _ 2 _ _ (0,0) BLK.out;have r3:w1.cell? ⟨w.heap.size,3,none⟩=some (.string ⟨#[]⟩):=cell_of_row w1 _ 3 _ _ (0,0) BLK.out;have r4:w1.cell? ⟨w.heap.size,4,none⟩=some (.string ⟨#[]⟩):=cell_of_row w1 _ 4 _ _ (0,0) BLK.out;have r5:w1.cell? ⟨w.heap.size,5,none⟩=some (.slice none 0 0):=cell_of_row w1 _ 5 _ _ (0,0) BLK.out;have r6:w1.cell? ⟨w.heap.size,6,none⟩=some (.slice none 0 0):=cell_of_row w1 _ 6 _ _ (0,0) BLK.out;have r7:w1.cell? ⟨w.heap.size,7,none⟩=some (.int .i64 0):=cell_of_row w1 _ 7 _ _ (0,0) BLK.out;have rf:∀i,w1.frozen? ⟨w.heap.size,i,none⟩=false:=fun i=>by have hb:=BLK.out;simp[World.frozen?,hb]
 clear b1;go_wp2_with fail;refine bodyPost_ret (v:=.tuple #[.agg #[.int .i64 0,.int .i64 0,.string ⟨#[]⟩,.string ⟨#[]⟩,.string ⟨#[]⟩,.slice none 0 0,.slice none 0 0,.int .i64 0],.bool false]) (by simp[results,Tryz.results54,go_sem,r0,r1,r2,r3,r4,r5,r6,r7,hz4]) rfl ⟨rfl,one_end B1.out ?_⟩;exact setOne (setOne (setOne (setOne (setOne (setOne (setOne (setOne (But.refl _ _))))))))
def Tells(w:World)(nd:Nd)(e:Ending)(w':World):Prop:=
 ∃A n c A2 n2 c2,e = .returned (.tuple #[.agg #[.int .i64 nd.id,.int .i64 nd.par,.string nd.tag,.string nd.txt,.string nd.key,.slice A n c,.slice A2 n2 c2,.int .i64 nd.note],.bool true])∧AOk w' ⟨A,n,c⟩ nd.attrs∧kI.Own w' w.heap.size (.slice A2 n2 c2) nd.kids∧Below w.heap.size w w'
theorem tell_end{w w2 wf:World}{nd:Nd}{A A2:Option Addr}{n c n2 c2:Nat}{D:Nat}(hB:Below w.heap.size w w2)(hD:w.heap.size<D)(hA:AOk w2 ⟨A,n,c⟩ nd.attrs)(hK:kI.Own w2 D (.slice A2 n2 c2) nd.kids)
 (hz:∃cur,w2.heap[w.heap.size]? = some (.cells cur 48 (0,0))) (hb:But (fun k=>k=w.heap.size) w2 wf):Tells w nd (.returned (.tuple #[.agg #[.int .i64 nd.id,.int .i64 nd.par,.string nd.tag,.string nd.txt,.string nd.key,.slice A n c,.slice A2 n2 c2,.int .i64 nd.note],.bool true])) wf:=by
 obtain⟨cur,hc⟩:=hz;refine⟨_,_,_,_,_,_,rfl,hA.but hb ?_,(hK.but hb (fun g hg e=>by have:=(hK.lt hg).1;omega)).base_le (by omega),one_end hB hb⟩;rintro k c f rfl hk;exact heap_ne hc hk (by decide) rfl
theorem tell_yes(y:Int){k:Nat}{nd:Nd}(w:World)(hk:k<x.rs.length)(hy:x.rs[k].nd.id=y)(hn:x.rs[k].nd=nd)(hal:nd.attrs.length≤1000)(hkl:nd.kids.length≤1000)(h:Dc w B p x):
 Calls Tryz.prog 54 #[.pointer (some ⟨p,0,none⟩),.int .i64 y] w (Tells w nd):=by
 have H:=Zh h;have hnd:=h.nd hk;obtain⟨b,hb⟩:∃b,x.rs[k].b=b:=⟨_,rfl⟩;have HY:=Zh hy;have HB:=Zh hb;have c0:=h.c0;have hlt:=h.lt (.inl rfl:foot p x p);have HS:Hid (∃A n c A2 n2 c2,w.heap[b]? = some (.cells #[.int .i64 nd.id,.int .i64 nd.par,.string nd.tag,.string nd.txt,.string nd.key,.slice A n c,.slice A2 n2 c2,.int .i64 nd.note] 48 (0,0))∧AOk w ⟨A,n,c⟩ nd.attrs∧kI.Own w B (.slice A2 n2 c2) nd.kids):=Zh (by
  subst hn;subst hb;exact⟨_,_,_,_,_,_,hnd.blk,hnd.att,hnd.kids⟩)
 obtain⟨A,n,c,A2,n2,c2,hblk,hatt,hkids⟩:=HS.out;have NB:=Zh hblk;have HA:=Zh hatt;have HK:=Zh hkids;clear h hy hn hb hnd HS hblk hatt hkids;go_enter Tryz.func54,Tryz.ntmps54;go_wp2_with fail;refine(getP_at y k (x:=b) _ (l:=x.rs.map slotOf) (by simpa using hk) (by simp[slotOf,HY.out]) (by simp[slotOf,HB.out]) (H.out.alloc _).ar).mono ?_;rintro e w1 ⟨rfl,b1⟩;have B1:=Zh ((((Below.refl _ w).alloc (Zl) (.cells #[.int .i64 0,.int .i64 0,.string ⟨#[]⟩,.string ⟨#[]⟩,.string ⟨#[]⟩,.slice none 0 0,.slice none 0 0,.int .i64 0] 48))).trans (b1.mono (by simp)));have N1:Hid (w1.heap[b]? = _):=Zh ((B1.out.block b (heap_lt NB.out)).trans NB.out);have BLK1:Hid (w1.heap[w.heap.size]? = some (.cells #[.int .i64 0,.int .i64 0,.string ⟨#[]⟩,.string ⟨#[]⟩,.string ⟨#[]⟩,.slice none 0 0,.slice none 0 0,.int .i64 0] 48 (0,0))):=Zh ((b1.block _ (by simp)).trans (heap_alloc_new w _));have hz4:w.heap.size<w1.heap.size:=heap_lt BLK1.out;have e0:w1.cell? ⟨b,0,none⟩=some (.int .i64 nd.id):=cell_of_row w1 _ 0 _ _ (0,0) N1.out;have e1:w1.cell? ⟨b,1,none⟩=some (.int .i64 nd.par):=cell_of_row w1 _ 1 _ _ (0,0) N1.out;have e2:w1.cell? ⟨b,2,none⟩=some (.string nd.tag):=cell_of_row w1 _ 2 _ _ (0,0) N1.out;have e3:w1.cell? ⟨b,3,none⟩=some (.string nd.txt):=cell_of_row w1 _ 3 _ _ (0,0) N1.out;have e4:w1.cell? ⟨b,4,none⟩=some (.string nd.key):=cell_of_row w1 _ 4 _ _ (0,0) N1.out;have e5:w1.cell? ⟨b,5,none⟩=some (.slice A n c):=cell_of_row w1 _ 5 _ _ (0,0) N1.out;have e6:w1.cell? ⟨b,6,none⟩=some (.slice A2 n2 c2):=cell_of_row w1 _ 6 _ _ (0,0) N1.out;have e7:w1.cell? ⟨b,7,none⟩=some (.int .i64 nd.note):=cell_of_row w1 _ 7 _ _ (0,0) N1.out;clear b1;go_wp2_with fail;refine(own_any (B:=B) nd w1 (HA.out.below B1.out) hal hkl (HK.out.below B1.out (Zl))).mono ?_;rintro e w2 ⟨A',n',c',A2',n2',c2',rfl,a2,o2,b2⟩;have B2:=Zh (B1.out.trans (b2.mono B1.out.size));have BLK:Hid (w2.heap[w.heap.size]? = some (.cells #[.int .i64 0,.int .i64 0,.string ⟨#[]⟩,.string ⟨#[]⟩,.string ⟨#[]⟩,.slice none 0 0,.slice none 0 0,.int .i64 0] 48 (0,0))):=Zh ((b2.block _ hz4).trans BLK1.out);have HA2:=Zh a2;have HK2:=Zh o2;have hz5:w.heap.size<w2.heap.size:=heap_lt BLK.out;have r0:w2.cell? ⟨w.heap.size,0,none⟩=some (.int .i64 0):=cell_of_row w2 _ 0 _ _ (0,0) BLK.out;have r1:w2.cell? ⟨w.heap.size,1,none⟩=some (.int .i64 0):=cell_of_row w2 _ 1 _ _ (0,0) BLK.out;have r2:w2.cell? ⟨w.heap.size,2,none⟩=some (.string ⟨#[]⟩):=cell_of_row w2 _ 2 _ _ (0,0) BLK.out;have r3:w2.cell? ⟨w.heap.size,3,none⟩=some (.string ⟨#[]⟩):=cell_of_row w2 _ 3 _ _ (0,0) BLK.out;have r4:w2.cell? ⟨w.heap.size,4,none⟩=some (.string ⟨#[]⟩):=cell_of_row w2 _ 4 _ _ (0,0) BLK.out;have r5:w2.cell? ⟨w.heap.size,5,none⟩=some (.slice none 0 0):=cell_of_row w2 _ 5 _ _ (0,0) BLK.out;have r6:w2.cell? ⟨w.heap.size,6,none⟩=some (.slice none 0 0):=cell_of_row w2 _ 6 _ _ (0,0) BLK.out;have r7:w2.cell? ⟨w.heap.size,7,none⟩=some (.int .i64 0):=cell_of_row w2 _ 7 _ _ (0,0) BLK.out;have rf:∀i,w2.frozen? ⟨w.heap.size,i,none⟩=false:=fun i=>by have hb:=BLK.out;simp[World.frozen?,hb]
 clear a2 o2 b2 e0 e1 e2 e3 e4 e5 e6 e7;go_wp2_with fail;refine bodyPost_ret (v:=.tuple #[.agg #[.int .i64 nd.id,.int .i64 nd.par,.string nd.tag,.string nd.txt,.string nd.key,.slice A' n' c',.slice A2' n2' c2',.int .i64 nd.note],.bool true]) (by simp[results,Tryz.results54,go_sem,r0,r1,r2,r3,r4,r5,r6,r7,hz5]) rfl ?_;refine tell_end B2.out hz4 HA2.out HK2.out ⟨_,BLK.out⟩ ?_;exact setOne (setOne (setOne (setOne (setOne (setOne (setOne (setOne (But.refl _ _))))))))
end P5
end Go.Proofs.YtaklfomaibchnaaGreat
