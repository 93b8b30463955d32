/- A part of what the claimed theorem hangs on. No condition but those stated. -/
import Derived.Deep.RegionHeld3
import Derived.Deep.Cut
import Derived.Test.YtaklfomaibchnaaGreatM1
import Derived.Test.YtaklfomaibchnaaGreatM2
import Derived.Test.YtaklfomaibchnaaGreatM3
import Derived.Test.YtaklfomaibchnaaGreatM5
import Derived.Test.YtaklfomaibchnaaGreatM6
set_option linter.unusedVariables false
set_option linter.unusedSimpArgs false
set_option maxRecDepth 100000
set_option maxHeartbeats 40000000
namespace Go.Proofs.YtaklfomaibchnaaGreat
namespace P19
open P5 P6 P11 P12 P14 P16
structure PcOk(s:Sg)(par:Int)(ids:List Int)(beh:Int)(want:List PW):Prop where
 wf:WF s.1
 may:MayD s.1
 p0:par≠0
 hp:hasL s.1.l par=true
 el:want=[]∨noKids (tagOf s.1.l par)=false
 kids:Kids s par ids
 nod:ids.Nodup
 beh:beh=0∨(hasL s.1.l beh=true∧parOf s.1.l beh=par∧beh∉ids)
 wfw:∀x∈want,WfW x
 gd:∀x∈want,GoW x
 room:s.1.l.length+cntL want≤s.1.R
theorem PcOk.j0{s:Sg}{par beh:Int}{ids:List Int}{want:List PW}(h:PcOk s par ids beh want):J0 s par:=⟨h.wf,h.p0,h.hp⟩
def allB(ids:List Int)(beh:Int):List Int:=if beh=0 then ids else beh:: ids
theorem allB_sub(ids:List Int)(beh:Int):∀i∈ids,i∈allB ids beh:=fun i hi=>by
 unfold allB;split
 ·exact hi
 ·exact List.mem_cons_of_mem _ hi
theorem PcOk.jn{s:Sg}{par beh:Int}{ids:List Int}{want:List PW}(h:PcOk s par ids beh want):Jn s par (allB ids beh) s:=by
 refine⟨⟨h.wf,Stays.refl _ _,fun i hi=>?_⟩,Tg.refl _,h.may⟩;unfold allB at hi;split at hi
 ·exact h.kids i hi
 ·rename_i hb;rcases List.mem_cons.1 hi with rfl|hi
  ·rcases h.beh with e|⟨e1,e2,_⟩
   ·exact absurd e hb
   ·exact⟨e1,e2⟩
  ·exact h.kids i hi
theorem el_parts{x:PW}(h:WfW x)(h1:x.kind=1):x.tag.toList≠[]∧mayMake x.tag x.txt x.key=true∧(x.kids=[]∨noKids x.tag=false):=by
 have ne:∀{a:ByteArray},P1.nameB a.data.toList=true→a.toList≠[]:=fun {a} h e=>by
  rw[ByteArray.toList_eq] at e;rw[e] at h;cases h
 have vn:∀{l:List UInt8},P1.voidB l=true→P1.nameB l=true:=fun {l} h=>by
  unfold P1.voidB at h;simp only[Bool.or_eq_true,beq_iff_eq] at h;rcases h with((h|h)|h)|h<;>rw[h]<;>decide
 have z:(z0:ByteArray).toList=[]:=ByteArray.toList_eq _;have mk:∀{a b:ByteArray},P1.nameB a.data.toList=true→P1.textB b.data.toList=true→mayMake a z0 b=true:=fun {a b} h1 h2=>by
  unfold mayMake;rw[if_neg (ne h1),h1,h2,z];rfl
 cases h with
 |@el tag key attrs kids hm _ _=>
  have hv:=may_open hm;simp only[mayI,if_true,Bool.and_eq_true,Bool.not_eq_true'] at hm;refine⟨ne hm.1.1,mk hm.1.1 hm.2,.inr ?_⟩;show noKids tag=false;unfold noKids;rw[hv,decide_eq_false (ne hm.1.1)];rfl
 |@vo tag key attrs hm _=>
  have e:mayI ⟨3,tag,key⟩=(P1.voidB tag.data.toList&&P1.textB key.data.toList):=(by simp[mayI]);rw[e,Bool.and_eq_true] at hm;exact⟨ne (vn hm.1),mk (vn hm.1) hm.2,.inl rfl⟩
 |tx=>exact absurd h1 (by show¬(2:Int)=1;decide)
 |nd=>exact absurd h1 (by decide)
 |al=>exact absurd h1 (by decide)
theorem tx_parts{x:PW}(h:WfW x)(h2:x.kind=2):P1.textB x.txt.data.toList=true∧mayMake x.tag x.txt x.key=true∧x.attrs=[]:=by
 have z:(z0:ByteArray).toList=[]:=ByteArray.toList_eq _;cases h with
 |@tx t hm=>
  have e:mayI ⟨4,t,z0⟩=(P1.textB t.data.toList&&(z0:ByteArray).toList.isEmpty):=(by simp[mayI]);rw[e,Bool.and_eq_true] at hm;refine⟨hm.1,?_,rfl⟩;show mayMake z0 t z0=true;unfold mayMake;rw[if_pos z,hm.1,z];rfl
 |el=>exact absurd h2 (by show¬(1:Int)=2;decide)
 |vo=>exact absurd h2 (by show¬(1:Int)=2;decide)
 |nd=>exact absurd h2 (by decide)
 |al=>exact absurd h2 (by decide)
theorem pc_below{s3:Sg}{id:Int}{x:PW}(hw:WF s3.1)(hm:MayD s3.1)(hh:hasL s3.1.l id=true)(ht:tagOf s3.1.l id=x.tag∨(tagOf s3.1.l id).toList=x.tag.toList)(hx:WfW x)(hg:GoW x)(h1:x.kind=1)(hr:s3.1.l.length+cntL x.kids≤s3.1.R):PcOk s3 id (kidsOf s3.1.l id) 0 x.kids:=by
 obtain⟨k1,k2⟩:=kids_ok hw id;refine⟨hw,hm,hw.tr.ne0 hh,hh,?_,k1,k2,.inl rfl,wfw_kids hx,hg.ks,hr⟩;rcases(el_parts hx h1).2.2 with e|e
 ·exact .inl e
 ·refine .inr ?_;have he:(tagOf s3.1.l id).toList=x.tag.toList:=by
   rcases ht with h|h
   ·rw[h]
   ·exact h
  have hd:(tagOf s3.1.l id).data.toList=x.tag.data.toList:=(by rw[←ByteArray.toList_eq,←ByteArray.toList_eq];exact he);unfold noKids at e⊢;rw[he,hd];exact e
theorem new_okJ{recOk:RecP}{s0 s:Sg}{par b:Int}{ids:List Int}{x:PW}(j0:J0 s0 par)(hk:noKids (tagOf s0.1.l par)=false)(h:Jn s0 par ids s)(hx:WfW x)(hg:GoW x)(h4:x.kind≠4)(h3:x.kind≠3)(hb:b=0∨b∈ids)(hr:s.1.l.length+cntW x≤s.1.R)
 (hrec:∀s3 id,PcOk s3 id (kidsOf s3.1.l id) 0 x.kids→recOk s3 id (kidsOf s3.1.l id) x.kids):NewOk recOk par b x s:=by
 have hwf:=h.lv.wf;have hkind:x.kind=1∨x.kind=2:=by
  rcases wfw_kind hx with e|e|e|e
  ·exact .inl e
  ·exact .inr e
  ·exact absurd e h3
  ·exact absurd e h4
 have hmk:mayMake x.tag x.txt x.key=true:=by
  rcases hkind with e|e
  ·exact(el_parts hx e).2.1
  ·exact(tx_parts hx e).2.1
 have hc:1≤cntW x:=by
  rcases hkind with e|e
  ·rw[cnt_el e];omega
  ·rw[cnt_tx e];exact Zl
 have o1:=okd_make (s:=s) hmk (by omega);have hm1:(doP s (recMake (s.1.n+1) x.tag x.txt x.key)).1 = {s.1 with l:=s.1.l++[newN (s.1.n+1) x.tag x.txt x.key],n:=s.1.n+1}:=by
  show(applyD s.1 (recMake (s.1.n+1) x.tag x.txt x.key)).2=_;unfold applyD;rw[if_pos (show(recMake (s.1.n+1) x.tag x.txt x.key).op=1 from rfl)];unfold makeD;rw[if_neg (show¬((recMake (s.1.n+1) x.tag x.txt x.key).id≠s.1.n+1∨mayMake (recMake (s.1.n+1) x.tag x.txt x.key).tag (recMake (s.1.n+1) x.tag x.txt x.key).txt (recMake (s.1.n+1) x.tag x.txt x.key).key=false) from ?_),if_neg (show¬s.1.R≤s.1.l.length by omega)]
  ·rfl
  ·rintro(e|e)
   ·exact e rfl
   ·have:mayMake x.tag x.txt x.key=false:=e;rw[hmk] at this;cases this
 have hnx:hasL s.1.l (newN (s.1.n+1) x.tag x.txt x.key).id=false:=hwf.next;have hf:∀y,find (doP s (recMake (s.1.n+1) x.tag x.txt x.key)).1.l y=if y=s.1.n+1 then some (newN (s.1.n+1) x.tag x.txt x.key) else find s.1.l y:=fun y=>by
  rw[hm1];exact find_new hnx y
 have w1:WF (doP s (recMake (s.1.n+1) x.tag x.txt x.key)).1:=doP_wf hwf _;have hkeep:∀y,hasL s.1.l y=true→hasL (doP s (recMake (s.1.n+1) x.tag x.txt x.key)).1.l y=true∧parOf (doP s (recMake (s.1.n+1) x.tag x.txt x.key)).1.l y=parOf s.1.l y:=fun y hy=>make_keeps s.1 (recMake (s.1.n+1) x.tag x.txt x.key) hwf hy
 have hnew:hasL (doP s (recMake (s.1.n+1) x.tag x.txt x.key)).1.l (s.1.n+1)=true:=by
  unfold hasL;rw[hf,if_pos rfl];rfl
 obtain⟨p1,p2⟩:=h.here j0;have hpn:par≠s.1.n+1:=fun e=>by
  have:=(hwf.pos p1).2;omega
 have hptag:tagOf (doP s (recMake (s.1.n+1) x.tag x.txt x.key)).1.l par=tagOf s0.1.l par:=by
  rw[←p2];unfold tagOf;rw[hf,if_neg hpn]
 have hn0:=hwf.n0;have o2:OkD (doP s (recMake (s.1.n+1) x.tag x.txt x.key)) (recPut (s.1.n+1) par b):=by
  refine okd_put ⟨hnew,(hkeep par p1).1,?_,leaf_not_above w1 hnew ?_ hpn,by omega,by rw[hptag];exact hk⟩
  ·rcases hb with e|e
   ·exact .inl e
   ·obtain⟨k1,k2⟩:=h.lv.kid b e;obtain⟨k3,k4⟩:=hkeep b k1;refine .inr ⟨k3,k4.trans k2,fun e2=>?_⟩;have:=(hwf.pos k1).2;omega
  ·unfold kidsOf;rw[hf,if_pos rfl];rfl
 have w2:WF (new2 par b x s).1:=doP_wf w1 _;have h2:hasL (new2 par b x s).1.l (s.1.n+1)=true:=((put_par_ (p:=par) w1 (s.1.n+1) b).1 (s.1.n+1)).trans hnew;have t2:tagOf (new2 par b x s).1.l (s.1.n+1)=x.tag:=by
  have:=((tg_apply w1 (recPut (s.1.n+1) par b)).tag (s.1.n+1) (w1.pos hnew).2 h2).2.1;refine this.trans ?_;unfold tagOf;rw[hf,if_pos rfl];rfl
 have m2:MayD (new2 par b x s).1:=cl_do may_cl (cl_do may_cl h.may _) _;have o3:P3.newA x.attrs≠[]→OkD (new2 par b x s) (recAttr (s.1.n+1) (P3.newA x.attrs)):=fun hne=>by
  refine okd_attr h2 ?_ (P3.newA_may hg.att);rw[t2];rcases hkind with e|e
  ·exact(el_parts hx e).1
  ·rw[(tx_parts hx e).2.2] at hne;exact absurd rfl hne
 have g1:Tg s.1 (doP s (recMake (s.1.n+1) x.tag x.txt x.key)).1:=tg_apply hwf _;have g2:Tg s.1 (new2 par b x s).1:=g1.trans (tg_apply w1 _);have e3:WF (new3 par b x s).1∧hasL (new3 par b x s).1.l (s.1.n+1)=true∧tagOf (new3 par b x s).1.l (s.1.n+1)=x.tag∧MayD (new3 par b x s).1∧(new3 par b x s).1.R=s.1.R:=by
  unfold new3;split
  ·exact⟨w2,h2,t2,m2,g2.room⟩
  ·have hh:hasL (doP (new2 par b x s) (recAttr (s.1.n+1) (P3.newA x.attrs))).1.l (s.1.n+1)=true:=((attrs_same (new2 par b x s).1 (s.1.n+1) (P3.newA x.attrs)).1 _).trans h2;have g3:=tg_apply w2 (recAttr (s.1.n+1) (P3.newA x.attrs));exact⟨doP_wf w2 _,hh,((g3.tag (s.1.n+1) (w2.pos h2).2 hh).2.1).trans t2,cl_do may_cl m2 _,g3.room.trans g2.room⟩
 refine⟨o1,o2,o3,fun h1=>hrec _ _ ?_⟩;obtain⟨q1,q2,q3,q4,q5⟩:=e3;have hl:=room_new3 par b x s;rw[cnt_el h1] at hr;exact pc_below q1 q4 q2 (.inl q3) hx hg h1 (by omega)
theorem nd_of{l:List Nd}{a:Int}(h:hasL l a=true):find l a=some (ndOf l a):=by
 unfold hasL at h;unfold ndOf;cases hf:find l a with
 |none=>rw[hf] at h;cases h
 |some x=>rfl
theorem taken_okJ{recOk:RecP}{s0 s:Sg}{par:Int}{ids:List Int}{x:PW}(j0:J0 s0 par)(h:Jn s0 par ids s){a:Int}(ha:a∈ids)(hx:WfW x)(hg:GoW x)(ht1:x.kind=1→(tagOf s.1.l a).toList=x.tag.toList)(ht2:x.kind=2→(tagOf s.1.l a).toList=[])(hr:s.1.l.length+cntW x≤s.1.R)
 (hrec:∀s3 id,PcOk s3 id (kidsOf s3.1.l id) 0 x.kids→recOk s3 id (kidsOf s3.1.l id) x.kids):TakenOk recOk x a s:=by
 obtain⟨k1,k2⟩:=h.lv.kid a ha;refine⟨fun h2 _=>okd_text k1 (ht2 h2) (tx_parts hx h2).1,fun h1=>?_⟩;have hm:P3.mayA (ndOf s.1.l a).attrs=true:=h.may _ (find_some (nd_of k1)).1;have hne:(tagOf s.1.l a).toList≠[]:=(by rw[ht1 h1];exact(el_parts hx h1).1);have hj:=P3.joinA_may hm hg.att;refine⟨fun _=>okd_attr k1 hne hj,hrec _ _ ?_⟩;have e3:WF (tak3 x a s).1∧hasL (tak3 x a s).1.l a=true∧tagOf (tak3 x a s).1.l a=tagOf s.1.l a∧MayD (tak3 x a s).1∧(tak3 x a s).1.R=s.1.R:=by
  unfold tak3;split
  ·have hh:hasL (doP s (recAttr a (P3.joinA (ndOf s.1.l a).attrs x.attrs))).1.l a=true:=((attrs_same s.1 a (P3.joinA (ndOf s.1.l a).attrs x.attrs)).1 _).trans k1;have g3:=tg_apply h.lv.wf (recAttr a (P3.joinA (ndOf s.1.l a).attrs x.attrs));exact⟨doP_wf h.lv.wf _,hh,(g3.tag a (h.lv.wf.pos k1).2 hh).2.1,cl_do may_cl h.may _,g3.room⟩
  ·exact⟨h.lv.wf,k1,rfl,h.may,rfl⟩
 obtain⟨q1,q2,q3,q4,q5⟩:=e3;have hl:=room_tak3 x a s;rw[cnt_el h1] at hr;exact pc_below q1 q4 q2 (.inr (by rw[q3];exact ht1 h1)) hx hg h1 (by omega)
section
variable{rec:Rec}{s0 s:Sg}{par beh:Int}{ids ids':List Int}{want:List PW}{old:List Ol}
theorem lvB_step(R:RecOk19 rec)(h0:WF s0.1)(hp:par≠0)(hsub:∀i∈ids,i∈ids'){p:Sg×List Int}(hl:∀c∈p.2,c∈ids)(h:Lv s0 par ids' p.1)(x:PW)(t:Int)(ht:x.kind≠4→0≤t→ids.getD t.toNat 0∈ids):Lv s0 par ids' (stepW rec par beh ids x t p).1:=by
 unfold stepW;split
 ·exact h
 rename_i h4;split
 ·rename_i h0t;have hm:=h.move h0 (fun c hc=>hsub c (hl c hc)) beh (ids.getD t.toNat 0) (p.2.idxOf (ids.getD t.toNat 0)) (hsub _ (ht h4 h0t));simp only;split
  ·exact hm
  ·exact hm.taken R h0 hp (hsub _ (ht h4 h0t)) x
 split
 ·exact h
 ·exact h.new R h0 _ x
theorem lvB_all(R:RecOk19 rec)(h0:WF s.1)(hp:par≠0)(hk:Kids s par ids)(hd:ids.Nodup)(ho:old.length=ids.length)(hsub:∀i∈ids,i∈ids')(hb:Lv s par ids' s):∀i,i≤want.length→Lv s par ids' (atW rec par beh ids old want s i).1
 |0,_=>hb
 |i+1,hi=>by
  have hi':i<want.length:=(by omega);have hA:=at_all (want:=want) (beh:=beh) R h0 hp hk hd ho i (by omega);rw[atW_succ hi'];refine lvB_step R h0 hp hsub (fun c hc=>?_) (lvB_all R h0 hp hk hd ho hsub hb i (by omega)) _ _ (fun h4 h0t=>?_)
  ·rw[hA.left] at hc;exact(selF_sub _ _).subset hc
  ·obtain⟨j,a,e1,e2,_,_⟩:=taken_at ho hi' h0t;rw[getD_at e1 e2];exact List.mem_of_getElem? e2
end
theorem tgw_cl(d0:D):Cl (fun d=>WF d∧Tg d0 d):=fun _ r h=>⟨wf_apply h.1 r,h.2.trans (tg_apply h.1 r)⟩
theorem patch_noerr:∀(f:Nat) {s:Sg} {par:Int} {ids:List Int} {beh:Int} {want:List PW},dL want≤f→PcOk s par ids beh want→PatchOk (f+1) s par ids beh want:=by
 intro f
 induction f with
 |zero=>
  intro s par ids beh want hf h;have he:want=[]:=by
   cases want with
   |nil=>rfl
   |cons x r=>
    rw[dL,dW_kids] at hf;omega
  subst he;refine⟨fun i hi=>absurd hi (by simp),gones_okJ h.j0 _ h.jn (fun i hi=>allB_sub ids beh i hi) h.nod⟩
 |succ f ih=>
  intro s par ids beh want hf h;have j0:=h.j0;have R:=rec_ok (f+1);have hAt:=fun i (hi:i≤want.length)=>at_all (want:=want) (beh:=beh) (old:=ids.map (oldOf s.1.l)) R h.wf h.p0 h.kids h.nod (by simp) i hi
  have hJn:∀i,i≤want.length→Jn s par (allB ids beh) (atW (fun s i ks w=>patchP (f+1) s i ks 0 w) par beh ids (ids.map (oldOf s.1.l)) want s i).1:=fun i hi=>
   ⟨lvB_all R h.wf h.p0 h.kids h.nod (by simp) (allB_sub ids beh) h.jn.lv i hi,(cl_at (tgw_cl s.1) (rec_cl (tgw_cl s.1) (f+1)) (s:=s) ⟨h.wf,Tg.refl _⟩ i hi).2,cl_at may_cl (rec_cl may_cl (f+1)) (s:=s) h.may i hi⟩
  have hleft:∀i,i≤want.length→(∀c∈(atW (fun s i ks w=>patchP (f+1) s i ks 0 w) par beh ids (ids.map (oldOf s.1.l)) want s i).2,c∈ids)∧(atW (fun s i ks w=>patchP (f+1) s i ks 0 w) par beh ids (ids.map (oldOf s.1.l)) want s i).2.Nodup:=fun i hi=>by
   rw[(hAt i hi).left];exact⟨fun c hc=>(selF_sub _ _).subset hc,(selF_sub _ _).nodup h.nod⟩
  refine⟨fun i hi=>?_,gones_okJ j0 _ (hJn want.length (Zl)) (fun c hc=>allB_sub ids beh c ((hleft want.length (Zl)).1 c hc)) (hleft want.length (Zl)).2⟩;have hx:=h.wfw _ (List.getElem_mem hi);have hg:=h.gd _ (List.getElem_mem hi);have hk:noKids (tagOf s.1.l par)=false:=by
   rcases h.el with e|e
   ·subst e;simp at hi
   ·exact e
  have J:=hJn i (by omega);obtain⟨l1,l2⟩:=hleft i (by omega);have hr:(atW (fun s i ks w=>patchP (f+1) s i ks 0 w) par beh ids (ids.map (oldOf s.1.l)) want s i).1.1.l.length+cntW want[i]≤(atW (fun s i ks w=>patchP (f+1) s i ks 0 w) par beh ids (ids.map (oldOf s.1.l)) want s i).1.1.R:=by
   have h1:=room_at (par:=par) (beh:=beh) (ids:=ids) (old:=ids.map (oldOf s.1.l)) (s:=s) (room_rec (f+1)) h.wfw i (by omega);have h2:=cntL_mem hi;have h3:=h.room;rw[J.tg.room];omega
  have hrec:∀s3 id,PcOk s3 id (kidsOf s3.1.l id) 0 want[i].kids→PatchOk (f+1) s3 id (kidsOf s3.1.l id) 0 want[i].kids:=fun s3 id hp=>ih (by
   have:=Nat.le_trans (dL_at (List.getElem_mem hi)) hf;rw[dW_kids] at this;omega) hp
  have hbeh:beh=0∨beh∈allB ids beh∧beh∉ids:=by
   rcases h.beh with e|⟨_,_,e⟩
   ·exact .inl e
   ·by_cases h0:beh=0
    ·exact .inl h0
    ·exact .inr ⟨by unfold allB;rw[if_neg h0];simp,e⟩
  intro h4;refine⟨fun h0t=>?_,fun h0t h3=>?_⟩
  ·have hlen:(ids.map (oldOf s.1.l)).length=ids.length:=(by simp);obtain⟨j,a,e1,e2,e3,_⟩:=taken_at (old:=ids.map (oldOf s.1.l)) hlen hi h0t;rw[getD_at e1 e2];have hain:a∈ids:=List.mem_of_getElem? e2;have ham:a∈(atW (fun s i ks w=>patchP (f+1) s i ks 0 w) par beh ids (ids.map (oldOf s.1.l)) want s i).2:=by
    rw[(hAt i (by omega)).left];exact selF_mem e3 e2
   obtain⟨m1,m2⟩:=move_okJ j0 hk J (fun c hc=>allB_sub ids beh c (l1 c hc)) l2 ham (hbeh.imp id (fun⟨e,e'⟩=>⟨e,fun hc=>e' (l1 _ hc)⟩));refine⟨m1,fun h3=>?_⟩;have hat:=at_take (old:=ids.map (oldOf s.1.l)) hi;have h0t':=h0t;rw[hat] at h0t';obtain⟨j',o,fl,hj',e4,h1,_,htk⟩:=scanM_takes _ h0t';rw[←hat,e1] at e4;have ej:j=j':=(by omega);subst ej;have ho:o=oldOf s.1.l a:=by
    rw[List.getElem?_map,e2] at h1;exact(Option.some.inj h1).symm
   have hsa:hasL s.1.l a=true:=(h.kids a hain).1;have htag:tagOf (moveP (atW (fun s i ks w=>patchP (f+1) s i ks 0 w) par beh ids (ids.map (oldOf s.1.l)) want s i).1 par (atW (fun s i ks w=>patchP (f+1) s i ks 0 w) par beh ids (ids.map (oldOf s.1.l)) want s i).2 beh a ((atW (fun s i ks w=>patchP (f+1) s i ks 0 w) par beh ids (ids.map (oldOf s.1.l)) want s i).2.idxOf a)).1.1.l a=o.tag:=by
    rw[m2.tag j0 (allB_sub ids beh a hain) hsa,ho];unfold tagOf oldOf;have:=nd_of hsa;rw[this]
   have hrm:=room_move (atW (fun s i ks w=>patchP (f+1) s i ks 0 w) par beh ids (ids.map (oldOf s.1.l)) want s i).1 par (atW (fun s i ks w=>patchP (f+1) s i ks 0 w) par beh ids (ids.map (oldOf s.1.l)) want s i).2 beh a ((atW (fun s i ks w=>patchP (f+1) s i ks 0 w) par beh ids (ids.map (oldOf s.1.l)) want s i).2.idxOf a);have hRm:(moveP (atW (fun s i ks w=>patchP (f+1) s i ks 0 w) par beh ids (ids.map (oldOf s.1.l)) want s i).1 par (atW (fun s i ks w=>patchP (f+1) s i ks 0 w) par beh ids (ids.map (oldOf s.1.l)) want s i).2 beh a ((atW (fun s i ks w=>patchP (f+1) s i ks 0 w) par beh ids (ids.map (oldOf s.1.l)) want s i).2.idxOf a)).1.1.R=(atW (fun s i ks w=>patchP (f+1) s i ks 0 w) par beh ids (ids.map (oldOf s.1.l)) want s i).1.1.R:=m2.tg.room.trans J.tg.room.symm;unfold takesW at htk;refine taken_okJ j0 m2 (allB_sub ids beh a hain) hx hg (fun h1=>?_) (fun h2=>?_) (by rw[hRm];omega) hrec
   ·rw[if_pos h1] at htk;simp only[Bool.and_eq_true] at htk;rw[htag];unfold bq at htk;simpa using htk.1.1
   ·rw[if_neg (by omega),if_pos h2] at htk;simp only[Bool.and_eq_true] at htk;rw[htag];simpa using htk.2
  ·refine new_okJ j0 hk J hx hg h4 h3 ?_ hr hrec;cases hp2:(atW (fun s i ks w=>patchP (f+1) s i ks 0 w) par beh ids (ids.map (oldOf s.1.l)) want s i).2 with
   |nil=>exact hbeh.imp id (fun e=>e.1)
   |cons c r=>exact .inr (allB_sub ids beh c (l1 c (by rw[hp2];simp)))
end P19
namespace P8
open Go.RowKit Kd P4 P5
inductive PT where
 |mk (tag txt key:ByteArray) (attrs:List P3.At) (kids:List PT)
inductive TV where
 |mk (tag txt key:ByteArray) (sa:Sv) (attrs:List P3.At) (sk:Sv) (kids:List TV)
theorem TV.ind{Q:TV→Prop}(h:∀tag txt key sa attrs sk kids,(∀k∈kids,Q k)→Q (.mk tag txt key sa attrs sk kids))(t:TV):Q t:=
 TV.rec (motive_1:=Q) (motive_2:=fun l=>∀k∈l,Q k) (fun a b c d e f g ih=>h a b c d e f g ih) (fun _ hk=>by cases hk) (fun a l ha hl k hk=>by
  rcases List.mem_cons.1 hk with rfl|hk
  ·exact ha
  ·exact hl k hk) t
namespace TV
def tag:TV→ByteArray| .mk a _ _ _ _ _ _=>a
def txt:TV→ByteArray| .mk _ a _ _ _ _ _=>a
def key:TV→ByteArray| .mk _ _ a _ _ _ _=>a
def sa:TV→Sv| .mk _ _ _ a _ _ _=>a
def attrs:TV→List P3.At| .mk _ _ _ _ a _ _=>a
def sk:TV→Sv| .mk _ _ _ _ _ a _=>a
def kids:TV→List TV| .mk _ _ _ _ _ _ a=>a
end TV
namespace PT
def tag:PT→ByteArray| .mk a _ _ _ _=>a
end PT
mutual
def er:TV→PT
 | .mk tag txt key _ attrs _ kids=> .mk tag txt key attrs (erL kids)
def erL:List TV→List PT
 |[]=>[]
 |a:: l=>er a:: erL l
end
theorem erL_map:∀l:List TV,erL l=l.map er
 |[]=>by simp[erL]
 |a:: l=>by simp[erL,erL_map l]
mutual
def countP:PT→Nat
 | .mk _ _ _ _ kids=>countL kids+1
def countL:List PT→Nat
 |[]=>0
 |a:: l=>countP a+countL l
end
theorem count_pos(t:PT):1≤countP t:=by cases t;simp[countP]
theorem countL_append:∀l m:List PT,countL (l++m)=countL l+countL m
 |[],m=>by simp[countL]
 |a:: l,m=>by simp[countL,countL_append l m];omega
theorem countL_take{l:List PT}{k:Nat}(h:k<l.length):countL (l.take (k+1))=countL (l.take k)+countP l[k]:=by
 rw[List.take_add_one,List.getElem?_eq_getElem h,countL_append];simp[countL]
theorem countL_le(l:List PT)(k:Nat):countL (l.take k)≤countL l:=by
 have:=countL_append (l.take k) (l.drop k);rw[List.take_append_drop] at this;omega
theorem countL_at{l:List PT}{k:Nat}(h:k<l.length):countP l[k]≤countL l:=by
 have h1:=countL_take h;have h2:=countL_le l (k+1);omega
theorem len_le_count:∀l:List PT,l.length≤countL l
 |[]=>by simp[countL]
 |a:: l=>by have:=len_le_count l;have:=count_pos a;simp[countL];omega
mutual
def fewP:PT→Bool
 | .mk tag txt key attrs kids=>decide (tag.size≤100)&&decide (txt.size≤100)&&decide (key.size≤100)&&P3.fewA attrs&&fewL kids
def fewL:List PT→Bool
 |[]=>true
 |a:: l=>fewP a&&fewL l
end
theorem fewL_all:∀l:List PT,fewL l=l.all fewP
 |[]=>by simp[fewL]
 |a:: l=>by simp[fewL,fewL_all l]
theorem fewL_at{l:List PT}{k:Nat}(h:k<l.length)(h1:fewL l=true):fewP l[k]=true:=by
 rw[fewL_all,List.all_eq_true] at h1;exact h1 _ (List.getElem_mem h)
theorem few_wf{l:List P3.At}(h:P3.fewA l=true):P3.Wf l∧l.length≤20:=by
 unfold P3.fewA at h;rw[Bool.and_eq_true,List.all_eq_true] at h;refine⟨fun a ha=>?_,by simpa using h.1⟩;have:=h.2 a ha;unfold P3.shortA at this;simp at this;unfold maxLen;omega
mutual
def mayP:PT→Bool
 | .mk tag txt key attrs kids=>
   if tag.toList.isEmpty then P1.textB txt.data.toList&&key.toList.isEmpty&&attrs.isEmpty&&kids.isEmpty
   else P1.nameB tag.data.toList&&P1.textB key.data.toList&&P3.mayA attrs&&txt.toList.isEmpty && !(P1.voidB tag.data.toList && !kids.isEmpty)&&mayL kids
def mayL:List PT→Bool
 |[]=>true
 |a:: l=>mayP a&&mayL l
end
theorem mayL_all:∀l:List PT,mayL l=l.all mayP
 |[]=>by simp[mayL]
 |a:: l=>by simp[mayL,mayL_all l]
theorem mayL_bad{l:List PT}{k:Nat}(h:k<l.length)(hb:mayP l[k]=false):mayL l=false:=by
 rw[mayL_all];exact Bool.eq_false_iff.2 fun e=>by
  rw[List.all_eq_true] at e;have:=e _ (List.getElem_mem h);rw[hb] at this;cases this
theorem mayL_take{l:List PT}{k:Nat}(h:k<l.length)(h1:mayL (l.take k)=true)(h2:mayP l[k]=true):mayL (l.take (k+1))=true:=by
 rw[mayL_all] at h1⊢;rw[List.take_add_one,List.getElem?_eq_getElem h,List.all_append,h1];simp[h2]
end P8
namespace P8
open Go.RowKit Kd P4 P5
theorem infoT:(Tryz.prog.info? 56).map (fun i=>(i.zero,i.size,i.bytes))=some (some (.agg #[.string ⟨#[]⟩,.string ⟨#[]⟩,.string ⟨#[]⟩,.slice none 0 0,.slice none 0 0]),5,96):=by kernel_rfl
def TV.cells(a:TV):List Value:=[.string a.tag,.string a.txt,.string a.key,.slice a.sa.A a.sa.n a.sa.c,.slice a.sk.A a.sk.n a.sk.c]
def kT:Kind Tryz.prog TV where
 t:=54
 e:=56
 size:=5
 bytes:=96
 z:=.agg #[.string ⟨#[]⟩,.string ⟨#[]⟩,.string ⟨#[]⟩,.slice none 0 0,.slice none 0 0]
 cs:=TV.cells
 ht:=Tryz.underlying54
 info:=info_ex infoT
 hzs:=rfl
 hpos:=by decide
 hbb:=by decide
 len:=fun _=>rfl
 one:=fun a u hu=>by simp[TV.cells] at hu;rcases hu with rfl|rfl|rfl|rfl|rfl<;>rfl
theorem cell_of_trees{w:World}{B:Nat}{A:Option Addr}{l:List TV}(h:kT.Holds w B A l){k:Nat}(hk:k<l.length):
 ∃b o,A=some ⟨b,o,none⟩∧b<B∧w.cell? ⟨b,o+k*5,none⟩=some (.string l[k].tag)∧w.cell? ⟨b,o+k*5+1,none⟩=some (.string l[k].txt)∧w.cell? ⟨b,o+k*5+2,none⟩=some (.string l[k].key)∧
  w.cell? ⟨b,o+k*5+3,none⟩=some (.slice l[k].sa.A l[k].sa.n l[k].sa.c)∧w.cell? ⟨b,o+k*5+4,none⟩=some (.slice l[k].sk.A l[k].sk.n l[k].sk.c):=by
 obtain⟨b,o,rfl,hb,hc⟩:=h.at hk;exact⟨b,o,rfl,hb,hc 0 _ rfl,hc 1 _ rfl,hc 2 _ rfl,hc 3 _ rfl,hc 4 _ rfl⟩
inductive TOk(w:World)(C:Nat):TV→Prop
 |mk {tag txt key:ByteArray} {sa sk:Sv} {attrs:List P3.At} {kids:List TV} (al:attrs.length=sa.n) (ac:sa.n≤sa.c) (az:sa.A=none→sa.c=0) (ah:kA.Holds w C sa.A attrs)
  (kl:kids.length=sk.n) (kc:sk.n≤sk.c) (kz:sk.A=none→sk.c=0) (kh:kT.Holds w C sk.A kids) (ks:∀k∈kids,TOk w C k):TOk w C (.mk tag txt key sa attrs sk kids)
section
variable{w w':World}{C D:Nat}{t:TV}
theorem TOk.al(h:TOk w C t):t.attrs.length=t.sa.n:=by cases h;assumption
theorem TOk.ac(h:TOk w C t):t.sa.n≤t.sa.c:=by cases h;assumption
theorem TOk.az(h:TOk w C t):t.sa.A=none→t.sa.c=0:=by cases h;assumption
theorem TOk.ah(h:TOk w C t):kA.Holds w C t.sa.A t.attrs:=by cases h;assumption
theorem TOk.kl(h:TOk w C t):t.kids.length=t.sk.n:=by cases h;assumption
theorem TOk.kc(h:TOk w C t):t.sk.n≤t.sk.c:=by cases h;assumption
theorem TOk.kz(h:TOk w C t):t.sk.A=none→t.sk.c=0:=by cases h;assumption
theorem TOk.kh(h:TOk w C t):kT.Holds w C t.sk.A t.kids:=by cases h;assumption
theorem TOk.ks(h:TOk w C t):∀k∈t.kids,TOk w C k:=by cases h;assumption
theorem TOk.later(h:TOk w C t)(hb:Below D w w')(hC:C≤D):TOk w' C t:=by
 induction t using TV.ind with
 |h tag txt key sa attrs sk kids ih=>exact⟨h.al,h.ac,h.az,h.ah.below hb hC,h.kl,h.kc,h.kz,h.kh.below hb hC,fun k hk=>ih k hk (h.ks k hk)⟩
theorem TOk.more(h:TOk w C t)(hC:C≤D):TOk w D t:=by
 induction t using TV.ind with
 |h tag txt key sa attrs sk kids ih=>exact⟨h.al,h.ac,h.az,h.ah.more hC,h.kl,h.kc,h.kz,h.kh.more hC,fun k hk=>ih k hk (h.ks k hk)⟩
theorem TOk.on(h:TOk w w.heap.size t)(hb:Below w.heap.size w w'):TOk w' w'.heap.size t:=(h.later hb (Zl)).more hb.size
end
def TB(w:World)(s:Nat)(t:TV):Prop:=w.heap[s]? = some (.cells #[.string t.tag,.string t.txt,.string t.key,.slice t.sa.A t.sa.n t.sa.c,.slice t.sk.A t.sk.n t.sk.c] 56 (0,0))
section
variable{w w':World}{s C:Nat}{t:TV}
theorem TB.new(w:World)(t:TV):TB (w.alloc (.cells #[.string t.tag,.string t.txt,.string t.key,.slice t.sa.A t.sa.n t.sa.c,.slice t.sk.A t.sk.n t.sk.c] 56)) w.heap.size t:=heap_alloc_new w _
theorem TB.lt(h:TB w s t):s<w.heap.size:=heap_lt h
theorem TB.below(h:TB w s t)(hb:Below C w w')(hC:s<C):TB w' s t:=(hb.block s hC).trans h
theorem TB.c0(h:TB w s t):w.cell? ⟨s,0,none⟩=some (.string t.tag):=cell_of_row w s 0 _ _ (0,0) h
theorem TB.c1(h:TB w s t):w.cell? ⟨s,1,none⟩=some (.string t.txt):=cell_of_row w s 1 _ _ (0,0) h
theorem TB.c2(h:TB w s t):w.cell? ⟨s,2,none⟩=some (.string t.key):=cell_of_row w s 2 _ _ (0,0) h
theorem TB.c3(h:TB w s t):w.cell? ⟨s,3,none⟩=some (.slice t.sa.A t.sa.n t.sa.c):=cell_of_row w s 3 _ _ (0,0) h
theorem TB.c4(h:TB w s t):w.cell? ⟨s,4,none⟩=some (.slice t.sk.A t.sk.n t.sk.c):=cell_of_row w s 4 _ _ (0,0) h
end
end P8
namespace P17
open Go.RowKit Kd P4 P5 P11 P12 P13 P14 P16
section
variable{P:Program}{α:Type}{K:Kind P α}{w w':World}{Q R S:Nat→Prop}{A:Option Addr}{l:List α}{C:Nat}
end
section
variable{w w':World}{Q R S:Nat→Prop}{t:P8.TV}{C:Nat}
end
end P17
namespace P8
open Go.RowKit Kd P4 P5
theorem rmay8_any:∀(t:TV) (w:World),TOk w w.heap.size t→fewP (er t)=true→countP (er t)≤1000→Calls Tryz.prog 17 #[.agg #[.string t.tag,.string t.txt,.string t.key,.slice t.sa.A t.sa.n t.sa.c,.slice t.sk.A t.sk.n t.sk.c]] w fun e w'=>e = .returned (.bool (mayP (er t)))∧Below w.heap.size w w':=by
 intro t
 induction t using TV.ind with
 |h tag txt key sa attrs sk kids ih=>
  obtain⟨A,n,c⟩:=sa;obtain⟨A2,n2,c2⟩:=sk;intro w h hfew hcnt;have al:attrs.length=n:=h.al;have AH:Hid (kA.Holds w w.heap.size A attrs):=Zh h.ah;have KL:Hid (kids.length=n2):=Zh h.kl;have KH:Hid (kT.Holds w w.heap.size A2 kids):=Zh h.kh;have KS:Hid (∀k∈kids,TOk w w.heap.size k):=Zh h.ks;have B1:Hid (Below w.heap.size w (w.alloc (.cells #[.string tag,.string txt,.string key,.slice A n c,.slice A2 n2 c2] 56))):=Zh (Zb _ _);have N1:Hid (TB (w.alloc (.cells #[.string tag,.string txt,.string key,.slice A n c,.slice A2 n2 c2] 56)) w.heap.size (.mk tag txt key ⟨A,n,c⟩ attrs ⟨A2,n2,c2⟩ kids)):=Zh (TB.new w (.mk tag txt key ⟨A,n,c⟩ attrs ⟨A2,n2,c2⟩ kids));rw[er,fewP] at hfew;simp only[Bool.and_eq_true,decide_eq_true_eq] at hfew;obtain⟨⟨⟨⟨f1,f2⟩,f3⟩,f4⟩,f5⟩:=hfew;obtain⟨hwf,h20⟩:=few_wf f4;have hn20:n≤20:=(by omega);have m1:tag.size≤maxLen:=(by unfold maxLen;omega);have m2:txt.size≤maxLen:=(by unfold maxLen;omega);have m3:key.size≤maxLen:=(by unfold maxLen;omega);have F5:Hid (∀k (hk:k<kids.length),fewP (er kids[k])=true):=Zh (fun k hk=>by
   have hk':k<(erL kids).length:=(by rw[erL_map];simpa using hk);have:=fewL_at hk' f5;simpa[erL_map] using this)
  have AL:=Zh al;have HW:=Zh hwf;clear al hwf f4 f5;have CL:Hid (countL (erL kids)≤1000):=Zh (by rw[er,countP] at hcnt;omega);have hle:n2≤1000:=(by have h1:=len_le_count (erL kids);rw[erL_map,List.length_map] at h1;have h2:=KL.out;have h3:=CL.out;rw[erL_map] at h3;omega);have C5:Hid (∀k (hk:k<kids.length),countP (er kids[k])≤1000):=Zh (fun k hk=>by
   have hk':k<(erL kids).length:=(by rw[erL_map];simpa using hk);have h1:=countL_at hk';have h2:=CL.out;have e:(erL kids)[k]=er kids[k]:=(by simp[erL_map]);rw[e] at h1;omega)
  clear hcnt;have IH:=Zh ih;obtain⟨bn,hbn⟩:∃b,P1.nameB tag.data.toList=b:=⟨_,rfl⟩;obtain⟨bx,hbx⟩:∃b,P1.textB txt.data.toList=b:=⟨_,rfl⟩;obtain⟨bk,hbk⟩:∃b,P1.textB key.data.toList=b:=⟨_,rfl⟩;obtain⟨ba,hba⟩:∃b,P3.mayA attrs=b:=⟨_,rfl⟩;obtain⟨bv,hbv⟩:∃b,P1.voidB tag.data.toList=b:=⟨_,rfl⟩;have HN:=Zh hbn;have HX:=Zh hbx;have HK:=Zh hbk;have HA:=Zh hba;have HV:=Zh hbv;clear h ih hbn hbx hbk hba hbv;show Calls Tryz.prog 17 #[.agg #[.string tag,.string txt,.string key,.slice A n c,.slice A2 n2 c2]] w _;have HT:Hid (mayP (er (.mk tag txt key ⟨A,n,c⟩ attrs ⟨A2,n2,c2⟩ kids))=if tag.toList.isEmpty then bx&&key.toList.isEmpty&&attrs.isEmpty&&(erL kids).isEmpty else bn&&bk&&ba&&txt.toList.isEmpty && !(bv && !(erL kids).isEmpty)&&mayL (erL kids)):=Zh (by rw[er,mayP,HN.out,HX.out,HK.out,HA.out,HV.out]);have E1:Hid (attrs.isEmpty=decide (n=0)):=Zh (by rw[←AL.out];cases attrs<;>simp);have E2:Hid ((erL kids).isEmpty=decide (n2=0)):=Zh (by rw[←KL.out,erL_map];cases kids<;>simp);go_enter Tryz.func17,Tryz.ntmps17;go_upto_region 1 with fail;generalize w.alloc (.cells #[.string tag,.string txt,.string key,.slice A n c,.slice A2 n2 c2] 56)=W at B1 N1⊢;have a0:W.cell? ⟨w.heap.size,0,none⟩=some (.string tag):=N1.out.c0;have a1:W.cell? ⟨w.heap.size,1,none⟩=some (.string txt):=N1.out.c1;have a2:W.cell? ⟨w.heap.size,2,none⟩=some (.string key):=N1.out.c2;have a3:W.cell? ⟨w.heap.size,3,none⟩=some (.slice A n c):=N1.out.c3;have a4:W.cell? ⟨w.heap.size,4,none⟩=some (.slice A2 n2 c2):=N1.out.c4;cases tE:tag.toList.isEmpty with
  |true=>
   have HD:Hid (mayP (er (.mk tag txt key ⟨A,n,c⟩ attrs ⟨A2,n2,c2⟩ kids))=(bx&&key.toList.isEmpty&&decide (n=0)&&decide (n2=0))):=Zh (by rw[HT.out,tE,if_pos rfl,E1.out,E2.out]);go_wp2_with fail;refine(P3.rtext_at txt _ HX.out m2).mono ?_;rintro e w' ⟨rfl,rfl⟩;cases bx with
   |false=>
    go_wp2_with fail;go_ret;exact⟨by rw[HD.out];rfl,B1.out⟩
   |true=>
    cases keyE:key.toList.isEmpty with
    |false=>
     go_wp2_with fail;go_ret;exact⟨by rw[HD.out,keyE];rfl,B1.out⟩
    |true=>
     by_cases hn0:n=0
     ·subst hn0;by_cases hn2:n2=0
      ·subst hn2;go_wp2_with fail;go_ret;exact⟨by rw[HD.out,keyE];rfl,B1.out⟩
      ·have qn2:((n2:Int)==0)=false:=(by simp;omega);go_wp2_with fail;go_ret;exact⟨by rw[HD.out,keyE];simp[hn2],B1.out⟩
     ·have qn:((n:Int)==0)=false:=(by simp;omega);go_wp2_with fail;go_ret;exact⟨by rw[HD.out,keyE];simp[hn0],B1.out⟩
  |false=>
   have HD:Hid (mayP (er (.mk tag txt key ⟨A,n,c⟩ attrs ⟨A2,n2,c2⟩ kids))=(bn&&bk&&ba&&txt.toList.isEmpty && !(bv && !decide (n2=0))&&mayL (erL kids))):=Zh (by rw[HT.out,tE,if_neg (by simp),E2.out]);go_wp2_with fail;refine(P3.rname_at tag _ HN.out m1).mono ?_;rintro e w' ⟨rfl,rfl⟩;go_wp2_with fail;refine(P3.rtext_at key _ HK.out m3).mono ?_;rintro e w' ⟨rfl,rfl⟩;go_wp2_with fail;refine(P3.rmay_any attrs A n c W AL.out (by omega) HW.out (p3holds (AH.out.on B1.out))).mono ?_;rintro e w2 ⟨rfl,b2⟩;rw[HA.out];have B2:=Zh (B1.out.trans (b2.mono B1.out.size));have N2:=Zh (N1.out.below b2 N1.out.lt);clear b2 a0 a1 a2 a3 a4;have a0:w2.cell? ⟨w.heap.size,0,none⟩=some (.string tag):=N2.out.c0;have a1:w2.cell? ⟨w.heap.size,1,none⟩=some (.string txt):=N2.out.c1;have a4:w2.cell? ⟨w.heap.size,4,none⟩=some (.slice A2 n2 c2):=N2.out.c4;go_wp2_with fail;refine(P1.rvoid_any tag _).mono ?_;rintro e w' ⟨rfl,rfl⟩;rw[HV.out];have bad:Hid ((bn&&bk&&ba&&txt.toList.isEmpty && !(bv && !decide (n2=0)))=false→Ending.returned (.bool false)=Ending.returned (.bool (mayP (er (.mk tag txt key ⟨A,n,c⟩ attrs ⟨A2,n2,c2⟩ kids))))):=Zh (fun e=>by rw[HD.out,e,Bool.false_and]);cases bn with
   |false=>
    go_wp2_with fail;go_ret;exact⟨bad.out rfl,B2.out⟩
   |true=>
   cases bk with
   |false=>
    go_wp2_with fail;go_ret;exact⟨bad.out rfl,B2.out⟩
   |true=>
   cases ba with
   |false=>
    go_wp2_with fail;go_ret;exact⟨bad.out rfl,B2.out⟩
   |true=>
   cases xE:txt.toList.isEmpty with
   |false=>
    go_wp2_with fail;go_ret;exact⟨bad.out (by rw[xE];rfl),B2.out⟩
   |true=>
   by_cases hvk:bv=true∧n2≠0
   ·obtain⟨rfl,hn2⟩:=hvk;have q1:decide ((0:Int)<(n2:Int))=true:=(by simp;omega);have q2:decide (0<n2)=true:=(by simp;omega);go_wp2_with fail;go_ret;exact⟨bad.out (by rw[xE];simp[hn2]),B2.out⟩
   ·have HVK:Hid ((bv && !decide (n2=0))=false):=Zh (by cases bv<;>simp_all);have HD2:Hid (mayP (er (.mk tag txt key ⟨A,n,c⟩ attrs ⟨A2,n2,c2⟩ kids))=mayL (erL kids)):=Zh (by rw[HD.out,xE,HVK.out];simp);have key2:(bv=false)∨(bv=true∧n2=0):=(by cases bv<;>simp_all);clear bad hvk HD HT;rcases key2 with rfl|⟨rfl,hn0⟩
    ·go_wp2_with fail;go_loopw [8] (fun s wr=>∃(k:Nat),k≤n2∧s = .int .i64 k∧Hid (mayL ((erL kids).take k)=true)∧Hid (Below w.heap.size w wr)∧Hid (TB wr w.heap.size (.mk tag txt key ⟨A,n,c⟩ attrs ⟨A2,n2,c2⟩ kids))) (fun s _=>n2-(intOf s).toNat)
     case atStart=>exact⟨0,by omega,rfl,Zh (by simp[mayL]),B2,N2⟩
     case round=>
      obtain⟨k,hk,rfl,HM,HB,NB⟩:=hrel;have a4:wr.cell? ⟨w.heap.size,4,none⟩=some (.slice A2 n2 c2):=NB.out.c4;by_cases hkn:k<n2
      ·have hkl:k<kids.length:=(by have:=KL.out;omega);have hke:k<(erL kids).length:=(by rw[erL_map];simpa using hkl);have hee:(erL kids)[k]=er kids[k]:=(by simp[erL_map]);obtain⟨b,o,rfl,hb,g0,g1,g2,g3,g4⟩:=cell_of_trees (KH.out.on HB.out) hkl;have CK:Hid (Calls Tryz.prog 17 #[.agg #[.string kids[k].tag,.string kids[k].txt,.string kids[k].key,.slice kids[k].sa.A kids[k].sa.n kids[k].sa.c,.slice kids[k].sk.A kids[k].sk.n kids[k].sk.c]] wr fun e w'=>e = .returned (.bool (mayP (er kids[k])))∧Below wr.heap.size wr w'):=Zh (IH.out kids[k] (List.getElem_mem hkl) wr ((KS.out _ (List.getElem_mem hkl)).on HB.out) (F5.out k hkl) (C5.out k hkl));obtain⟨mk,hmk⟩:∃mk,mayP (er kids[k])=mk:=⟨_,rfl⟩;rw[hmk] at CK;have HMK:Hid (mayP (erL kids)[k]=mk):=Zh (by rw[hee];exact hmk);have HKE:=Zh hke;clear hmk hee;generalize kids[k]=d at g0 g1 g2 g3 g4 CK;go_wp2_with fail;refine CK.out.mono ?_;rintro e w5 ⟨rfl,b5⟩;have B5:=Zh (HB.out.trans (b5.mono HB.out.size));have N5:=Zh (NB.out.below b5 NB.out.lt);clear b5;cases mk with
       |false=>
        go_wp2_with fail;go_ret;exact⟨by rw[HD2.out,mayL_bad HKE.out HMK.out];rfl,B5.out⟩
       |true=>
        go_wp2_with fail;go_roundw
        case rel=>exact⟨k+1,by omega,by go_num,Zh (mayL_take HKE.out HM.out HMK.out),B5,N5⟩
        case measure=>simp[intOf];omega
      ·obtain rfl:k=n2:=by omega
       go_wp2_with fail;go_ret;refine⟨?_,HB.out⟩;have h1:=HM.out;rw[List.take_of_length_le (by have:=KL.out;rw[erL_map];simp;omega)] at h1;rw[HD2.out,h1];rfl
    ·have q1:decide ((0:Int)<(n2:Int))=false:=(by simp;omega);have q2:decide (0<n2)=false:=(by simp;omega);go_wp2_with fail;go_loopw [8] (fun s wr=>∃(k:Nat),k≤n2∧s = .int .i64 k∧Hid (mayL ((erL kids).take k)=true)∧Hid (Below w.heap.size w wr)∧Hid (TB wr w.heap.size (.mk tag txt key ⟨A,n,c⟩ attrs ⟨A2,n2,c2⟩ kids))) (fun s _=>n2-(intOf s).toNat)
     case atStart=>exact⟨0,by omega,rfl,Zh (by simp[mayL]),B2,N2⟩
     case round=>
      obtain⟨k,hk,rfl,HM,HB,NB⟩:=hrel;have a4:wr.cell? ⟨w.heap.size,4,none⟩=some (.slice A2 n2 c2):=NB.out.c4;by_cases hkn:k<n2
      ·exact absurd hkn (by omega)
      ·obtain rfl:k=n2:=by omega
       go_wp2_with fail;go_ret;refine⟨?_,HB.out⟩;have h1:=HM.out;rw[List.take_of_length_le (by have:=KL.out;rw[erL_map];simp;omega)] at h1;rw[HD2.out,h1];rfl
end P8
namespace P10
open Go.RowKit Kd P4 P5 P8
end P10
namespace P17
open Go.RowKit Kd P4 P5 P11 P12 P13 P14 P16
inductive GdW:PW→Prop
 |mk {kind:Int} {tag key txt:ByteArray} {attrs:List P3.At} {kids:List PW} (ha:P3.mayA attrs=true) (hk:∀k∈kids,GdW k):GdW (.mk kind tag key txt attrs kids)
theorem atI_tells(a:P3.At):tellsO (atI a).op=true:=by
 cases h:a.st<;>simp[atI,h,tellsO]
theorem atI_parts{a:P3.At}(h:mayI (atI a)=true):P1.nameB a.nm.data.toList=true∧P1.textB a.vl.data.toList=true:=by
 cases hs:a.st<;>simp[atI,hs,mayI] at h<;>exact h
theorem names_at{l pre post:List In}{x:In}{ats:List P3.At}(hl:l=pre++x:: (ats.map atI++post))(hx:makesO x.op=true)(hf:firstW l l.length=0)(hm:∀a∈ats,mayI (atI a)=true):P3.mayA ats=true:=by
 have hlen:l.length=pre.length+1+ats.length+post.length:=(by rw[hl];simp;omega);have at0:l[pre.length]? = some x:=(by rw[hl,List.getElem?_append_right (Zl),Nat.sub_self];rfl);have atj:∀j (hj:j<ats.length),l[pre.length+1+j]? = some (atI ats[j]):=fun j hj=>by
  rw[hl,List.getElem?_append_right (by omega),show pre.length+1+j-pre.length=j+1 by omega,List.getElem?_cons_succ,List.getElem?_append_left (by simpa using hj),List.getElem?_map,List.getElem?_eq_getElem hj];rfl
 have nm:∀j,j≤ats.length→namesK l (pre.length+1+j)=some ((ats.take j).map (fun a=>a.nm.toList)):=by
  intro j
  induction j with
  |zero=>
   intro _;have h1:pre.length<l.length:=(by omega);have e:l[pre.length]=x:=(by rw[List.getElem?_eq_getElem h1] at at0;injection at0);rw[Nat.add_zero,namesK_step h1,e,stepN_makes hx];rfl
  |succ j ih=>
   intro hj;have h1:pre.length+1+j<l.length:=(by omega);have e:l[pre.length+1+j]=atI (ats[j]'(by omega)):=by
    have:=atj j (by omega);rw[List.getElem?_eq_getElem h1] at this;injection this
   rw[show pre.length+1+(j+1)=pre.length+1+j+1 by omega,namesK_step h1,e,stepN_tells (atI_tells _),ih (by omega),List.take_add_one,List.getElem?_eq_getElem (by omega),Option.toList_some,List.map_append];rfl
 have ok:∀j (hj:j<ats.length),ats[j].nm.toList∉(ats.take j).map (fun a=>a.nm.toList)∧j<8:=fun j hj=>by
  have h1:pre.length+1+j<l.length:=(by omega);have h2:=(first_at h1 hf).2;rw[wrongP,atj j hj] at h2;simp only[wrongAt] at h2;rw[hm _ (List.getElem_mem hj),if_neg (by decide),atI_tells,if_pos rfl,attrD_names l _ _ 0 (by omega),nm j (by omega),attrN_some] at h2;split at h2
  ·cases h2
  ·rename_i hno;simp only[not_or,List.length_map,List.length_take] at hno;exact⟨hno.1,by have:=hno.2;omega⟩
 refine P3.mayA_iff.2 ⟨?_,fun a ha=>atI_parts (hm a ha),?_⟩
 ·rcases Nat.lt_or_ge 8 ats.length with h|h
  ·have:=(ok 8 h).2;omega
  ·exact h
 ·rw[List.pairwise_iff_getElem];intro i j hi hj hij e;refine(ok j hj).1 ?_;rw[List.mem_map];exact⟨ats[i],by rw[List.mem_take_iff_getElem];exact⟨i,by omega,rfl⟩,e⟩
theorem good_list{l:List In}:∀{ks:List PW} {pre post:List In},(∀k∈ks,∀pre post,l=pre++(backW k++post)→GdW k)→l=pre++(backL ks++post)→∀k∈ks,GdW k
 |[],_,_,_,_,k,hk=>by cases hk
 |a:: ks,pre,post,h,hl,k,hk=>by
  rw[backL] at hl;rcases List.mem_cons.1 hk with rfl|hk
  ·exact h _ (by simp) pre (backL ks++post) (by rw[hl,List.append_assoc])
  ·exact good_list (ks:=ks) (pre:=pre++backW a) (post:=post) (fun k hk=>h k (by simp[hk])) (by rw[hl];simp) k hk
theorem good_sub{l:List In}(hf:firstW l l.length=0):∀e:PW,WfW e→∀pre post,l=pre++(backW e++post)→GdW e:=by
 intro e
 induction e using PW.ind with
 |h kind tag key txt attrs kids ih=>
  intro hw pre post hl;cases hw with
  |el hm ha hk=>
   rw[back_open (may_open hm)] at hl;refine .mk (names_at (pre:=pre) (post:=backL kids++[⟨2,z0,z0⟩]++post) (x:=⟨1,tag,key⟩) (by rw[hl];simp) rfl hf ha) ?_;exact good_list (pre:=pre++⟨1,tag,key⟩:: attrs.map atI) (post:=[⟨2,z0,z0⟩]++post) (fun k hk'=>ih k hk' (hk k hk')) (by rw[hl];simp)
  |vo hm ha=>
   rw[back_void (may_void hm)] at hl;exact .mk (names_at (pre:=pre) (post:=post) (x:=⟨3,tag,key⟩) (by rw[hl];simp) rfl hf ha) (by intro k hk;cases hk)
  |tx _=>exact .mk rfl (by intro k hk;cases hk)
  |nd=>exact .mk rfl (by intro k hk;cases hk)
  |al=>exact .mk rfl (by intro k hk;cases hk)
theorem good_all{l:List In}(h:checkP l=0):∀t∈wantP l,GdW t:=by
 obtain⟨_,hf,_⟩:=check_first h;obtain⟨hb,hw⟩:=want_back h;exact good_list (pre:=[]) (post:=[]) (fun k hk=>good_sub hf k (hw k hk)) (by simp[hb])
end P17
namespace P19
open P5 P14 P16
def StandsP(l:List Nd)(par:Int)(ids:List Int)(beh:Int):Prop:=∃pre post:List Int,kidsOf l par=pre++(ids++post)∧beh=post.headD 0
theorem wf_may{d:D}(h:WF d):MayD d:=by exact h.mayt
theorem kids_pos{d:D}(hw:WF d){par c:Int}(hc:c∈kidsOf d.l par):c≠0:=hw.tr.ne0 (hw.tr.kid par c hc).2.1
def atFrom(kids ids:List Int)(beh:Int)(k:Nat):Bool:=decide ((kids.drop k).take ids.length=ids)&&decide ((kids.drop (k+ids.length)).headD 0=beh)
theorem stands_iff{d:D}{par beh:Int}{ids:List Int}:StandsP d.l par ids beh↔∃k,k+ids.length≤(kidsOf d.l par).length∧atFrom (kidsOf d.l par) ids beh k=true:=by
 unfold StandsP atFrom;constructor
 ·rintro⟨pre,post,e,hb⟩;refine⟨pre.length,by rw[e];simp,?_⟩;rw[e,hb];simp[List.drop_append]
 ·rintro⟨k,hk,h⟩;simp only[Bool.and_eq_true,decide_eq_true_eq] at h;refine⟨(kidsOf d.l par).take k,(kidsOf d.l par).drop (k+ids.length),?_,h.2.symm⟩
  conv=>lhs;rw[←List.take_append_drop k (kidsOf d.l par),←List.take_append_drop ids.length ((kidsOf d.l par).drop k),h.1,List.drop_drop]
theorem stands_none{d:D}{par beh:Int}{ids:List Int}(h:hasL d.l par=false)(hw:WF d):StandsP d.l par ids beh↔ids=[]∧beh=0:=by
 have hk:kidsOf d.l par=[]:=hw.tr.k0 (by rw[h];decide);unfold StandsP;rw[hk];constructor
 ·rintro⟨pre,post,e,hb⟩;have h1:=(List.append_eq_nil_iff.1 e.symm).2;obtain⟨h2,h3⟩:=List.append_eq_nil_iff.1 h1;subst h3;exact⟨h2,hb⟩
 ·rintro⟨rfl,rfl⟩;exact⟨[],[],rfl,rfl⟩
theorem stands_kids{d:D}{par beh:Int}{ids:List Int}(hw:WF d)(h:StandsP d.l par ids beh):(∀i∈ids,hasL d.l i=true∧parOf d.l i=par)∧ids.Nodup∧ids.length≤200∧(beh=0∨hasL d.l beh=true∧parOf d.l beh=par∧beh∉ids):=by
 obtain⟨pre,post,e,hb⟩:=h;have hn:=hw.tr.nod par;have hl:=kids_len19 hw par;rw[e] at hn hl;obtain⟨_,hn2,_⟩:=List.nodup_append.1 hn;obtain⟨hn3,_,hn5⟩:=List.nodup_append.1 hn2;refine⟨fun i hi=>(hw.tr.kid par i (by rw[e];simp[hi])).2,hn3,by simp at hl;omega,?_⟩;cases post with
 |nil=>exact .inl hb
 |cons c r=>
  have hb:beh=c:=hb;subst hb;exact .inr ⟨(hw.tr.kid par beh (by rw[e];simp)).2.1,(hw.tr.kid par beh (by rw[e];simp)).2.2,fun h=>hn5 beh h beh (by simp) rfl⟩
theorem goW_of{x:PW}(h:P17.GdW x):GoW x:=by
 induction x using PW.ind with
 |h kind tag key txt attrs kids ih=>
  cases h with
  |mk ha hk=>exact .mk ha (fun k hk'=>ih k hk' (hk k hk'))
mutual
theorem szW_wt:∀x:PW,szW x≤wtW x
 | .mk kind tag key txt attrs kids=>by
   rw[szW,wtW];have:=szL_wt kids;omega
theorem szL_wt:∀l:List PW,szL l≤wtL l
 |[]=>by rw[szL,wtL];exact Zl
 |x:: r=>by
  rw[szL,wtL];have:=szW_wt x;have:=szL_wt r;omega
end
theorem walk_noerr{s:Sg}{par beh:Int}{ids:List Int}{want:List PW}(hw:WF s.1)(hm:MayD s.1)(hs:StandsP s.1.l par ids beh)(hp:hasL s.1.l par=true)(hk:noKids (tagOf s.1.l par)=false)(hwf:∀x∈want,WfW x)(hg:∀x∈want,GoW x)(hr:s.1.l.length+cntL want≤s.1.R):PatchOk (dL want+1) s par ids beh want:=by
 obtain⟨h1,h2,_,h4⟩:=stands_kids hw hs;exact patch_noerr (dL want) (Zl) ⟨hw,hm,hw.tr.ne0 hp,hp,.inr hk,h1,h2,h4,hwf,hg,hr⟩
end P19
namespace P12
open Go.RowKit Kd P4 P11
def FewV(w:World)(l:List In)(e:Ending)(w':World):Prop:=(e = .returned (.int .i64 0)∨(e = .returned (.int .i64 1)∧l.length≤150∧∀i∈l,i.a.size≤300∧i.b.size≤300))∧w=w'
def ShortTo(l:List In)(k:Nat):Prop:=∀j (h:j<l.length),j<k→l[j].a.size≤300∧l[j].b.size≤300
theorem fewX_any(l:List In)(A:Option Addr)(n c:Nat)(w:World)(hn:l.length=n)(hl:n≤maxLen)(H:kX.Holds w w.heap.size A l):Calls Tryz.prog 6 #[.slice A n c] w (FewV w l):=by
 have HH:=Zh H;have HN:=Zh hn;unfold maxLen at hl;clear H hn;go_enter Tryz.func6,Tryz.ntmps6;go_wp2_with fail;go_loopw [3] (fun i wr=>∃k:Nat,k≤n∧k≤150∧i = .int .i64 k∧Hid (wr=w)∧Hid (ShortTo l k)) (fun i _=>150-(intOf i).toNat)
 case atStart=>exact⟨0,by omega,by omega,rfl,Zh rfl,Zh (fun j _ h=>by omega)⟩
 case round=>
  obtain⟨k,hk,hk2,rfl,HW,HS⟩:=hrel;obtain rfl:=HW.out;by_cases hlt:k<n
  ·by_cases h150:k<150
   ·have hlt1:k<l.length:=(by have:=HN.out;omega);obtain⟨b,o,rfl,hb,h0,h1,h2⟩:=cell_of_ins HH.out hlt1;have NX:Hid (l[k].a.size≤300→l[k].b.size≤300→ShortTo l (k+1)):=Zh (fun ha hb j hj h=>by
     rcases Nat.lt_or_ge j k with e|e
     ·exact HS.out j hj e
     ·obtain rfl:j=k:=by omega
      exact⟨ha,hb⟩)
    generalize l[k]=d at h0 h1 h2 NX;by_cases ha:d.a.size≤300
    ·by_cases hbb:d.b.size≤300
     ·have q1:decide ((300:Int)<(d.a.size:Int))=false:=(by simp;omega);have q2:decide ((300:Int)<(d.b.size:Int))=false:=(by simp;omega);have NX2:=Zh (NX.out ha hbb);clear NX;go_wp2_with fail;go_roundw
      case rel=>exact⟨k+1,by omega,by omega,by go_num,Zh (by first|trivial|rfl),NX2⟩
      case measure=>simp[intOf];omega
     ·have q1:decide ((300:Int)<(d.a.size:Int))=false:=(by simp;omega);have q2:decide ((300:Int)<(d.b.size:Int))=true:=(by simp;omega);go_wp2_with fail;go_ret;exact⟨.inl rfl,by first|trivial|rfl⟩
    ·have q1:decide ((300:Int)<(d.a.size:Int))=true:=(by simp;omega);go_wp2_with fail;go_ret;exact⟨.inl rfl,by first|trivial|rfl⟩
   ·obtain rfl:k=150:=by omega
    have q1:decide ((150:Int)<(n:Int))=true:=(by simp;omega);go_wp2_with fail;go_ret;exact⟨.inl rfl,by first|trivial|rfl⟩
  ·obtain rfl:k=n:=by omega
   have q1:decide ((150:Int)<(k:Int))=false:=(by simp;omega);go_wp2_with fail;go_ret;refine⟨.inr ⟨rfl,by have:=HN.out;omega,fun i hi=>?_⟩,by first|trivial|rfl⟩;obtain⟨j,hj,rfl⟩:=List.mem_iff_getElem.1 hi;exact HS.out j hj (by have:=HN.out;omega)
end P12
namespace P13
open Go.RowKit Kd P4 P5 P11 P12
theorem own_cut{P:Program}{α:Type}{K:Kind P α}{w:World}{B:Nat}{A:Option Addr}{n c k:Nat}{l:List α}(h:K.Own w B (.slice A n c) l)(hk:k≤l.length):K.Own w B (.slice A k c) (l.take k):=by
 rcases h.form with⟨hv,hl⟩|⟨g,c',cur,hv,_,hg,hlt,hh,hnc,hcm,hcs,ht⟩
 ·injection hv with e1 e2 e3;subst e1;subst e2;subst e3;subst hl;obtain rfl:k=0:=by simpa using hk
  rw[List.take_nil];exact h
 ·injection hv with e1 e2 e3;subst e1;subst e2;subst e3;refine Kind.own_mk (by simp;omega) hg hh (by omega) hcm hcs ?_;rw[Kind.cells_take,←ht,List.take_take,Nat.min_eq_left (Nat.mul_le_mul_right _ hk)]
end P13
namespace P14
open Go.RowKit Kd P4 P5 P11 P12 P13
theorem infoW:(Tryz.prog.info? 69).map (fun i=>(i.zero,i.size,i.bytes))=some (some (.agg #[.int .i64 0,.string ⟨#[]⟩,.string ⟨#[]⟩,.string ⟨#[]⟩,.slice none 0 0,.slice none 0 0]),6,104):=by kernel_rfl
theorem infoQ:(Tryz.prog.info? 103).map (fun i=>(i.zero,i.size,i.bytes))=some (some (.agg #[.int .i64 0,.string ⟨#[]⟩,.string ⟨#[]⟩,.string ⟨#[]⟩,.slice none 0 0,.slice none 0 0]),6,104):=by kernel_rfl
def WV.cells(a:WV):List Value:=[.int .i64 a.kind,.string a.tag,.string a.key,.string a.txt,.slice a.sa.A a.sa.n a.sa.c,.slice a.sk.A a.sk.n a.sk.c]
def kW:Kind Tryz.prog WV where
 t:=28
 e:=69
 size:=6
 bytes:=104
 z:=.agg #[.int .i64 0,.string ⟨#[]⟩,.string ⟨#[]⟩,.string ⟨#[]⟩,.slice none 0 0,.slice none 0 0]
 cs:=WV.cells
 ht:=Tryz.underlying28
 info:=info_ex infoW
 hzs:=rfl
 hpos:=by decide
 hbb:=by decide
 len:=fun _=>rfl
 one:=fun a u hu=>by simp[WV.cells] at hu;rcases hu with rfl|rfl|rfl|rfl|rfl|rfl<;>rfl
def kQ:Kind Tryz.prog WV where
 t:=61
 e:=103
 size:=6
 bytes:=104
 z:=.agg #[.int .i64 0,.string ⟨#[]⟩,.string ⟨#[]⟩,.string ⟨#[]⟩,.slice none 0 0,.slice none 0 0]
 cs:=WV.cells
 ht:=Tryz.underlying61
 info:=info_ex infoQ
 hzs:=rfl
 hpos:=by decide
 hbb:=by decide
 len:=fun _=>rfl
 one:=fun a u hu=>by simp[WV.cells] at hu;rcases hu with rfl|rfl|rfl|rfl|rfl|rfl<;>rfl
theorem cell_of_w{w:World}{B:Nat}{A:Option Addr}{l:List WV}(h:kW.Holds w B A l){k:Nat}(hk:k<l.length):
 ∃b o,A=some ⟨b,o,none⟩∧b<B∧w.cell? ⟨b,o+k*6,none⟩=some (.int .i64 l[k].kind)∧w.cell? ⟨b,o+k*6+1,none⟩=some (.string l[k].tag)∧w.cell? ⟨b,o+k*6+2,none⟩=some (.string l[k].key)∧
  w.cell? ⟨b,o+k*6+3,none⟩=some (.string l[k].txt)∧w.cell? ⟨b,o+k*6+4,none⟩=some (.slice l[k].sa.A l[k].sa.n l[k].sa.c)∧w.cell? ⟨b,o+k*6+5,none⟩=some (.slice l[k].sk.A l[k].sk.n l[k].sk.c):=by
 obtain⟨b,o,rfl,hb,hc⟩:=h.at hk;exact⟨b,o,rfl,hb,hc 0 _ rfl,hc 1 _ rfl,hc 2 _ rfl,hc 3 _ rfl,hc 4 _ rfl,hc 5 _ rfl⟩
theorem cell_of_q{w:World}{B:Nat}{A:Option Addr}{l:List WV}(h:kQ.Holds w B A l){k:Nat}(hk:k<l.length):
 ∃b o,A=some ⟨b,o,none⟩∧b<B∧w.cell? ⟨b,o+k*6,none⟩=some (.int .i64 l[k].kind)∧w.cell? ⟨b,o+k*6+1,none⟩=some (.string l[k].tag)∧w.cell? ⟨b,o+k*6+2,none⟩=some (.string l[k].key)∧
  w.cell? ⟨b,o+k*6+3,none⟩=some (.string l[k].txt)∧w.cell? ⟨b,o+k*6+4,none⟩=some (.slice l[k].sa.A l[k].sa.n l[k].sa.c)∧w.cell? ⟨b,o+k*6+5,none⟩=some (.slice l[k].sk.A l[k].sk.n l[k].sk.c):=by
 obtain⟨b,o,rfl,hb,hc⟩:=h.at hk;exact⟨b,o,rfl,hb,hc 0 _ rfl,hc 1 _ rfl,hc 2 _ rfl,hc 3 _ rfl,hc 4 _ rfl,hc 5 _ rfl⟩
inductive WOk(K:Kind Tryz.prog WV)(w:World)(C:Nat):WV→Prop
 |mk {kind:Int} {tag key txt:ByteArray} {sa sk:Sv} {attrs:List P3.At} {kids:List WV} (al:attrs.length=sa.n) (ac:sa.n≤sa.c) (az:sa.A=none→sa.c=0) (ah:kA.Holds w C sa.A attrs)
  (kl:kids.length=sk.n) (kc:sk.n≤sk.c) (kz:sk.A=none→sk.c=0) (kh:K.Holds w C sk.A kids) (ks:∀k∈kids,WOk K w C k):WOk K w C (.mk kind tag key txt sa attrs sk kids)
section
variable{K:Kind Tryz.prog WV}{w w':World}{C D:Nat}{t:WV}
theorem WOk.al(h:WOk K w C t):t.attrs.length=t.sa.n:=by cases h;assumption
theorem WOk.ac(h:WOk K w C t):t.sa.n≤t.sa.c:=by cases h;assumption
theorem WOk.az(h:WOk K w C t):t.sa.A=none→t.sa.c=0:=by cases h;assumption
theorem WOk.ah(h:WOk K w C t):kA.Holds w C t.sa.A t.attrs:=by cases h;assumption
theorem WOk.kl(h:WOk K w C t):t.kids.length=t.sk.n:=by cases h;assumption
theorem WOk.kc(h:WOk K w C t):t.sk.n≤t.sk.c:=by cases h;assumption
theorem WOk.kz(h:WOk K w C t):t.sk.A=none→t.sk.c=0:=by cases h;assumption
theorem WOk.kh(h:WOk K w C t):K.Holds w C t.sk.A t.kids:=by cases h;assumption
theorem WOk.ks(h:WOk K w C t):∀k∈t.kids,WOk K w C k:=by cases h;assumption
theorem WOk.later(h:WOk K w C t)(hb:Below D w w')(hC:C≤D):WOk K w' C t:=by
 induction t using WV.ind with
 |h kind tag key txt sa attrs sk kids ih=>exact⟨h.al,h.ac,h.az,h.ah.below hb hC,h.kl,h.kc,h.kz,h.kh.below hb hC,fun k hk=>ih k hk (h.ks k hk)⟩
theorem WOk.more(h:WOk K w C t)(hC:C≤D):WOk K w D t:=by
 induction t using WV.ind with
 |h kind tag key txt sa attrs sk kids ih=>exact⟨h.al,h.ac,h.az,h.ah.more hC,h.kl,h.kc,h.kz,h.kh.more hC,fun k hk=>ih k hk (h.ks k hk)⟩
theorem WOk.on(h:WOk K w w.heap.size t)(hb:Below w.heap.size w w'):WOk K w' w'.heap.size t:=(h.later hb (Zl)).more hb.size
end
inductive WNew(K:Kind Tryz.prog WV)(w:World)(Q:Nat→Prop):WV→Prop
 |mk {kind:Int} {tag key txt:ByteArray} {sa sk:Sv} {attrs:List P3.At} {kids:List WV} (at_:AOk w sa attrs) (own:K.Own w 0 (.slice sk.A sk.n sk.c) kids) (q:∀b,(Value.slice sk.A sk.n sk.c).ownBlock=some b→Q b) (ks:∀k∈kids,WNew K w Q k):WNew K w Q (.mk kind tag key txt sa attrs sk kids)
section
variable{K:Kind Tryz.prog WV}{w w':World}{Q R S:Nat→Prop}{t:WV}
theorem WNew.at_(h:WNew K w Q t):AOk w t.sa t.attrs:=by cases h;assumption
theorem WNew.own(h:WNew K w Q t):K.Own w 0 (.slice t.sk.A t.sk.n t.sk.c) t.kids:=by cases h;assumption
theorem WNew.q(h:WNew K w Q t):∀b,(Value.slice t.sk.A t.sk.n t.sk.c).ownBlock=some b→Q b:=by cases h;assumption
theorem WNew.ks(h:WNew K w Q t):∀k∈t.kids,WNew K w Q k:=by cases h;assumption
theorem WNew.mono(h:WNew K w Q t)(hq:∀b,b<w.heap.size→Q b→R b):WNew K w R t:=by
 induction t using WV.ind with
 |h kind tag key txt sa attrs sk kids ih=>exact⟨h.at_,h.own,fun b hb=>hq b (h.own.lt hb).2 (h.q b hb),fun k hk=>ih k hk (h.ks k hk)⟩
theorem WNew.but(h:WNew K w Q t)(hb:But S w w')(hS:∀b,Q b→¬S b)(hA:NoA w S):WNew K w' Q t:=by
 induction t using WV.ind with
 |h kind tag key txt sa attrs sk kids ih=>exact⟨h.at_.but hb hA,h.own.but hb (fun b e=>hS b (h.q b e)),h.q,fun k hk=>ih k hk (h.ks k hk)⟩
theorem WNew.later(h:WNew K w Q t)(hb:Below w.heap.size w w'):WNew K w' Q t:=h.but (But.of_below hb (fun _=>False)) (fun _ _ h=>h) (NoA.none w)
theorem WNew.ok(h:WNew K w Q t):WOk K w w.heap.size t:=by
 induction t using WV.ind with
 |h kind tag key txt sa attrs sk kids ih=>
  have h1:=h.at_;have h2:=h.own;simp only[WV.sa,WV.attrs] at h1;simp only[WV.sk,WV.kids] at h2;obtain⟨A,n,c,hv,e1,e2,e3,e4,e5⟩:=h2.slice;injection hv with v1 v2 v3;subst v1;subst v2;subst v3;exact⟨h1.len,h1.cap,h1.nil,h1.holds,e1,e2,fun e=>e4 e,e5,fun k hk=>ih k hk (h.ks k hk)⟩
end
theorem kind_noA{S:Nat→Prop}{w:World}{e:TypeId}(he:e≠121)(h:∀b,S b→∃cur,w.heap[b]? = some (.cells cur e (0,0))):NoA w S:=fun k cur fr hk hc=>by
 obtain⟨c,h1⟩:=h k hk;exact heap_ne hc h1 (fun e2=>he e2.symm) rfl
theorem wants_grew{K:Kind Tryz.prog WV}(he:K.e≠121){w5 w7:World}{o:Obj}{D:Nat}{A A7:Option Addr}{n c n7 c7:Nat}{l:List WV}{k:WV}{Q:Nat→Prop}(own:K.Own w5 D (.slice A n c) l)
 (ks:∀k∈l,WNew K w5 (fun b=>Q b∧(Value.slice A n c).ownBlock≠some b) k) (hk:WNew K w5 (fun b=>Q b∧(Value.slice A n c).ownBlock≠some b) k) (hg:(w5.alloc o).grownBy w7 (Value.slice A n c).ownBlock)
 (hat:(Value.slice A7 n7 c7).ownBlock=(Value.slice A n c).ownBlock∨(Value.slice A7 n7 c7).ownBlock=some (w5.alloc o).heap.size):
 (∀t∈l++[k],WNew K w7 (fun b=>Q b∧(Value.slice A7 n7 c7).ownBlock≠some b) t)∧But (fun b=>(Value.slice A n c).ownBlock=some b) w5 w7:=by
 have b7:But (fun b=>(Value.slice A n c).ownBlock=some b) w5 w7:=(But.alloc (But.refl _ _) _).trans (But.of_grown (S:=fun i=>(Value.slice A n c).ownBlock=some i) hg (fun i hi _=>hi)) (fun _ _ h=>h);have hS:∀b,(Value.slice A n c).ownBlock=some b→∃cur,w5.heap[b]? = some (.cells cur K.e (0,0)):=fun b e=>own.ty e
 have key':∀k:WV,WNew K w5 (fun b=>Q b∧(Value.slice A n c).ownBlock≠some b) k→WNew K w7 (fun b=>Q b∧(Value.slice A7 n7 c7).ownBlock≠some b) k:=by
  intro k h;have h1:WNew K w5 (fun b=>(Q b∧(Value.slice A n c).ownBlock≠some b)∧b<w5.heap.size) k:=h.mono fun b hb hq=>⟨hq,hb⟩
  refine(h1.but b7 (fun b hq hs=>hq.1.2 hs) (kind_noA he hS)).mono fun b _ hq=>⟨hq.1.1,fun e=>?_⟩
  rcases hat with h2|h2
  ·exact hq.1.2 (h2▸e)
  ·rw[h2] at e;injection e with e;have:=hq.2;simp at e;omega
 refine⟨fun t ht=>?_,b7⟩;rcases List.mem_append.1 ht with h|h
 ·exact key' t (ks t h)
 ·rw[List.mem_singleton.1 h];exact key' _ hk
theorem ownK_is{K:Kind Tryz.prog WV}{w:World}{D:Nat}{A:Option Addr}{n c:Nat}{l:List WV}(h:K.Own w D (.slice A n c) l):l.length=n∧n≤c∧c≤maxLen∧(A=none→c=0)∧K.Holds w w.heap.size A l:=by
 obtain⟨A',n',c',hv,e1,e2,e3,e4,e5⟩:=h.slice;injection hv with h1 h2 h3;subst h1;subst h2;subst h3;exact⟨e1,e2,e3,e4,e5⟩
end P14
end Go.Proofs.YtaklfomaibchnaaGreat
