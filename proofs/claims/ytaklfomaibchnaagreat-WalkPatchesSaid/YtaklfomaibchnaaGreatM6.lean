/- A part of what the claimed theorem hangs on. No condition but those stated. -/
import Derived.Test.YtaklfomaibchnaaGreatM1
import Derived.Test.YtaklfomaibchnaaGreatM3
import Derived.Test.YtaklfomaibchnaaGreatM5
set_option linter.unusedVariables false
set_option linter.unusedSimpArgs false
set_option maxRecDepth 100000
set_option maxHeartbeats 40000000
namespace Go.Proofs.YtaklfomaibchnaaGreat
namespace P14
open Go.RowKit Kd P4 P5 P11 P12 P13
def HeadT(l:List In):Prop:=∀x,l.head? = some x→tellsO x.op=false
theorem backW_head{e:PW}(h:WfW e):∃x r,backW e=x:: r∧tellsO x.op=false:=by
 cases h with
 |el hm ha hk=>exact⟨_,_,back_open (may_open hm),rfl⟩
 |vo hm ha=>exact⟨_,_,back_void (may_void hm),rfl⟩
 |tx hm=>exact⟨_,_,by rw[backW,if_neg (by decide),if_pos rfl],rfl⟩
 |nd=>exact⟨_,_,by rw[backW,if_neg (by decide),if_neg (by decide),if_pos rfl],rfl⟩
 |al=>exact⟨_,_,by rw[backW,if_neg (by decide),if_neg (by decide),if_neg (by decide),if_pos rfl],rfl⟩
theorem backW_pos{e:PW}(h:WfW e):1≤(backW e).length:=by
 obtain⟨x,r,h1,_⟩:=backW_head h;rw[h1];simp
theorem backL_head{l:List PW}{r:List In}(h:∀t∈l,WfW t)(hr:HeadT r):HeadT (backL l++r):=by
 cases l with
 |nil=>rw[backL,List.nil_append];exact hr
 |cons a l=>
  obtain⟨x,q,h1,h2⟩:=backW_head (h a (by simp));intro y hy;rw[backL,h1] at hy;simp only[List.cons_append,List.head?_cons,Option.some.injEq] at hy;rw[←hy];exact h2
theorem HeadT.cons{x:In}{r:List In}(h:tellsO x.op=false):HeadT (x:: r):=fun y hy=>by
 simp only[List.head?_cons,Option.some.injEq] at hy;rw[←hy];exact h
theorem wt_list{l:List PW}(h:∀t∈l,wtW t≤(backW t).length):wtL l≤(backL l).length:=by
 induction l with
 |nil=>simp[wtL]
 |cons a l ih=>
  have h1:=h a (by simp);have h2:=ih (fun t ht=>h t (by simp[ht]));rw[backL,List.length_append,wtL];omega
theorem wt_wf(e:PW)(h:WfW e):wtW e≤(backW e).length:=by
 induction e using PW.ind with
 |h kind tag key txt attrs kids ih=>
  cases h with
  |el hm ha hk=>
   have:=wt_list (fun t ht=>ih t ht (hk t ht));rw[back_open (may_open hm),wtW];simp only[List.length_cons,List.length_append,List.length_map,List.length_nil];omega
  |vo hm ha=>rw[back_void (may_void hm),wtW];simp[wtL];omega
  |tx hm=>rw[backW,if_neg (by decide),if_pos rfl,wtW];simp[wtL]
  |nd=>rw[backW,if_neg (by decide),if_neg (by decide),if_pos rfl,wtW];simp[wtL]
  |al=>rw[backW,if_neg (by decide),if_neg (by decide),if_neg (by decide),if_pos rfl,wtW];simp[wtL]
theorem wt_back{l:List PW}(h:∀t∈l,WfW t):wtL l≤(backL l).length:=wt_list (fun t ht=>wt_wf t (h t ht))
end P14
namespace P16
open Go.RowKit Kd P4 P5 P11 P12 P13 P14
structure Ol where
 tag:ByteArray
 key:ByteArray
def takesW(w:PW)(o:Ol)(first:Bool):Bool:=
 if w.kind=1 then bq o.tag w.tag&&bq o.key w.key&&(first || !w.key.toList.isEmpty)
 else if w.kind=2 then first&&o.tag.toList.isEmpty
 else if w.kind=3 then first
 else false
def scanM(w:PW)(old:List Ol)(left:List Bool):Nat→Int×Bool
 |0=>(-1,true)
 |k+1=>if 0≤(scanM w old left k).1 then scanM w old left k else match old[k]?,left[k]? with
  |some o,some true=>(if takesW w o (scanM w old left k).2 then(k:Int) else -1,false)
  |_,_=>scanM w old left k
def idxM(left:List Bool):Nat→List Int
 |0=>[]
 |k+1=>match left[k]? with
  |some true=>idxM left k++[(k:Int)]
  |_=>idxM left k
structure Ms where
 left:List Bool
 take:List Int
 kept:List Int
def leftM(left:List Bool)(at_:Int):List Bool:=if 0≤at_ then left.set at_.toNat false else left
def stepM(old:List Ol)(s:Ms)(w:PW):Ms:=
 if w.kind=4 then⟨List.replicate old.length false,s.take++[(scanM w old s.left old.length).1],s.kept++idxM (leftM s.left (scanM w old s.left old.length).1) old.length⟩
 else⟨leftM s.left (scanM w old s.left old.length).1,s.take++[(scanM w old s.left old.length).1],s.kept⟩
def foldM(old:List Ol)(ws:List PW):Ms:=ws.foldl (stepM old) ⟨List.replicate old.length true,[],[]⟩
theorem foldM_snoc{old:List Ol}{ws:List PW}{j:Nat}(h:j<ws.length):foldM old (ws.take (j+1))=stepM old (foldM old (ws.take j)) ws[j]:=by
 unfold foldM;rw[List.take_add_one,List.getElem?_eq_getElem h,List.foldl_append];rfl
theorem scanM_range(w:PW)(old:List Ol)(left:List Bool):∀k,-1≤(scanM w old left k).1∧(scanM w old left k).1<(k:Int)∧((scanM w old left k).1<0→(scanM w old left k).1 = -1)
 |0=>by simp[scanM]
 |k+1=>by
  have ih:=scanM_range w old left k;rw[scanM];split
  ·omega
  ·split
   ·simp only;split<;>omega
   ·omega
theorem scanM_stays{w:PW}{old:List Ol}{left:List Bool}{k:Nat}(h:0≤(scanM w old left k).1):∀j,scanM w old left (k+j)=scanM w old left k
 |0=>rfl
 |j+1=>by
  have ih:=scanM_stays h j;rw[←Nat.add_assoc,scanM,if_pos (by rw[ih];exact h),ih]
theorem scanM_gone{w:PW}{old:List Ol}{left:List Bool}{k:Nat}(h:¬0≤(scanM w old left k).1)(hl:left[k]? = some false):scanM w old left (k+1)=scanM w old left k:=by
 rw[scanM,if_neg h,hl];split
 ·rename_i h1 h2;cases h2
 ·rfl
theorem scanM_left{w:PW}{old:List Ol}{left:List Bool}{k:Nat}{o:Ol}(h:¬0≤(scanM w old left k).1)(ho:old[k]? = some o)(hl:left[k]? = some true):scanM w old left (k+1)=(if takesW w o (scanM w old left k).2 then(k:Int) else -1,false):=by
 rw[scanM,if_neg h,ho,hl]
theorem idxM_yes{left:List Bool}{k:Nat}(h:left[k]? = some true):idxM left (k+1)=idxM left k++[(k:Int)]:=by rw[idxM,h]
theorem idxM_no{left:List Bool}{k:Nat}(h:left[k]? = some false):idxM left (k+1)=idxM left k:=by rw[idxM,h]
theorem idxM_len(left:List Bool):∀k,(idxM left k).length≤k
 |0=>by simp[idxM]
 |k+1=>by
  have:=idxM_len left k;rw[idxM];split
  ·simp;omega
  ·omega
theorem leftM_len(left:List Bool)(a:Int):(leftM left a).length=left.length:=by unfold leftM;split<;>simp
theorem step_left{old:List Ol}{s:Ms}{w:PW}(h:s.left.length=old.length):(stepM old s w).left.length=old.length:=by
 unfold stepM;split
 ·simp
 ·rw[leftM_len,h]
theorem fold_left{old:List Ol}:∀{ws:List PW} {s:Ms},s.left.length=old.length→(ws.foldl (stepM old) s).left.length=old.length
 |[],_,h=>h
 |w:: ws,s,h=>by
  rw[List.foldl_cons];exact fold_left (ws:=ws) (s:=stepM old s w) (step_left h)
theorem foldM_left(old:List Ol)(ws:List PW):(foldM old ws).left.length=old.length:=fold_left (by simp)
theorem step_lens{old:List Ol}{s:Ms}{w:PW}:(stepM old s w).take.length=s.take.length+1∧(stepM old s w).kept.length≤s.kept.length+old.length:=by
 unfold stepM;split
 ·have:=idxM_len (leftM s.left (scanM w old s.left old.length).1) old.length;simp;omega
 ·simp
theorem fold_lens{old:List Ol}:∀{ws:List PW} {s:Ms},(ws.foldl (stepM old) s).take.length=s.take.length+ws.length∧(ws.foldl (stepM old) s).kept.length≤s.kept.length+ws.length*old.length
 |[],s=>by simp
 |w:: ws,s=>by
  have h:=fold_lens (old:=old) (ws:=ws) (s:=stepM old s w);have h2:=step_lens (old:=old) (s:=s) (w:=w);rw[List.foldl_cons,List.length_cons,Nat.succ_mul];omega
theorem foldM_lens(old:List Ol)(ws:List PW):(foldM old ws).take.length=ws.length∧(foldM old ws).kept.length≤ws.length*old.length:=by
 have:=fold_lens (old:=old) (ws:=ws) (s:=⟨List.replicate old.length true,[],[]⟩);unfold foldM;simpa using this
def clearM(left:List Bool)(k:Nat):List Bool:=List.replicate k false++left.drop k
theorem clearM_zero(left:List Bool):clearM left 0=left:=by simp[clearM]
theorem clearM_len{left:List Bool}{k:Nat}(h:k≤left.length):(clearM left k).length=left.length:=by simp[clearM];omega
theorem clearM_at{left:List Bool}{k:Nat}(h:k<left.length):(clearM left k)[k]? = left[k]?:=by
 unfold clearM;rw[List.getElem?_append_right (by simp),List.length_replicate,Nat.sub_self,List.getElem?_drop];rfl
theorem clearM_yes{left:List Bool}{k:Nat}(h:k<left.length):(clearM left k).set k false=clearM left (k+1):=by
 unfold clearM;rw[List.set_append_right _ _ (by simp),List.length_replicate,Nat.sub_self,List.drop_eq_getElem_cons h,List.set_cons_zero,List.replicate_succ',List.append_assoc];rfl
theorem clearM_no{left:List Bool}{k:Nat}(h:k<left.length)(hf:left[k]? = some false):clearM left k=clearM left (k+1):=by
 unfold clearM;rw[List.drop_eq_getElem_cons h,List.replicate_succ',List.append_assoc];rw[List.getElem?_eq_getElem h] at hf;injection hf with hf;rw[hf];rfl
theorem clearM_all(left:List Bool):clearM left left.length=List.replicate left.length false:=by simp[clearM]
theorem scanM_takes{w:PW}{old:List Ol}{left:List Bool}:∀m,0≤(scanM w old left m).1→∃(j:Nat) (o:Ol) (f:Bool),j<m∧(scanM w old left m).1=(j:Int)∧old[j]? = some o∧left[j]? = some true∧takesW w o f=true
 |0,h=>by simp[scanM] at h
 |m+1,h=>by
  by_cases h0:0≤(scanM w old left m).1
  ·have e:scanM w old left (m+1)=scanM w old left m:=(by rw[scanM,if_pos h0]);obtain⟨j,o,f,h1,h2,h3⟩:=scanM_takes m h0;exact⟨j,o,f,by omega,by rw[e];exact h2,h3⟩
  ·rw[scanM,if_neg h0] at h⊢;split
   ·rename_i o ho hl;rw[ho,hl] at h;simp only at h⊢;by_cases ht:takesW w o (scanM w old left m).2=true
    ·exact⟨m,o,_,by omega,by rw[if_pos ht],ho,hl,ht⟩
    ·rw[if_neg ht] at h;omega
   ·rename_i hx;exfalso;revert h;split
    ·rename_i o ho hl;exact absurd hl (hx o ho)
    ·exact h0
theorem fold_pre{old:List Ol}:∀{ws:List PW} {s:Ms},∃r,(ws.foldl (stepM old) s).take=s.take++r
 |[],s=>⟨[],by simp⟩
 |w:: ws,s=>by
  obtain⟨r,hr⟩:=fold_pre (old:=old) (ws:=ws) (s:=stepM old s w);have e:(stepM old s w).take=s.take++[(scanM w old s.left old.length).1]:=by
   unfold stepM;split<;>rfl
  exact⟨(scanM w old s.left old.length).1:: r,by rw[List.foldl_cons,hr,e];simp⟩
theorem take_pre(old:List Ol)(ws:List PW){i:Nat}(hi:i≤ws.length):(foldM old ws).take.take i=(foldM old (ws.take i)).take:=by
 have h1:=(foldM_lens old (ws.take i)).1;rw[List.length_take,Nat.min_eq_left hi] at h1;have e:foldM old ws=(ws.drop i).foldl (stepM old) (foldM old (ws.take i)):=by
  unfold foldM;rw[←List.foldl_append,List.take_append_drop]
 obtain⟨r,hr⟩:=fold_pre (old:=old) (ws:=ws.drop i) (s:=foldM old (ws.take i));rw[e,hr];exact List.take_left' h1
theorem take_at{old:List Ol}{ws:List PW}{i:Nat}(hi:i<ws.length):(foldM old ws).take[i]? = some (scanM ws[i] old (foldM old (ws.take i)).left old.length).1:=by
 have h1:=(foldM_lens old (ws.take i)).1;rw[List.length_take,Nat.min_eq_left (by omega)] at h1;have h2:=take_pre old ws (i:=i+1) (by omega);rw[foldM_snoc hi] at h2;have e:(stepM old (foldM old (ws.take i)) ws[i]).take=(foldM old (ws.take i)).take++[(scanM ws[i] old (foldM old (ws.take i)).left old.length).1]:=by
  unfold stepM;split<;>rfl
 rw[e] at h2;have h3:=congrArg (fun l=>l[i]?) h2;rw[List.getElem?_take,if_pos (by omega)] at h3;rw[h3,List.getElem?_append_right (by omega),h1,Nat.sub_self];rfl
theorem first_at{l:List In}:∀{n k:Nat},k<n→firstW l n=0→firstW l k=0∧wrongP l k=0
 |0,_,h,_=>by omega
 |n+1,k,h,hf=>by
  rw[firstW] at hf;by_cases h0:firstW l n=0
  ·rw[if_pos h0] at hf;by_cases e:k=n
   ·subst e;exact⟨h0,hf⟩
   ·exact first_at (by omega) h0
  ·rw[if_neg h0] at hf;exact absurd hf h0
end P16
namespace P19
open P5 P14 P16
def oldOf(l:List Nd)(i:Int):Ol:=match find l i with
 |some x=>⟨x.tag,x.key⟩
 |none=>⟨e0,e0⟩
def ndOf(l:List Nd)(i:Int):Nd:=(find l i).getD (newN 0 e0 e0 e0)
abbrev Rec:=Sg→Int→List Int→List PW→Sg
def takenP(rec:Rec)(x:PW)(id:Int)(s:Sg):Sg:=
 let n:=ndOf s.1.l id
 let s2:=if x.kind=2∧n.txt.toList≠x.txt.toList then doP s (recText id x.txt) else s
 let a:=P3.joinA n.attrs x.attrs
 let s3:=if x.kind=1∧P3.sameA a n.attrs=false then doP s2 (recAttr id a) else s2
 if x.kind=1 then rec s3 id (kidsOf s3.1.l id) x.kids else s3
def newP(rec:Rec)(par b:Int)(x:PW)(s:Sg):Sg:=
 let id:=s.1.n+1
 let s2:=doP (doP s (recMake id x.tag x.txt x.key)) (recPut id par b)
 let a:=P3.newA x.attrs
 let s3:=if a=[] then s2 else doP s2 (recAttr id a)
 if x.kind=1 then rec s3 id (kidsOf s3.1.l id) x.kids else s3
def stepW(rec:Rec)(par beh:Int)(ids:List Int)(x:PW)(t:Int)(p:Sg×List Int):Sg×List Int:=
 if x.kind=4 then(p.1,[])
 else if 0≤t then
  let id:=ids.getD t.toNat 0
  let m:=moveP p.1 par p.2 beh id (p.2.idxOf id)
  if x.kind=3 then m else(takenP rec x id m.1,m.2)
 else if x.kind=3 then p
 else(newP rec par (nextP p.2 beh) x p.1,p.2)
def patchP:Nat→Sg→Int→List Int→Int→List PW→Sg
 |0,s,_,_,_,_=>s
 |f+1,s,par,ids,beh,want=>
  let p:=(want.zip (foldM (ids.map (oldOf s.1.l)) want).take).foldl (fun p xt=>stepW (fun s i ks w=>patchP f s i ks 0 w) par beh ids xt.1 xt.2 p) (s,ids)
  gonesP p.2 p.1
def Kids(s:Sg)(par:Int)(ids:List Int):Prop:=∀i∈ids,hasL s.1.l i=true∧parOf s.1.l i=par
structure Lv(s0:Sg)(par:Int)(ids:List Int)(s:Sg):Prop where
 wf:WF s.1
 st:Stays s0.1 s.1 par
 kid:Kids s par ids
section
variable{s0 s s':Sg}{par:Int}{ids:List Int}
theorem in_self{d:D}(hw:WF d){i:Int}(hi:i≠0):¬In d.l i i:=fun⟨_,hk⟩=>hw.tr.no_cycle hi hk
theorem Lv.same(h0:WF s0.1)(h:Lv s0 par ids s)(hw:WF s'.1)(h1:∀y,hasL s'.1.l y=hasL s.1.l y)(h2:∀y,parOf s'.1.l y=parOf s.1.l y):Lv s0 par ids s':=
 ⟨hw,h.st.trans h0 h.wf (stays_same h1 h2),fun i hi=>⟨(h1 i).trans (h.kid i hi).1,(h2 i).trans (h.kid i hi).2⟩⟩
theorem Lv.text(h0:WF s0.1)(h:Lv s0 par ids s)(i:Int)(t:ByteArray):Lv s0 par ids (doP s (recText i t)):=by
 obtain⟨h1,h2⟩:=data_same s.1 i t;exact h.same h0 (doP_wf h.wf _) h1 h2
theorem Lv.attr(h0:WF s0.1)(h:Lv s0 par ids s)(i:Int)(a:List P3.At):Lv s0 par ids (doP s (recAttr i a)):=by
 obtain⟨h1,h2⟩:=attrs_same s.1 i a;exact h.same h0 (doP_wf h.wf _) h1 h2
theorem Lv.put(h0:WF s0.1)(h:Lv s0 par ids s){i:Int}(hi:parOf s.1.l i=par)(b:Int):Lv s0 par ids (doP s (recPut i par b)):=by
 obtain⟨h1,h2⟩:=put_par_ (p:=par) h.wf i b;have h3:=put_at (p:=par) h.wf (b:=b) hi;refine⟨doP_wf h.wf _,h.st.trans h0 h.wf (put_stays h.wf hi),fun j hj=>?_⟩;refine⟨(h1 j).trans (h.kid j hj).1,?_⟩;by_cases e:j=i
 ·subst e;exact h3
 ·exact(h2 j e).trans (h.kid j hj).2
theorem Lv.puts(h0:WF s0.1)(b:Int):∀(l:List Int) {s:Sg},Lv s0 par ids s→(∀i∈l,i∈ids)→Lv s0 par ids (putsP par b l s)
 |[],_,h,_=>h
 |i:: l,s,h,hl=>by
  show Lv s0 par ids (putsP par b l (doP s (recPut i par b)));exact Lv.puts h0 b l (h.put h0 (h.kid i (hl i (by simp))).2 b) (fun j hj=>hl j (by simp[hj]))
theorem Lv.move(h0:WF s0.1)(h:Lv s0 par ids s){left:List Int}(hl:∀i∈left,i∈ids)(beh id:Int)(k:Nat)(hid:id∈ids):Lv s0 par ids (moveP s par left beh id k).1:=by
 unfold moveP;simp only;split
 ·exact h
 split
 ·exact h.put h0 (h.kid id hid).2 _
 ·exact Lv.puts h0 _ _ h (fun i hi=>hl i (List.mem_of_mem_take hi))
def RecOk19(rec:Rec):Prop:=∀(s:Sg) (i:Int) (ks:List Int) (w:List PW),WF s.1→i≠0→Kids s i ks→ks.Nodup→WF (rec s i ks w).1∧Stays s.1 (rec s i ks w).1 i
theorem kids_ok(h:WF s.1)(i:Int):Kids s i (kidsOf s.1.l i)∧(kidsOf s.1.l i).Nodup:=⟨fun c hc=>⟨(h.tr.kid i c hc).2.1,(h.tr.kid i c hc).2.2⟩,h.tr.nod i⟩
theorem Lv.rec_{rec:Rec}(R:RecOk19 rec)(h0:WF s0.1)(hp:par≠0)(h:Lv s0 par ids s){i:Int}(hi:hasL s.1.l i=true)(hip:parOf s.1.l i=par)(w:List PW):Lv s0 par ids (rec s i (kidsOf s.1.l i) w):=by
 have hne:i≠0:=h.wf.tr.ne0 hi;obtain⟨k1,k2⟩:=kids_ok h.wf i;obtain⟨r1,r2⟩:=R s i (kidsOf s.1.l i) w h.wf hne k1 k2;refine⟨r1,h.st.trans h0 h.wf (r2.up hip),fun j hj=>?_⟩;obtain⟨j1,j2⟩:=h.kid j hj;have hn:¬In s.1.l i j:=not_in h.wf hp hip j2;obtain⟨a1,a2⟩:=r2 j j1 hn;exact⟨a1,a2.trans j2⟩
theorem Lv.taken{rec:Rec}(R:RecOk19 rec)(h0:WF s0.1)(hp:par≠0)(h:Lv s0 par ids s){id:Int}(hid:id∈ids)(x:PW):Lv s0 par ids (takenP rec x id s):=by
 unfold takenP;simp only;have a:Lv s0 par ids (if x.kind=2∧(ndOf s.1.l id).txt.toList≠x.txt.toList then doP s (recText id x.txt) else s):=by
  split
  ·exact h.text h0 id x.txt
  ·exact h
 generalize (if x.kind=2∧(ndOf s.1.l id).txt.toList≠x.txt.toList then doP s (recText id x.txt) else s)=s2 at a;have b:Lv s0 par ids (if x.kind=1∧P3.sameA (P3.joinA (ndOf s.1.l id).attrs x.attrs) (ndOf s.1.l id).attrs=false then doP s2 (recAttr id (P3.joinA (ndOf s.1.l id).attrs x.attrs)) else s2):=by
  split
  ·exact a.attr h0 id _
  ·exact a
 generalize (if x.kind=1∧P3.sameA (P3.joinA (ndOf s.1.l id).attrs x.attrs) (ndOf s.1.l id).attrs=false then doP s2 (recAttr id (P3.joinA (ndOf s.1.l id).attrs x.attrs)) else s2)=s3 at b;split
 ·exact b.rec_ R h0 hp (b.kid id hid).1 (b.kid id hid).2 x.kids
 ·exact b
def Keeps(d d':D):Prop:=∀y,hasL d.l y=true→hasL d'.l y=true∧parOf d'.l y=parOf d.l y
theorem Keeps.lv(h0:WF s0.1)(h:Lv s0 par ids s)(hw:WF s'.1)(k:Keeps s.1 s'.1):Lv s0 par ids s':=
 ⟨hw,h.st.trans h0 h.wf (fun y hy _=>k y hy),fun i hi=>⟨(k i (h.kid i hi).1).1,(k i (h.kid i hi).1).2.trans (h.kid i hi).2⟩⟩
theorem keeps_it{d d':D}(hw:WF d)(hw':WF d')(k:Keeps d d'){y:Int}(hy:hasL d.l y=true):∀j,it (parOf d'.l) j y=it (parOf d.l) j y∧(it (parOf d.l) j y=0∨hasL d.l (it (parOf d.l) j y)=true)
 |0=>⟨rfl,.inr hy⟩
 |j+1=>by
  obtain⟨e,hc⟩:=keeps_it hw hw' k hy j;rw[it_succ,it_succ,e];rcases hc with hc|hc
  ·rw[hc,hw.tr.zero,hw'.tr.zero];exact⟨rfl,.inl rfl⟩
  ·refine⟨(k _ hc).2,?_⟩;by_cases e0:parOf d.l (it (parOf d.l) j y)=0
   ·exact .inl e0
   ·exact .inr (hw.tr.hpar e0)
theorem new_keeps(hw:WF s.1)(tag txt key:ByteArray)(b:Int):Keeps s.1 (doP (doP s (recMake (s.1.n+1) tag txt key)) (recPut (s.1.n+1) par b)).1:=fun y hy=>by
 obtain⟨a1,a2⟩:=make_keeps s.1 (recMake (s.1.n+1) tag txt key) hw hy;have hw1:WF (doP s (recMake (s.1.n+1) tag txt key)).1:=doP_wf hw _;obtain⟨b1,b2⟩:=put_par_ (p:=par) hw1 (s.1.n+1) b;have hne:y≠s.1.n+1:=(by have:=(hw.pos hy).2;omega);exact⟨(b1 y).trans a1,(b2 y hne).trans a2⟩
theorem Lv.new{rec:Rec}(R:RecOk19 rec)(h0:WF s0.1)(h:Lv s0 par ids s)(b:Int)(x:PW):Lv s0 par ids (newP rec par b x s):=by
 unfold newP;simp only;have hk:=new_keeps (par:=par) h.wf x.tag x.txt x.key b;have hw2:WF (doP (doP s (recMake (s.1.n+1) x.tag x.txt x.key)) (recPut (s.1.n+1) par b)).1:=doP_wf (doP_wf h.wf _) _;generalize doP (doP s (recMake (s.1.n+1) x.tag x.txt x.key)) (recPut (s.1.n+1) par b)=s2 at hk hw2;have hk3:Keeps s.1 (if P3.newA x.attrs=[] then s2 else doP s2 (recAttr (s.1.n+1) (P3.newA x.attrs))).1∧WF (if P3.newA x.attrs=[] then s2 else doP s2 (recAttr (s.1.n+1) (P3.newA x.attrs))).1:=by
  split
  ·exact⟨hk,hw2⟩
  ·obtain⟨h1,h2⟩:=attrs_same s2.1 (s.1.n+1) (P3.newA x.attrs);exact⟨fun y hy=>⟨(h1 y).trans (hk y hy).1,(h2 y).trans (hk y hy).2⟩,doP_wf hw2 _⟩
 generalize (if P3.newA x.attrs=[] then s2 else doP s2 (recAttr (s.1.n+1) (P3.newA x.attrs)))=s3 at hk3;obtain⟨hk3,hw3⟩:=hk3;split
 ·have hne:s.1.n+1≠0:=(by have:=h.wf.n0;omega);obtain⟨k1,k2⟩:=kids_ok hw3 (s.1.n+1);obtain⟨r1,r2⟩:=R s3 (s.1.n+1) _ x.kids hw3 hne k1 k2;refine Keeps.lv h0 h r1 (fun y hy=>?_);obtain⟨a1,a2⟩:=hk3 y hy;have hn:¬In s3.1.l (s.1.n+1) y:=by
   rintro⟨j,hj⟩;obtain⟨e,hc⟩:=keeps_it h.wf hw3 hk3 hy (j+1);rw[hj] at e;rcases hc with hc|hc
   ·rw[hc] at e;exact hne e
   ·rw[←e] at hc;have:=(h.wf.pos hc).2;omega
  obtain⟨c1,c2⟩:=r2 y a1 hn;exact⟨c1,c2.trans a2⟩
 ·exact Keeps.lv h0 h hw3 hk3
theorem Lv.gones(h0:WF s0.1)(hp:par≠0):∀(l:List Int) {ids:List Int} {s:Sg},Lv s0 par ids s→(∀i∈l,i∈ids)→l.Nodup→WF (gonesP l s).1∧Stays s0.1 (gonesP l s).1 par
 |[],_,_,h,_,_=>⟨h.wf,h.st⟩
 |i:: l,ids,s,h,hl,hd=>by
  obtain⟨hd1,hd2⟩:=List.nodup_cons.1 hd;have hi:=h.kid i (hl i (by simp));have h2:Lv s0 par l (doP s (recGone i)):=by
   refine⟨doP_wf h.wf _,h.st.trans h0 h.wf (gone_stays h.wf hi.2),fun j hj=>?_⟩;have hj2:=h.kid j (hl j (by simp[hj]));have hne:j≠i:=fun e=>hd1 (e▸hj)
   obtain⟨a1,a2⟩:=gone_keeps h.wf hj2.1 hne (not_in h.wf hp hi.2 hj2.2);exact⟨a1,a2.trans hj2.2⟩
  exact Lv.gones h0 hp l h2 (fun j hj=>hj) hd2
end
def selF:List Int→List Bool→List Int
 |i:: r,b:: bs=>if b then i:: selF r bs else selF r bs
 |_,_=>[]
theorem selF_sub:∀(ids:List Int) (fl:List Bool),(selF ids fl).Sublist ids
 |[],fl=>by cases fl<;>exact List.Sublist.slnil
 |i:: r,[]=>List.nil_sublist _
 |i:: r,b:: bs=>by
  rw[selF];split
  ·exact(selF_sub r bs).cons_cons _
  ·exact(selF_sub r bs).cons _
theorem selF_all:∀ids:List Int,selF ids (List.replicate ids.length true)=ids
 |[]=>rfl
 |i:: r=>by
  rw[List.length_cons,List.replicate_succ,selF,if_pos rfl,selF_all r]
theorem selF_none:∀(ids:List Int) (n:Nat),selF ids (List.replicate n false)=[]
 |[],n=>by cases n<;>rfl
 |i:: r,0=>rfl
 |i:: r,n+1=>by rw[List.replicate_succ,selF,if_neg (by decide),selF_none r n]
theorem selF_mem:∀{ids:List Int} {fl:List Bool} {t:Nat} {a:Int},fl[t]? = some true→ids[t]? = some a→a∈selF ids fl
 |[],fl,t,a,_,h=>by simp at h
 |i:: r,[],t,a,h,_=>by simp at h
 |i:: r,b:: bs,0,a,h,h2=>by
  simp at h h2;subst h;subst h2;rw[selF,if_pos rfl];simp
 |i:: r,b:: bs,t+1,a,h,h2=>by
  rw[selF];have:=selF_mem (ids:=r) (fl:=bs) (t:=t) (a:=a) (by simpa using h) (by simpa using h2);split
  ·exact List.mem_cons_of_mem _ this
  ·exact this
theorem selF_set:∀{ids:List Int} {fl:List Bool} {t:Nat} {a:Int},ids.Nodup→fl[t]? = some true→ids[t]? = some a→selF ids (fl.set t false)=(selF ids fl).erase a
 |[],fl,t,a,_,_,h=>by simp at h
 |i:: r,[],t,a,_,h,_=>by simp at h
 |i:: r,b:: bs,0,a,_,h,h2=>by
  simp at h h2;subst h;subst h2;rw[List.set_cons_zero,selF,selF,if_neg (by decide),if_pos rfl];simp
 |i:: r,b:: bs,t+1,a,hd,h,h2=>by
  obtain⟨h3,h4⟩:=List.nodup_cons.1 hd;have ih:=selF_set (ids:=r) (fl:=bs) (t:=t) (a:=a) h4 (by simpa using h) (by simpa using h2);have ha:a∈r:=List.mem_of_getElem? (i:=t) (by simpa using h2);rw[List.set_cons_succ,selF,selF,ih];cases b with
  |false=>rfl
  |true=>
   have hne:i≠a:=fun e=>h3 (e▸ha)
   simp[hne]
theorem erase_split{l:List Int}{a:Int}(h:a∈l):l.take (l.idxOf a)++l.drop (l.idxOf a+1)=l.erase a:=by
 rw[←List.eraseIdx_eq_take_drop_succ,List.erase_eq_eraseIdx_of_idxOf rfl]
section
variable{rec:Rec}{s0 s:Sg}{par beh:Int}{ids:List Int}{want:List PW}{old:List Ol}
def atW(rec:Rec)(par beh:Int)(ids:List Int)(old:List Ol)(want:List PW)(s:Sg)(i:Nat):Sg×List Int:=
 ((want.zip (foldM old want).take).take i).foldl (fun p xt=>stepW rec par beh ids xt.1 xt.2 p) (s,ids)
theorem take_len:(foldM old want).take.length=want.length:=(foldM_lens old want).1
theorem atW_succ{i:Nat}(hi:i<want.length):atW rec par beh ids old want s (i+1)=stepW rec par beh ids want[i] ((foldM old want).take[i]'(by rw[take_len];exact hi)) (atW rec par beh ids old want s i):=by
 unfold atW;have hz:i<(want.zip (foldM old want).take).length:=(by rw[List.length_zip,take_len];omega);rw[List.take_succ_eq_append_getElem hz,List.foldl_append,List.getElem_zip];rfl
theorem atW_all:(want.zip (foldM old want).take).foldl (fun p xt=>stepW rec par beh ids xt.1 xt.2 p) (s,ids)=atW rec par beh ids old want s want.length:=by
 unfold atW;rw[List.take_of_length_le (by rw[List.length_zip,take_len];omega)]
structure At(par:Int)(ids:List Int)(old:List Ol)(want:List PW)(s:Sg)(i:Nat)(p:Sg×List Int):Prop where
 lv:Lv s par ids p.1
 left:p.2=selF ids (foldM old (want.take i)).left
theorem at_take{i:Nat}(hi:i<want.length):((foldM old want).take[i]'(by rw[take_len];exact hi))=(scanM want[i] old (foldM old (want.take i)).left old.length).1:=by
 have h:=take_at (old:=old) hi;rw[List.getElem?_eq_getElem (by rw[take_len];exact hi)] at h;exact Option.some.inj h
theorem taken_at(ho:old.length=ids.length){i:Nat}(hi:i<want.length)(h:0≤((foldM old want).take[i]'(by rw[take_len];exact hi))):
 ∃(j:Nat) (a:Int),((foldM old want).take[i]'(by rw[take_len];exact hi))=(j:Int)∧ids[j]? = some a∧(foldM old (want.take i)).left[j]? = some true∧want[i].kind≠4:=by
 rw[at_take hi] at h⊢;obtain⟨j,o,f,hj,e,h1,h2,h3⟩:=scanM_takes _ h;refine⟨j,ids[j]'(by omega),e,List.getElem?_eq_getElem (by omega),h2,fun e4=>?_⟩;unfold takesW at h3;rw[e4] at h3;simp at h3
theorem At.step(R:RecOk19 rec)(h0:WF s.1)(hp:par≠0)(hd:ids.Nodup)(ho:old.length=ids.length){i:Nat}(hi:i<want.length){p:Sg×List Int}(h:At par ids old want s i p):
 At par ids old want s (i+1) (stepW rec par beh ids want[i] ((foldM old want).take[i]'(by rw[take_len];exact hi)) p):=by
 have hs:=foldM_snoc (old:=old) hi;have ht:=at_take (old:=old) hi;unfold stepW;by_cases h4:want[i].kind=4
 ·rw[if_pos h4];refine⟨h.lv,?_⟩;rw[hs,stepM,if_pos h4];exact(selF_none _ _).symm
 ·rw[if_neg h4];have hl:(foldM old (want.take (i+1))).left=leftM (foldM old (want.take i)).left ((foldM old want).take[i]'(by rw[take_len];exact hi)):=(by rw[hs,stepM,if_neg h4,ht]);by_cases h0t:0≤((foldM old want).take[i]'(by rw[take_len];exact hi))
  ·rw[if_pos h0t];obtain⟨j,a,e1,e2,e3,_⟩:=taken_at ho hi h0t;have hg:ids.getD ((foldM old want).take[i]'(by rw[take_len];exact hi)).toNat 0=a:=by
    rw[e1];simp[List.getD,e2]
   simp only[hg];have hain:a∈ids:=List.mem_of_getElem? e2;have ham:a∈p.2:=(by rw[h.left];exact selF_mem e3 e2);have hsub:∀c∈p.2,c∈ids:=fun c hc=>by rw[h.left] at hc;exact(selF_sub _ _).subset hc
   have hmv:=h.lv.move h0 hsub beh a (p.2.idxOf a) hain;have hlf:(moveP p.1 par p.2 beh a (p.2.idxOf a)).2=selF ids (foldM old (want.take (i+1))).left:=by
    show p.2.take (p.2.idxOf a)++p.2.drop (p.2.idxOf a+1)=_;rw[erase_split ham,hl,leftM,if_pos h0t,e1,Int.toNat_natCast,selF_set hd e3 e2,h.left]
   by_cases h3:want[i].kind=3
   ·rw[if_pos h3];exact⟨hmv,hlf⟩
   ·rw[if_neg h3];exact⟨hmv.taken R h0 hp hain _,hlf⟩
  ·rw[if_neg h0t];have hl2:(foldM old (want.take (i+1))).left=(foldM old (want.take i)).left:=(by rw[hl,leftM,if_neg h0t]);by_cases h3:want[i].kind=3
   ·rw[if_pos h3];exact⟨h.lv,by rw[hl2];exact h.left⟩
   ·rw[if_neg h3];exact⟨h.lv.new R h0 _ _,by rw[hl2];exact h.left⟩
theorem at_all(R:RecOk19 rec)(h0:WF s.1)(hp:par≠0)(hk:Kids s par ids)(hd:ids.Nodup)(ho:old.length=ids.length):∀i,i≤want.length→At par ids old want s i (atW rec par beh ids old want s i)
 |0,_=>⟨⟨h0,Stays.refl _ _,hk⟩,by
  show ids=selF ids (foldM old (want.take 0)).left;rw[List.take_zero];show ids=selF ids (List.replicate old.length true);rw[ho,selF_all]⟩
 |i+1,hi=>by
  rw[atW_succ (by omega)];exact(at_all R h0 hp hk hd ho i (by omega)).step R h0 hp hd ho (by omega)
theorem gones_ok(R:RecOk19 rec)(h0:WF s.1)(hp:par≠0)(hk:Kids s par ids)(hd:ids.Nodup)(ho:old.length=ids.length):
 WF (gonesP (atW rec par beh ids old want s want.length).2 (atW rec par beh ids old want s want.length).1).1∧Stays s.1 (gonesP (atW rec par beh ids old want s want.length).2 (atW rec par beh ids old want s want.length).1).1 par:=by
 have h:=at_all (want:=want) (beh:=beh) R h0 hp hk hd ho want.length (Zl);exact Lv.gones h0 hp _ h.lv (fun i hi=>by rw[h.left] at hi;exact(selF_sub _ _).subset hi) (by rw[h.left];exact(selF_sub _ _).nodup hd)
theorem patch_succ(f:Nat)(s:Sg)(par:Int)(ids:List Int)(beh:Int)(want:List PW):patchP (f+1) s par ids beh want=gonesP (atW (fun s i ks w=>patchP f s i ks 0 w) par beh ids (ids.map (oldOf s.1.l)) want s want.length).2 (atW (fun s i ks w=>patchP f s i ks 0 w) par beh ids (ids.map (oldOf s.1.l)) want s want.length).1:=by
 rw[patchP,atW_all]
theorem rec_ok:∀f:Nat,RecOk19 (fun s i ks w=>patchP f s i ks 0 w)
 |0=>fun s i ks w hw _ _ _=>⟨hw,Stays.refl _ _⟩
 |f+1=>fun s i ks w hw hi hk hd=>by
  show WF (patchP (f+1) s i ks 0 w).1∧Stays s.1 (patchP (f+1) s i ks 0 w).1 i;rw[patch_succ];exact gones_ok (rec_ok f) hw hi hk hd (by simp)
theorem patch_ok(f:Nat){s:Sg}{par:Int}{ids:List Int}(beh:Int)(want:List PW)(hw:WF s.1)(hp:par≠0)(hk:Kids s par ids)(hd:ids.Nodup):WF (patchP f s par ids beh want).1∧Stays s.1 (patchP f s par ids beh want).1 par:=by
 cases f with
 |zero=>exact⟨hw,Stays.refl _ _⟩
 |succ f=>
  rw[patch_succ];exact gones_ok (rec_ok f) hw hp hk hd (by simp)
end
mutual
def szW:PW→Nat
 | .mk _ _ _ _ _ ks=>1+szL ks
def szL:List PW→Nat
 |[]=>0
 |x:: r=>szW x+szL r
end
theorem szL_append(a b:List PW):szL (a++b)=szL a+szL b:=by
 induction a with
 |nil=>simp[szL]
 |cons x r ih=>rw[List.cons_append,szL,szL,ih];omega
theorem szL_take{l:List PW}{i:Nat}(h:i<l.length):szL (l.take (i+1))=szL (l.take i)+szW l[i]:=by
 rw[List.take_succ_eq_append_getElem h,szL_append];simp[szL]
theorem szW_kids(x:PW):szW x=1+szL x.kids:=by cases x;rfl
theorem doP_len(s:Sg)(r:Rc):(doP s r).2.length≤s.2.length+1:=by unfold doP;simp only;split<;>simp
theorem doP_n(s:Sg)(r:Rc):(doP s r).1.n≤s.1.n+1:=(apply_n s.1 r).1
theorem doP_n2(s:Sg){r:Rc}(h:r.op≠1):(doP s r).1.n=s.1.n:=apply_n2 h
theorem kids_len19{d:D}(h:WF d)(i:Int):(kidsOf d.l i).length≤200:=by
 unfold kidsOf;cases hf:find d.l i with
 |none=>simp
 |some x=>exact h.kids_len (find_some hf).1
def RecLen(rec:Rec):Prop:=∀(s:Sg) (i:Int) (ks:List Int) (w:List PW),WF s.1→i≠0→Kids s i ks→ks.Nodup→ks.length≤200→(rec s i ks w).1.n≤s.1.n+(szL w:Nat)∧(rec s i ks w).2.length≤s.2.length+200+2000*szL w
section
variable{rec:Rec}{s0 s:Sg}{par beh:Int}{ids:List Int}{want:List PW}{old:List Ol}
theorem rec_len(RL:RecLen rec){i:Int}(hw:WF s.1)(hi:i≠0)(w:List PW):(rec s i (kidsOf s.1.l i) w).1.n≤s.1.n+(szL w:Nat)∧(rec s i (kidsOf s.1.l i) w).2.length≤s.2.length+200+2000*szL w:=by
 obtain⟨k1,k2⟩:=kids_ok hw i;exact RL s i _ w hw hi k1 k2 (kids_len19 hw i)
theorem taken_len(RL:RecLen rec)(hw:WF s.1){id:Int}(hid:id≠0)(x:PW):(takenP rec x id s).1.n≤s.1.n+(szL x.kids:Nat)∧(takenP rec x id s).2.length≤s.2.length+202+2000*szL x.kids:=by
 unfold takenP;simp only;have a:WF (if x.kind=2∧(ndOf s.1.l id).txt.toList≠x.txt.toList then doP s (recText id x.txt) else s).1∧(if x.kind=2∧(ndOf s.1.l id).txt.toList≠x.txt.toList then doP s (recText id x.txt) else s).1.n=s.1.n∧(if x.kind=2∧(ndOf s.1.l id).txt.toList≠x.txt.toList then doP s (recText id x.txt) else s).2.length≤s.2.length+1:=by
  split
  ·exact⟨doP_wf hw _,doP_n2 s (show(5:Int)≠1 by decide),doP_len _ _⟩
  ·exact⟨hw,rfl,by omega⟩
 generalize (if x.kind=2∧(ndOf s.1.l id).txt.toList≠x.txt.toList then doP s (recText id x.txt) else s)=s2 at a;obtain⟨a1,a2,a3⟩:=a;have b:WF (if x.kind=1∧P3.sameA (P3.joinA (ndOf s.1.l id).attrs x.attrs) (ndOf s.1.l id).attrs=false then doP s2 (recAttr id (P3.joinA (ndOf s.1.l id).attrs x.attrs)) else s2).1∧(if x.kind=1∧P3.sameA (P3.joinA (ndOf s.1.l id).attrs x.attrs) (ndOf s.1.l id).attrs=false then doP s2 (recAttr id (P3.joinA (ndOf s.1.l id).attrs x.attrs)) else s2).1.n=s2.1.n∧(if x.kind=1∧P3.sameA (P3.joinA (ndOf s.1.l id).attrs x.attrs) (ndOf s.1.l id).attrs=false then doP s2 (recAttr id (P3.joinA (ndOf s.1.l id).attrs x.attrs)) else s2).2.length≤s2.2.length+1:=by
  split
  ·exact⟨doP_wf a1 _,doP_n2 s2 (show(4:Int)≠1 by decide),doP_len _ _⟩
  ·exact⟨a1,rfl,by omega⟩
 generalize (if x.kind=1∧P3.sameA (P3.joinA (ndOf s.1.l id).attrs x.attrs) (ndOf s.1.l id).attrs=false then doP s2 (recAttr id (P3.joinA (ndOf s.1.l id).attrs x.attrs)) else s2)=s3 at b;obtain⟨b1,b2,b3⟩:=b;split
 ·obtain⟨c1,c2⟩:=rec_len RL b1 hid x.kids;exact⟨by omega,by omega⟩
 ·exact⟨by omega,by omega⟩
theorem new_len(RL:RecLen rec)(hw:WF s.1)(b:Int)(x:PW):(newP rec par b x s).1.n≤s.1.n+1+(szL x.kids:Nat)∧(newP rec par b x s).2.length≤s.2.length+203+2000*szL x.kids:=by
 unfold newP;simp only;have hw2:WF (doP (doP s (recMake (s.1.n+1) x.tag x.txt x.key)) (recPut (s.1.n+1) par b)).1:=doP_wf (doP_wf hw _) _;have h1:(doP (doP s (recMake (s.1.n+1) x.tag x.txt x.key)) (recPut (s.1.n+1) par b)).1.n≤s.1.n+1:=by
  rw[doP_n2 _ (show(2:Int)≠1 by decide)];exact doP_n _ _
 have h2:(doP (doP s (recMake (s.1.n+1) x.tag x.txt x.key)) (recPut (s.1.n+1) par b)).2.length≤s.2.length+2:=Nat.le_trans (doP_len _ _) (by have:=doP_len s (recMake (s.1.n+1) x.tag x.txt x.key);omega);generalize doP (doP s (recMake (s.1.n+1) x.tag x.txt x.key)) (recPut (s.1.n+1) par b)=s2 at hw2 h1 h2;have c:WF (if P3.newA x.attrs=[] then s2 else doP s2 (recAttr (s.1.n+1) (P3.newA x.attrs))).1∧(if P3.newA x.attrs=[] then s2 else doP s2 (recAttr (s.1.n+1) (P3.newA x.attrs))).1.n=s2.1.n∧(if P3.newA x.attrs=[] then s2 else doP s2 (recAttr (s.1.n+1) (P3.newA x.attrs))).2.length≤s2.2.length+1:=by
  split
  ·exact⟨hw2,rfl,by omega⟩
  ·exact⟨doP_wf hw2 _,doP_n2 s2 (show(4:Int)≠1 by decide),doP_len _ _⟩
 generalize (if P3.newA x.attrs=[] then s2 else doP s2 (recAttr (s.1.n+1) (P3.newA x.attrs)))=s3 at c;obtain⟨c1,c2,c3⟩:=c;split
 ·obtain⟨d1,d2⟩:=rec_len RL (i:=s.1.n+1) c1 (by have:=hw.n0;omega) x.kids;exact⟨by omega,by omega⟩
 ·exact⟨by omega,by omega⟩
theorem move_len(hw:WF s.1)(left:List Int)(beh id:Int)(k:Nat):(moveP s par left beh id k).1.1.n=s.1.n∧(moveP s par left beh id k).1.2.length≤s.2.length+1+left.length:=by
 unfold moveP;simp only;split
 ·exact⟨rfl,by omega⟩
 split
 ·exact⟨doP_n2 s (show(2:Int)≠1 by decide),by have:=doP_len s (recPut id par (nextP left 0));omega⟩
 ·obtain⟨_,h2,h3⟩:=puts_wf par (nextP (left.drop (k+1)) beh) (left.take k) hw;rw[List.length_take] at h3;exact⟨h2,by omega⟩
theorem gones_len:∀(l:List Int) (s:Sg),(gonesP l s).1.n=s.1.n∧(gonesP l s).2.length≤s.2.length+l.length
 |[],s=>⟨rfl,by simp[gonesP]⟩
 |i:: l,s=>by
  obtain⟨h1,h2⟩:=gones_len l (doP s (recGone i));have h3:=doP_len s (recGone i);refine⟨h1.trans (doP_n2 s (show(3:Int)≠1 by decide)),?_⟩;show(gonesP l (doP s (recGone i))).2.length≤_;simp only[List.length_cons];omega
theorem at_len(R:RecOk19 rec)(RL:RecLen rec)(h0:WF s.1)(hp:par≠0)(hk:Kids s par ids)(hd:ids.Nodup)(hl:ids.length≤200)(ho:old.length=ids.length):∀i,i≤want.length→
 (atW rec par beh ids old want s i).1.1.n≤s.1.n+(szL (want.take i):Nat)∧(atW rec par beh ids old want s i).1.2.length≤s.2.length+2000*szL (want.take i)
 |0,_=>by
  show s.1.n≤s.1.n+(szL (want.take 0):Nat)∧s.2.length≤s.2.length+2000*szL (want.take 0);exact⟨by omega,by omega⟩
 |i+1,hi=>by
  obtain⟨a1,a2⟩:=at_len R RL h0 hp hk hd hl ho i (by omega);have hA:=at_all (want:=want) (beh:=beh) R h0 hp hk hd ho i (by omega);have hi':i<want.length:=(by omega);have hlen:(atW rec par beh ids old want s i).2.length≤200:=by
   rw[hA.left];exact Nat.le_trans (selF_sub _ _).length_le hl
  have hw:=hA.lv.wf;have hkid:=hA.lv.kid;rw[atW_succ hi',szL_take hi',szW_kids];generalize atW rec par beh ids old want s i=p at a1 a2 hlen hw hkid;unfold stepW;split
  ·(try dsimp only);exact⟨by omega,by omega⟩
  split
  ·rename_i h4 ht;obtain⟨j,a,e1,e2,_,_⟩:=taken_at ho hi' ht;have hg:ids.getD ((foldM old want).take[i]'(by rw[take_len];exact hi')).toNat 0=a:=by
    rw[e1];simp[List.getD,e2]
   simp only[hg];obtain⟨m1,m2⟩:=move_len (par:=par) hw p.2 beh a (p.2.idxOf a);have hain:a∈ids:=List.mem_of_getElem? e2;have ha0:a≠0:=hw.tr.ne0 (hkid a hain).1;have hwm:WF (moveP p.1 par p.2 beh a (p.2.idxOf a)).1.1:=by
    unfold moveP;simp only;split
    ·exact hw
    split
    ·exact doP_wf hw _
    ·exact(puts_wf _ _ _ hw).1
   split
   ·(try dsimp only);exact⟨by omega,by omega⟩
   ·obtain⟨t1,t2⟩:=taken_len RL hwm ha0 want[i]
    (try dsimp only);exact⟨by omega,by omega⟩
  split
  ·(try dsimp only);exact⟨by omega,by omega⟩
  ·obtain⟨t1,t2⟩:=new_len (par:=par) RL hw (nextP p.2 beh) want[i]
   (try dsimp only);exact⟨by omega,by omega⟩
theorem gones_all(R:RecOk19 rec)(RL:RecLen rec)(h0:WF s.1)(hp:par≠0)(hk:Kids s par ids)(hd:ids.Nodup)(hl:ids.length≤200)(ho:old.length=ids.length):
 (gonesP (atW rec par beh ids old want s want.length).2 (atW rec par beh ids old want s want.length).1).1.n≤s.1.n+(szL want:Nat)∧(gonesP (atW rec par beh ids old want s want.length).2 (atW rec par beh ids old want s want.length).1).2.length≤s.2.length+200+2000*szL want:=by
 obtain⟨a1,a2⟩:=at_len (want:=want) (beh:=beh) R RL h0 hp hk hd hl ho want.length (Zl);have hA:=at_all (want:=want) (beh:=beh) R h0 hp hk hd ho want.length (Zl);have hlen:(atW rec par beh ids old want s want.length).2.length≤200:=by
  rw[hA.left];exact Nat.le_trans (selF_sub _ _).length_le hl
 rw[List.take_length] at a1 a2;obtain⟨g1,g2⟩:=gones_len (atW rec par beh ids old want s want.length).2 (atW rec par beh ids old want s want.length).1;exact⟨by omega,by omega⟩
theorem rec_len_ok:∀f:Nat,RecLen (fun s i ks w=>patchP f s i ks 0 w)
 |0=>fun s i ks w _ _ _ _ _=>by
  show s.1.n≤s.1.n+(szL w:Nat)∧s.2.length≤s.2.length+200+2000*szL w;exact⟨by omega,by omega⟩
 |f+1=>fun s i ks w hw hi hk hd hl=>by
  show(patchP (f+1) s i ks 0 w).1.n≤_∧(patchP (f+1) s i ks 0 w).2.length≤_;rw[patch_succ];exact gones_all (rec_ok f) (rec_len_ok f) hw hi hk hd hl (by simp)
theorem patch_len(f:Nat){s:Sg}{par:Int}{ids:List Int}(beh:Int)(want:List PW)(hw:WF s.1)(hp:par≠0)(hk:Kids s par ids)(hd:ids.Nodup)(hl:ids.length≤200):
 (patchP (f+1) s par ids beh want).1.n≤s.1.n+(szL want:Nat)∧(patchP (f+1) s par ids beh want).2.length≤s.2.length+200+2000*szL want:=by
 rw[patch_succ];exact gones_all (rec_ok f) (rec_len_ok f) hw hp hk hd hl (by simp)
end
end P19
namespace P3
def Diff(a b:At):Prop:=a.nm.toList≠b.nm.toList
theorem addA_mem{laid m:List At}{a:At}(h:a∈addA laid m):a∈laid∨a∈m:=by
 induction m generalizing laid with
 |nil=>exact .inl h
 |cons b m ih=>
  simp only[addA] at h;split at h
  ·rcases ih h with h|h
   ·exact .inl h
   ·exact .inr (List.mem_cons_of_mem _ h)
  ·rcases ih h with h|h
   ·rcases List.mem_append.1 h with h|h
    ·exact .inl h
    ·exact .inr (by rw[List.mem_singleton] at h;subst h;exact List.mem_cons_self)
   ·exact .inr (List.mem_cons_of_mem _ h)
theorem addA_diff{laid m:List At}(h:laid.Pairwise Diff):(addA laid m).Pairwise Diff:=by
 induction m generalizing laid with
 |nil=>exact h
 |cons b m ih=>
  simp only[addA];split
  ·exact ih h
  ·rename_i hb;refine ih (List.pairwise_append.2 ⟨h,List.pairwise_singleton _ _,fun x hx y hy=>?_⟩);rw[List.mem_singleton] at hy;subst hy;exact hasA_iff_no.1 (by simpa using hb) x hx
theorem joinA_mem{l m:List At}{a:At}(h:a∈joinA l m):a∈l∨a∈m:=by
 rcases addA_mem (List.mem_of_mem_take h) with h|h
 ·exact .inl (thoseA_mem.1 h).1
 ·exact .inr (thoseA_mem.1 h).1
theorem newA_mem{m:List At}{a:At}(h:a∈newA m):a∈m:=by
 rcases List.mem_append.1 h with h|h<;>exact(thoseA_mem.1 h).1
theorem thoseA_diff{l:List At}(s:Bool)(h:l.Pairwise Diff):(thoseA l s).Pairwise Diff:=h.sublist List.filter_sublist
theorem diff_two{m:List At}(h:m.Pairwise Diff){a b:At}(ha:a∈m)(hb:b∈m)(hne:a.st≠b.st):Diff a b:=by
 obtain⟨i,hi,rfl⟩:=List.getElem_of_mem ha;obtain⟨j,hj,rfl⟩:=List.getElem_of_mem hb;rcases Nat.lt_trichotomy i j with hij|hij|hij
 ·exact List.pairwise_iff_getElem.1 h i j hi hj hij
 ·subst hij;exact absurd rfl hne
 ·exact fun e=>List.pairwise_iff_getElem.1 h j i hj hi hij e.symm
theorem newA_diff{m:List At}(h:m.Pairwise Diff):(newA m).Pairwise Diff:=by
 unfold newA;refine List.pairwise_append.2 ⟨thoseA_diff _ h,thoseA_diff _ h,fun a ha b hb=>?_⟩;obtain⟨ha1,ha2⟩:=thoseA_mem.1 ha;obtain⟨hb1,hb2⟩:=thoseA_mem.1 hb;exact diff_two h ha1 hb1 (by rw[ha2,hb2];decide)
theorem joinA_may{l m:List At}(hl:mayA l=true)(hm:mayA m=true):mayA (joinA l m)=true:=by
 obtain⟨_,hl2,hl3⟩:=mayA_iff.1 hl;obtain⟨_,hm2,_⟩:=mayA_iff.1 hm;refine mayA_iff.2 ⟨joinA_len l m,fun a ha=>?_,?_⟩
 ·rcases joinA_mem ha with h|h
  ·exact hl2 a h
  ·exact hm2 a h
 ·exact(addA_diff (thoseA_diff true hl3)).sublist (List.take_sublist _ _)
theorem newA_may{m:List At}(hm:mayA m=true):mayA (newA m)=true:=by
 obtain⟨h1,h2,h3⟩:=mayA_iff.1 hm;exact mayA_iff.2 ⟨by rw[newA_len];exact h1,fun a ha=>h2 a (newA_mem ha),newA_diff h3⟩
end P3
namespace P19
open P5 P14 P16
def Cl(T:D→Prop):Prop:=∀d r,T d→T (applyD d r).2
section
variable{T:D→Prop}{rec:Rec}{s:Sg}{par beh:Int}{ids:List Int}{want:List PW}{old:List Ol}
theorem cl_do(c:Cl T)(h:T s.1)(r:Rc):T (doP s r).1:=c _ _ h
theorem cl_puts(c:Cl T)(par b:Int):∀(l:List Int) {s:Sg},T s.1→T (putsP par b l s).1
 |[],_,h=>h
 |i:: l,s,h=>cl_puts c par b l (cl_do c h _)
theorem cl_gones(c:Cl T):∀(l:List Int) {s:Sg},T s.1→T (gonesP l s).1
 |[],_,h=>h
 |i:: l,s,h=>cl_gones c l (cl_do c h _)
theorem cl_move(c:Cl T)(h:T s.1)(par:Int)(left:List Int)(beh id:Int)(k:Nat):T (moveP s par left beh id k).1.1:=by
 unfold moveP;simp only;split
 ·exact h
 split
 ·exact cl_do c h _
 ·exact cl_puts c _ _ _ h
def RecCl(T:D→Prop)(rec:Rec):Prop:=∀s i ks w,T s.1→T (rec s i ks w).1
theorem cl_taken(c:Cl T)(R:RecCl T rec)(x:PW)(id:Int)(h:T s.1):T (takenP rec x id s).1:=by
 unfold takenP;simp only;have a:T (if x.kind=2∧(ndOf s.1.l id).txt.toList≠x.txt.toList then doP s (recText id x.txt) else s).1:=by
  split
  ·exact cl_do c h _
  ·exact h
 generalize (if x.kind=2∧(ndOf s.1.l id).txt.toList≠x.txt.toList then doP s (recText id x.txt) else s)=s2 at a;have b:T (if x.kind=1∧P3.sameA (P3.joinA (ndOf s.1.l id).attrs x.attrs) (ndOf s.1.l id).attrs=false then doP s2 (recAttr id (P3.joinA (ndOf s.1.l id).attrs x.attrs)) else s2).1:=by
  split
  ·exact cl_do c a _
  ·exact a
 split
 ·exact R _ _ _ _ b
 ·exact b
theorem cl_new(c:Cl T)(R:RecCl T rec)(par b:Int)(x:PW)(h:T s.1):T (newP rec par b x s).1:=by
 unfold newP;simp only;have h2:=cl_do c (cl_do c h (recMake (s.1.n+1) x.tag x.txt x.key)) (recPut (s.1.n+1) par b);have h3:T (if P3.newA x.attrs=[] then doP (doP s (recMake (s.1.n+1) x.tag x.txt x.key)) (recPut (s.1.n+1) par b) else doP (doP (doP s (recMake (s.1.n+1) x.tag x.txt x.key)) (recPut (s.1.n+1) par b)) (recAttr (s.1.n+1) (P3.newA x.attrs))).1:=by
  split
  ·exact h2
  ·exact cl_do c h2 _
 split
 ·exact R _ _ _ _ h3
 ·exact h3
theorem cl_step(c:Cl T)(R:RecCl T rec)(x:PW)(t:Int)(p:Sg×List Int)(h:T p.1.1):T (stepW rec par beh ids x t p).1.1:=by
 unfold stepW;split
 ·exact h
 split
 ·simp only;split
  ·exact cl_move c h _ _ _ _ _
  ·exact cl_taken c R _ _ (cl_move c h _ _ _ _ _)
 split
 ·exact h
 ·exact cl_new c R _ _ _ h
theorem cl_at(c:Cl T)(R:RecCl T rec)(h:T s.1):∀i,i≤want.length→T (atW rec par beh ids old want s i).1.1
 |0,_=>h
 |i+1,hi=>by
  rw[atW_succ (by omega)];exact cl_step c R _ _ _ (cl_at c R h i (by omega))
theorem rec_cl(c:Cl T):∀f:Nat,RecCl T (fun s i ks w=>patchP f s i ks 0 w)
 |0=>fun _ _ _ _ h=>h
 |f+1=>fun s i ks w h=>by
  show T (patchP (f+1) s i ks 0 w).1;rw[patch_succ];exact cl_gones c _ (cl_at c (rec_cl c f) h _ (Zl))
end
def MayD(d:D):Prop:=∀x∈d.l,P3.mayA x.attrs=true
theorem may_nil:P3.mayA []=true:=P3.mayA_iff.2 ⟨by simp,fun a h=>absurd h (by simp),List.Pairwise.nil⟩
theorem may_upd{l:List Nd}{i:Int}{f:Nd→Nd}(h:∀x∈l,P3.mayA x.attrs=true)(hf:∀x,P3.mayA x.attrs=true→P3.mayA (f x).attrs=true):∀x∈upd l i f,P3.mayA x.attrs=true:=by
 intro z hz;obtain⟨x,hx,rfl⟩:=mem_upd.1 hz;split
 ·exact hf x (h x hx)
 ·exact h x hx
theorem may_leave{l:List Nd}(i:Int)(h:∀x∈l,P3.mayA x.attrs=true):∀x∈leaveL l i,P3.mayA x.attrs=true:=by
 unfold leaveL;split
 ·exact h
 ·exact may_upd (may_upd h (fun _ h=>h)) (fun _ h=>h)
theorem may_cl:Cl MayD:=fun d r h=>by
 unfold applyD;split
 ·unfold makeD;split
  ·exact h
  split
  ·exact h
  ·intro x hx;rcases List.mem_append.1 hx with hx|hx
   ·exact h x hx
   ·rw[List.mem_singleton] at hx;subst hx;exact may_nil
 split
 ·unfold putD;split
  ·exact may_upd (may_upd (may_leave _ h) (fun _ h=>h)) (fun _ h=>h)
  ·exact h
 split
 ·unfold goneD;split
  ·exact h
  split
  ·exact h
  ·intro x hx;exact may_leave _ h x (List.mem_filter.1 hx).1
 split
 ·unfold attrsD;split
  ·exact h
  split
  ·exact h
  split
  ·exact h
  ·rename_i hm;exact may_upd h (fun x _=>by show P3.mayA r.attrs=true;simpa using hm)
 split
 ·unfold dataD;split
  ·exact h
  split
  ·exact h
  split
  ·exact h
  ·exact may_upd h (fun _ h=>h)
 ·exact h
mutual
def dW:PW→Nat
 | .mk _ _ _ _ _ ks=>1+dL ks
def dL:List PW→Nat
 |[]=>0
 |x:: r=>max (dW x) (dL r)
end
theorem dL_at{x:PW}:∀{l:List PW},x∈l→dW x≤dL l
 |[],h=>by cases h
 |y:: r,h=>by
  rw[dL];rcases List.mem_cons.1 h with rfl|h
  ·omega
  ·have:=dL_at h;omega
theorem dW_kids(x:PW):dW x=1+dL x.kids:=by cases x;rfl
section
variable{rec:Rec}{par beh:Int}{ids:List Int}{x:PW}{t:Int}{p:Sg×List Int}{j:Nat}{a:Int}
theorem step_four(h:x.kind=4):stepW rec par beh ids x t p=(p.1,[]):=by unfold stepW;rw[if_pos h]
theorem step_skip(h:x.kind=3)(ht:¬0≤t):stepW rec par beh ids x t p=p:=by
 unfold stepW;rw[if_neg (by omega),if_neg ht,if_pos h]
theorem getD_at(e:t=(j:Int))(hj:ids[j]? = some a):ids.getD t.toNat 0=a:=by
 rw[e];simp[List.getD,hj]
theorem step_stay(h:x.kind=3)(e:t=(j:Int))(hj:ids[j]? = some a):stepW rec par beh ids x t p=moveP p.1 par p.2 beh a (p.2.idxOf a):=by
 unfold stepW;rw[if_neg (by omega),if_pos (by omega)];simp only[getD_at e hj];rw[if_pos h]
theorem step_new(h4:x.kind≠4)(h3:x.kind≠3)(ht:¬0≤t):stepW rec par beh ids x t p=(newP rec par (nextP p.2 beh) x p.1,p.2):=by
 unfold stepW;rw[if_neg h4,if_neg ht,if_neg h3]
theorem step_taken(h4:x.kind≠4)(h3:x.kind≠3)(e:t=(j:Int))(hj:ids[j]? = some a):stepW rec par beh ids x t p=(takenP rec x a (moveP p.1 par p.2 beh a (p.2.idxOf a)).1,(moveP p.1 par p.2 beh a (p.2.idxOf a)).2):=by
 unfold stepW;rw[if_neg h4,if_pos (by omega)];simp only[getD_at e hj];rw[if_neg h3]
variable{s:Sg}{b id:Int}
def new2(par b:Int)(x:PW)(s:Sg):Sg:=doP (doP s (recMake (s.1.n+1) x.tag x.txt x.key)) (recPut (s.1.n+1) par b)
def new3(par b:Int)(x:PW)(s:Sg):Sg:=if P3.newA x.attrs=[] then new2 par b x s else doP (new2 par b x s) (recAttr (s.1.n+1) (P3.newA x.attrs))
theorem new2_er(t:WV):new2 par b (er t) s=doP (doP s (recMake (s.1.n+1) t.tag t.txt t.key)) (recPut (s.1.n+1) par b):=by
 unfold new2;rw[er_parts];rfl
theorem er_attrs(t:WV):(er t).attrs=t.attrs:=by rw[er_parts];rfl
theorem er_kids(t:WV):(er t).kids=erL t.kids:=by rw[er_parts];rfl
theorem er_txt(t:WV):(er t).txt=t.txt:=by rw[er_parts];rfl
theorem new3_no{t:WV}(h:P3.newA t.attrs=[]):new3 par b (er t) s=new2 par b (er t) s:=by
 unfold new3;rw[er_attrs,if_pos h]
theorem new3_at{t:WV}(h:P3.newA t.attrs≠[]):new3 par b (er t) s=doP (new2 par b (er t) s) (recAttr (s.1.n+1) (P3.newA t.attrs)):=by
 unfold new3;rw[er_attrs,if_neg h]
theorem new_kid(h:x.kind=1):newP rec par b x s=rec (new3 par b x s) (s.1.n+1) (kidsOf (new3 par b x s).1.l (s.1.n+1)) x.kids:=by
 unfold newP;simp only;rw[if_pos h];rfl
theorem new_no(h:x.kind≠1):newP rec par b x s=new3 par b x s:=by
 unfold newP;simp only;rw[if_neg h];rfl
theorem taken_text(h:x.kind=2):takenP rec x id s=if(ndOf s.1.l id).txt.toList≠x.txt.toList then doP s (recText id x.txt) else s:=by
 unfold takenP;simp only;rw[if_neg (by omega),if_neg (by omega)];by_cases ht:(ndOf s.1.l id).txt.toList≠x.txt.toList
 ·rw[if_pos ⟨h,ht⟩,if_pos ht]
 ·rw[if_neg (fun e=>ht e.2),if_neg ht]
def tak3(x:PW)(id:Int)(s:Sg):Sg:=if P3.sameA (P3.joinA (ndOf s.1.l id).attrs x.attrs) (ndOf s.1.l id).attrs=false then doP s (recAttr id (P3.joinA (ndOf s.1.l id).attrs x.attrs)) else s
theorem tak3_is{t:WV}{nd:Nd}(h:ndOf s.1.l id=nd):tak3 (er t) id s=if P3.sameA (P3.joinA nd.attrs t.attrs) nd.attrs=false then doP s (recAttr id (P3.joinA nd.attrs t.attrs)) else s:=by
 unfold tak3;rw[h,er_attrs]
theorem taken_elem(h:x.kind=1):takenP rec x id s=rec (tak3 x id s) id (kidsOf (tak3 x id s).1.l id) x.kids:=by
 unfold takenP tak3;simp only;rw[if_pos h,if_neg (show¬(x.kind=2∧(ndOf s.1.l id).txt.toList≠x.txt.toList) from fun e=>by have:=e.1;omega)];by_cases ht:P3.sameA (P3.joinA (ndOf s.1.l id).attrs x.attrs) (ndOf s.1.l id).attrs=false
 ·rw[if_pos ⟨h,ht⟩,if_pos ht]
 ·rw[if_neg (fun e=>ht e.2),if_neg ht]
theorem taken_no(h1:x.kind≠1)(h2:x.kind≠2):takenP rec x id s=s:=by
 unfold takenP;simp only;rw[if_neg h1,if_neg (fun e=>h1 e.1),if_neg (fun e=>h2 e.1)]
end
end P19
namespace P6
open P5
end P6
namespace P19
open P5 P6 P14 P16
def keyOf_(l:List Nd)(y:Int):ByteArray:=match find l y with
 |some x=>x.key
 |none=>⟨#[]⟩
structure Tg(d d':D):Prop where
 n:d.n≤d'.n
 room:d'.R=d.R
 tag:∀y,y≤d.n→hasL d'.l y=true→hasL d.l y=true∧tagOf d'.l y=tagOf d.l y∧keyOf_ d'.l y=keyOf_ d.l y
theorem Tg.refl(d:D):Tg d d:=⟨Int.le_refl _,rfl,fun _ _ h=>⟨h,rfl,rfl⟩⟩
theorem Tg.trans{d d' d2:D}(h:Tg d d')(k:Tg d' d2):Tg d d2:=⟨Int.le_trans h.n k.n,k.room.trans h.room,fun y hy hh=>by
 obtain⟨a1,a2,a3⟩:=k.tag y (Int.le_trans hy h.n) hh;obtain⟨b1,b2,b3⟩:=h.tag y hy a1;exact⟨b1,a2.trans b2,a3.trans b3⟩⟩
theorem tag_upd{l:List Nd}{i:Int}{f:Nd→Nd}(h1:∀x,(f x).id=x.id)(h2:∀x,(f x).tag=x.tag)(h3:∀x,(f x).key=x.key)(y:Int):tagOf (upd l i f) y=tagOf l y∧keyOf_ (upd l i f) y=keyOf_ l y:=by
 unfold tagOf keyOf_;rw[find_upd l i f h1];cases find l y with
 |none=>exact⟨rfl,rfl⟩
 |some x=>
  simp only[Option.map_some];by_cases e:x.id=i
  ·rw[if_pos e];exact⟨h2 x,h3 x⟩
  ·rw[if_neg e];exact⟨rfl,rfl⟩
theorem tag_leave(l:List Nd)(i y:Int):tagOf (leaveL l i) y=tagOf l y∧keyOf_ (leaveL l i) y=keyOf_ l y:=by
 unfold leaveL;split
 ·exact⟨rfl,rfl⟩
 ·obtain⟨a1,a2⟩:=tag_upd (l:=upd l (parOf l i) (withKids (less i))) (i:=i) (f:=withPar 0) (fun _=>rfl) (fun _=>rfl) (fun _=>rfl) y;obtain⟨b1,b2⟩:=tag_upd (l:=l) (i:=parOf l i) (f:=withKids (less i)) (fun _=>rfl) (fun _=>rfl) (fun _=>rfl) y;exact⟨a1.trans b1,a2.trans b2⟩
theorem tg_upd{d:D}{i:Int}{f:Nd→Nd}(h1:∀x,(f x).id=x.id)(h2:∀x,(f x).tag=x.tag)(h3:∀x,(f x).key=x.key):Tg d {d with l:=upd d.l i f}:=
 ⟨Int.le_refl _,rfl,fun y _ hh=>⟨by rw[←has_upd d.l i f h1 y];exact hh,tag_upd h1 h2 h3 y⟩⟩
theorem tg_apply{d:D}(hw:WF d)(r:Rc):Tg d (applyD d r).2:=by
 unfold applyD;split
 ·unfold makeD;split
  ·exact Tg.refl d
  split
  ·exact Tg.refl d
  ·rename_i c1 c2;simp only[ne_eq,not_or,Classical.not_not] at c1;refine⟨by show d.n≤d.n+1;omega,rfl,fun y hy hh=>?_⟩;have hnx:hasL d.l (newN r.id r.tag r.txt r.key).id=false:=by
    show hasL d.l r.id=false;rw[c1.1];exact hw.next
   have hne:y≠(newN r.id r.tag r.txt r.key).id:=by
    show y≠r.id;rw[c1.1];omega
   have hf:find (d.l++[newN r.id r.tag r.txt r.key]) y=find d.l y:=(by rw[find_new hnx,if_neg hne]);refine⟨?_,?_,?_⟩
   ·have:hasL (d.l++[newN r.id r.tag r.txt r.key]) y=true:=hh;unfold hasL at this⊢;rwa[hf] at this
   ·show tagOf (d.l++[newN r.id r.tag r.txt r.key]) y=_;unfold tagOf;rw[hf]
   ·show keyOf_ (d.l++[newN r.id r.tag r.txt r.key]) y=_;unfold keyOf_;rw[hf]
 split
 ·unfold putD;split
  ·refine⟨Int.le_refl _,rfl,fun y _ hh=>⟨by rw[←put_has y];exact hh,?_⟩⟩;show tagOf (putL d.l r.id r.par r.bef) y=_∧keyOf_ (putL d.l r.id r.par r.bef) y=_;unfold putL;obtain⟨a1,a2⟩:=tag_upd (l:=upd (leaveL d.l r.id) r.par (withKids (insA r.id r.bef))) (i:=r.id) (f:=withPar r.par) (fun _=>rfl) (fun _=>rfl) (fun _=>rfl) y;obtain⟨b1,b2⟩:=tag_upd (l:=leaveL d.l r.id) (i:=r.par) (f:=withKids (insA r.id r.bef)) (fun _=>rfl) (fun _=>rfl) (fun _=>rfl) y;obtain⟨c1,c2⟩:=tag_leave d.l r.id y;exact⟨(a1.trans b1).trans c1,(a2.trans b2).trans c2⟩
  ·exact Tg.refl d
 split
 ·unfold goneD;split
  ·exact Tg.refl d
  split
  ·exact Tg.refl d
  ·refine⟨Int.le_refl _,rfl,fun y _ hh=>?_⟩;have hh:hasL (goneL d.l r.id) y=true:=hh;unfold goneL at hh;obtain⟨h1,h2⟩:=(out_has _ _ _).1 hh;rw[leave_has] at h1;obtain⟨c1,c2⟩:=tag_leave d.l r.id y;have hf:find (goneL d.l r.id) y=find (leaveL d.l r.id) y:=(by unfold goneL;rw[out_find,if_neg h2]);refine⟨h1,?_,?_⟩
   ·rw[←c1];show tagOf (goneL d.l r.id) y=_;unfold tagOf;rw[hf]
   ·rw[←c2];show keyOf_ (goneL d.l r.id) y=_;unfold keyOf_;rw[hf]
 split
 ·unfold attrsD;split
  ·exact Tg.refl d
  split
  ·exact Tg.refl d
  split
  ·exact Tg.refl d
  ·exact tg_upd (fun _=>rfl) (fun _=>rfl) (fun _=>rfl)
 split
 ·unfold dataD;split
  ·exact Tg.refl d
  split
  ·exact Tg.refl d
  split
  ·exact Tg.refl d
  ·exact tg_upd (fun _=>rfl) (fun _=>rfl) (fun _=>rfl)
 ·exact Tg.refl d
theorem len_apply(d:D)(r:Rc):(applyD d r).2.l.length≤d.l.length+(if r.op=1 then 1 else 0):=by
 unfold applyD;split
 ·unfold makeD;split
  ·simp
  split
  ·simp
  ·simp
 split
 ·unfold putD;split
  ·show(putL d.l r.id r.par r.bef).length≤_;rw[len_ids (put_ids (l:=d.l))];omega
  ·simp
 split
 ·unfold goneD;split
  ·simp
  split
  ·simp
  ·show(goneL d.l r.id).length≤_;have h1:(goneL d.l r.id).length≤(leaveL d.l r.id).length:=List.length_filter_le _ _;have h2:=len_ids (leave_ids d.l r.id);omega
 split
 ·unfold attrsD;split
  ·simp
  split
  ·simp
  split
  ·simp
  ·show(upd d.l r.id (withAttrs r.attrs)).length≤_;rw[len_ids (upd_ids d.l r.id (withAttrs r.attrs) (fun _=>rfl))];omega
 split
 ·unfold dataD;split
  ·simp
  split
  ·simp
  split
  ·simp
  ·show(upd d.l r.id (withTxt r.txt)).length≤_;rw[len_ids (upd_ids d.l r.id (withTxt r.txt) (fun _=>rfl))];omega
 ·simp
def OkD(s:Sg)(r:Rc):Prop:=(applyD s.1 r).1=0
theorem okd_put{s:Sg}{i p b:Int}(h:PutOk s.1.l i p b):OkD s (recPut i p b):=by
 unfold OkD;have he:putErr s.1.l i p b=0:=by
  unfold putErr;rw[if_neg,if_neg h.h1,if_neg (by rw[h.hk];decide),if_neg,if_neg (by rw[h.hn];decide)]
  ·rintro⟨h1,h2⟩;rcases h.hb with e|⟨_,e2,e3⟩
   ·exact h1 e
   ·rcases h2 with e|e
    ·exact e e2
    ·exact e3 e
  ·rintro(e|e|⟨e1,e2⟩)
   ·rw[h.hi] at e;cases e
   ·rw[h.hp] at e;cases e
   ·rcases h.hb with e|⟨e3,_⟩
    ·exact e1 e
    ·rw[e3] at e2;cases e2
 show(applyD s.1 (recPut i p b)).1=0;unfold applyD;rw[if_neg (show¬(recPut i p b).op=1 from(by decide:¬(2:Int)=1)),if_pos (show(recPut i p b).op=2 from rfl)];unfold putD;rw[if_pos (show putErr s.1.l (recPut i p b).id (recPut i p b).par (recPut i p b).bef=0 from he)]
theorem okd_gone{s:Sg}{i:Int}(h:hasL s.1.l i=true)(h1:i≠1):OkD s (recGone i):=by
 unfold OkD applyD;rw[if_neg (show¬(recGone i).op=1 from(by decide:¬(3:Int)=1)),if_neg (show¬(recGone i).op=2 from(by decide:¬(3:Int)=2)),if_pos (show(recGone i).op=3 from rfl)];unfold goneD;rw[if_neg (show¬hasL s.1.l (recGone i).id=false by show¬hasL s.1.l i=false;rw[h];decide),if_neg (show¬(recGone i).id=1 from h1)]
theorem okd_attr{s:Sg}{i:Int}{a:List P3.At}(h:hasL s.1.l i=true)(ht:(tagOf s.1.l i).toList≠[])(ha:P3.mayA a=true):OkD s (recAttr i a):=by
 unfold OkD applyD;rw[if_neg (show¬(recAttr i a).op=1 from(by decide:¬(4:Int)=1)),if_neg (show¬(recAttr i a).op=2 from(by decide:¬(4:Int)=2)),if_neg (show¬(recAttr i a).op=3 from(by decide:¬(4:Int)=3)),if_pos (show(recAttr i a).op=4 from rfl)];unfold attrsD;rw[if_neg (show¬hasL s.1.l (recAttr i a).id=false by show¬hasL s.1.l i=false;rw[h];decide),if_neg (show¬(tagOf s.1.l (recAttr i a).id).toList=[] from ht),if_neg (show¬P3.mayA (recAttr i a).attrs=false by show¬P3.mayA a=false;rw[ha];decide)]
theorem okd_text{s:Sg}{i:Int}{t:ByteArray}(h:hasL s.1.l i=true)(ht:(tagOf s.1.l i).toList=[])(ha:P1.textB t.data.toList=true):OkD s (recText i t):=by
 unfold OkD applyD;rw[if_neg (show¬(recText i t).op=1 from(by decide:¬(5:Int)=1)),if_neg (show¬(recText i t).op=2 from(by decide:¬(5:Int)=2)),if_neg (show¬(recText i t).op=3 from(by decide:¬(5:Int)=3)),if_neg (show¬(recText i t).op=4 from(by decide:¬(5:Int)=4)),if_pos (show(recText i t).op=5 from rfl)];unfold dataD;rw[if_neg (show¬hasL s.1.l (recText i t).id=false by show¬hasL s.1.l i=false;rw[h];decide),if_neg (show¬(tagOf s.1.l (recText i t).id).toList≠[] from fun e=>e ht),if_neg (show¬P1.textB (recText i t).txt.data.toList=false by show¬P1.textB t.data.toList=false;rw[ha];decide)]
theorem okd_make{s:Sg}{tag txt key:ByteArray}(hm:mayMake tag txt key=true)(hr:s.1.l.length<s.1.R):OkD s (recMake (s.1.n+1) tag txt key):=by
 unfold OkD applyD;rw[if_pos (show(recMake (s.1.n+1) tag txt key).op=1 from rfl)];unfold makeD;rw[if_neg (show¬((recMake (s.1.n+1) tag txt key).id≠s.1.n+1∨mayMake (recMake (s.1.n+1) tag txt key).tag (recMake (s.1.n+1) tag txt key).txt (recMake (s.1.n+1) tag txt key).key=false) from ?_),if_neg (show¬s.1.R≤s.1.l.length by omega)];rintro(e|e)
 ·exact e rfl
 ·have:mayMake tag txt key=false:=e;rw[hm] at this;cases this
theorem kid_not_above{d:D}(hw:WF d){i p:Int}(hi:i≠0)(hp:parOf d.l i=p):inside d.l p i=false:=by
 unfold inside;rw[decide_eq_false_iff_not];intro hm;obtain⟨j,hj,_⟩:=up_it _ _ _ hm;refine hw.tr.no_cycle (x:=i) (j:=j) hi ?_;show it (parOf d.l) j (parOf d.l i)=i;rw[hp];exact hj
theorem leaf_not_above{d:D}(hw:WF d){i p:Int}(hi:hasL d.l i=true)(hk:kidsOf d.l i=[])(hne:p≠i):inside d.l p i=false:=by
 unfold inside;rw[decide_eq_false_iff_not];intro hm;obtain⟨j,hj,_⟩:=up_it _ _ _ hm;cases j with
 |zero=>exact hne hj
 |succ j=>
  rw[it_succ] at hj;have h0:parOf d.l (it (parOf d.l) j p)≠0:=(by rw[hj];exact hw.tr.ne0 hi);have:=hw.tr.par _ h0;rw[hj,hk] at this;cases this
def PutsOk(par b:Int):List Int→Sg→Prop
 |[],_=>True
 |i:: l,s=>OkD s (recPut i par b)∧PutsOk par b l (doP s (recPut i par b))
def GonesOk:List Int→Sg→Prop
 |[],_=>True
 |i:: l,s=>OkD s (recGone i)∧GonesOk l (doP s (recGone i))
def MoveOk(s:Sg)(par:Int)(left:List Int)(beh id:Int)(k:Nat):Prop:=
 k≠0→(inside s.1.l s.1.foc id=false→OkD s (recPut id par (nextP left 0)))∧(inside s.1.l s.1.foc id=true→PutsOk par (nextP (left.drop (k+1)) beh) (left.take k) s)
abbrev RecP:=Sg→Int→List Int→List PW→Prop
def TakenOk(recOk:RecP)(x:PW)(id:Int)(s:Sg):Prop:=
 (x.kind=2→(ndOf s.1.l id).txt.toList≠x.txt.toList→OkD s (recText id x.txt))∧
 (x.kind=1→(P3.sameA (P3.joinA (ndOf s.1.l id).attrs x.attrs) (ndOf s.1.l id).attrs=false→OkD s (recAttr id (P3.joinA (ndOf s.1.l id).attrs x.attrs)))∧recOk (tak3 x id s) id (kidsOf (tak3 x id s).1.l id) x.kids)
def NewOk(recOk:RecP)(par b:Int)(x:PW)(s:Sg):Prop:=
 OkD s (recMake (s.1.n+1) x.tag x.txt x.key)∧OkD (doP s (recMake (s.1.n+1) x.tag x.txt x.key)) (recPut (s.1.n+1) par b)∧
 (P3.newA x.attrs≠[]→OkD (new2 par b x s) (recAttr (s.1.n+1) (P3.newA x.attrs)))∧(x.kind=1→recOk (new3 par b x s) (s.1.n+1) (kidsOf (new3 par b x s).1.l (s.1.n+1)) x.kids)
def StepOk(recOk:RecP)(rec:Rec)(par beh:Int)(ids:List Int)(x:PW)(t:Int)(p:Sg×List Int):Prop:=
 x.kind≠4→(0≤t→MoveOk p.1 par p.2 beh (ids.getD t.toNat 0) (p.2.idxOf (ids.getD t.toNat 0))∧(x.kind≠3→TakenOk recOk x (ids.getD t.toNat 0) (moveP p.1 par p.2 beh (ids.getD t.toNat 0) (p.2.idxOf (ids.getD t.toNat 0))).1))∧
  (¬0≤t→x.kind≠3→NewOk recOk par (nextP p.2 beh) x p.1)
def PatchOk:Nat→Sg→Int→List Int→Int→List PW→Prop
 |0,_,_,_,_,_=>True
 |f+1,s,par,ids,beh,want=>
  (∀i (h:i<want.length),StepOk (fun s i ks w=>PatchOk f s i ks 0 w) (fun s i ks w=>patchP f s i ks 0 w) par beh ids want[i] ((foldM (ids.map (oldOf s.1.l)) want).take[i]'(by rw[take_len];exact h)) (atW (fun s i ks w=>patchP f s i ks 0 w) par beh ids (ids.map (oldOf s.1.l)) want s i))∧
  GonesOk (atW (fun s i ks w=>patchP f s i ks 0 w) par beh ids (ids.map (oldOf s.1.l)) want s want.length).2 (atW (fun s i ks w=>patchP f s i ks 0 w) par beh ids (ids.map (oldOf s.1.l)) want s want.length).1
end P19
namespace P19
open P5 P6 P11 P12 P14 P16
inductive GoW:PW→Prop
 |mk {kind:Int} {tag key txt:ByteArray} {attrs:List P3.At} {kids:List PW} (ha:P3.mayA attrs=true) (hk:∀k∈kids,GoW k):GoW (.mk kind tag key txt attrs kids)
theorem GoW.att{x:PW}(h:GoW x):P3.mayA x.attrs=true:=by cases h;assumption
theorem GoW.ks{x:PW}(h:GoW x):∀k∈x.kids,GoW k:=by cases h;assumption
def RoomR(rec:Rec):Prop:=∀s i ks w,(∀x∈w,WfW x)→(rec s i ks w).1.l.length≤s.1.l.length+cntL w
section
variable{rec:Rec}{s:Sg}{par beh:Int}{ids:List Int}{want:List PW}{old:List Ol}
theorem room_do(s:Sg){r:Rc}(h:r.op≠1):(doP s r).1.l.length≤s.1.l.length:=by
 have:=len_apply s.1 r;rw[if_neg h] at this;exact this
theorem room_do1(s:Sg)(r:Rc):(doP s r).1.l.length≤s.1.l.length+1:=by
 have:=len_apply s.1 r;have h2:(doP s r).1.l.length=(applyD s.1 r).2.l.length:=rfl;split at this<;>omega
theorem room_puts(par b:Int):∀(l:List Int) (s:Sg),(putsP par b l s).1.l.length≤s.1.l.length
 |[],s=>Zl
 |i:: l,s=>Nat.le_trans (room_puts par b l (doP s (recPut i par b))) (room_do s (show(2:Int)≠1 by decide))
theorem room_gones:∀(l:List Int) (s:Sg),(gonesP l s).1.l.length≤s.1.l.length
 |[],s=>Zl
 |i:: l,s=>Nat.le_trans (room_gones l (doP s (recGone i))) (room_do s (show(3:Int)≠1 by decide))
theorem room_move(s:Sg)(par:Int)(left:List Int)(beh id:Int)(k:Nat):(moveP s par left beh id k).1.1.l.length≤s.1.l.length:=by
 unfold moveP;simp only;split
 ·exact Zl
 split
 ·exact room_do s (show(2:Int)≠1 by decide)
 ·exact room_puts _ _ _ _
theorem cnt_el{x:PW}(h:x.kind=1):cntW x=1+cntL x.kids:=by
 cases x with
 |mk kind tag key txt attrs kids=>
  have h:kind=1:=h;rw[cntW,if_neg (by omega),if_pos h];rfl
theorem cnt_tx{x:PW}(h:x.kind=2):cntW x=1:=by
 cases x with
 |mk kind tag key txt attrs kids=>
  have h:kind=2:=h;rw[cntW,if_pos h]
theorem wfw_kids{x:PW}(h:WfW x):∀k∈x.kids,WfW k:=by
 cases h with
 |el _ _ hk=>exact hk
 |vo=>exact fun _ h=>by cases h
 |tx=>exact fun _ h=>by cases h
 |nd=>exact fun _ h=>by cases h
 |al=>exact fun _ h=>by cases h
theorem wfw_kind{x:PW}(h:WfW x):x.kind=1∨x.kind=2∨x.kind=3∨x.kind=4:=by
 cases h with
 |el=>exact .inl rfl
 |vo=>exact .inl rfl
 |tx=>exact .inr (.inl rfl)
 |nd=>exact .inr (.inr (.inl rfl))
 |al=>exact .inr (.inr (.inr rfl))
theorem room_tak3(x:PW)(id:Int)(s:Sg):(tak3 x id s).1.l.length≤s.1.l.length:=by
 unfold tak3;split
 ·exact room_do s (show(4:Int)≠1 by decide)
 ·exact Zl
theorem room_taken(R:RoomR rec){x:PW}(hw:WfW x)(id:Int)(s:Sg):(takenP rec x id s).1.l.length≤s.1.l.length+cntW x:=by
 by_cases h1:x.kind=1
 ·rw[taken_elem h1,cnt_el h1];have:=R (tak3 x id s) id (kidsOf (tak3 x id s).1.l id) x.kids (wfw_kids hw);have:=room_tak3 x id s;omega
 by_cases h2:x.kind=2
 ·rw[taken_text h2];split
  ·have:=room_do s (r:=recText id x.txt) (show(5:Int)≠1 by decide);omega
  ·omega
 ·rw[taken_no h1 h2];omega
theorem room_new3(par b:Int)(x:PW)(s:Sg):(new3 par b x s).1.l.length≤s.1.l.length+1:=by
 have h2:(new2 par b x s).1.l.length≤s.1.l.length+1:=Nat.le_trans (room_do _ (show(2:Int)≠1 by decide)) (room_do1 s _);unfold new3;split
 ·exact h2
 ·exact Nat.le_trans (room_do _ (show(4:Int)≠1 by decide)) h2
theorem room_new(R:RoomR rec){x:PW}(hw:WfW x)(h4:x.kind≠4)(h3:x.kind≠3)(par b:Int)(s:Sg):(newP rec par b x s).1.l.length≤s.1.l.length+cntW x:=by
 have h:=room_new3 par b x s;rcases wfw_kind hw with h1|h1|h1|h1
 ·rw[new_kid h1,cnt_el h1];have:=R (new3 par b x s) (s.1.n+1) (kidsOf (new3 par b x s).1.l (s.1.n+1)) x.kids (wfw_kids hw);omega
 ·rw[new_no (by omega),cnt_tx h1];exact h
 ·exact absurd h1 h3
 ·exact absurd h1 h4
theorem room_step(R:RoomR rec){x:PW}(hw:WfW x)(t:Int)(p:Sg×List Int):(stepW rec par beh ids x t p).1.1.l.length≤p.1.1.l.length+cntW x:=by
 unfold stepW;split
 ·exact Nat.le_add_right _ _
 rename_i h4;split
 ·simp only;have hm:=room_move p.1 par p.2 beh (ids.getD t.toNat 0) (p.2.idxOf (ids.getD t.toNat 0));split
  ·omega
  ·have:=room_taken R hw (ids.getD t.toNat 0) (moveP p.1 par p.2 beh (ids.getD t.toNat 0) (p.2.idxOf (ids.getD t.toNat 0))).1;simp only;omega
 split
 ·exact Nat.le_add_right _ _
 ·rename_i h3;exact room_new R hw h4 h3 par _ p.1
theorem cntL_take{l:List PW}{i:Nat}(hi:i<l.length):cntL (l.take (i+1))=cntL (l.take i)+cntW l[i]:=by
 have app:∀a b:List PW,cntL (a++b)=cntL a+cntL b:=by
  intro a b
  induction a with
  |nil=>simp[cntL]
  |cons x r ih=>rw[List.cons_append,cntL,cntL,ih];omega
 rw[List.take_succ_eq_append_getElem hi,app];simp[cntL]
theorem cntL_mem:∀{l:List PW} {i:Nat} (hi:i<l.length),cntL (l.take i)+cntW l[i]≤cntL l
 |[],i,hi=>by simp at hi
 |x:: r,0,_=>by rw[List.take_zero,cntL,cntL,List.getElem_cons_zero];omega
 |x:: r,i+1,hi=>by
  have:=cntL_mem (l:=r) (i:=i) (by simpa using hi);rw[List.take_succ_cons,cntL,cntL,List.getElem_cons_succ];omega
theorem room_at(R:RoomR rec)(hw:∀x∈want,WfW x):∀i,i≤want.length→(atW rec par beh ids old want s i).1.1.l.length≤s.1.l.length+cntL (want.take i)
 |0,_=>by
  show s.1.l.length≤_;omega
 |i+1,hi=>by
  have ih:=room_at R hw i (by omega);have hi':i<want.length:=(by omega);rw[atW_succ hi',cntL_take hi'];have:=room_step (par:=par) (beh:=beh) (ids:=ids) R (hw _ (List.getElem_mem hi')) ((foldM old want).take[i]'(by rw[take_len];exact hi')) (atW rec par beh ids old want s i);omega
theorem room_rec:∀f:Nat,RoomR (fun s i ks w=>patchP f s i ks 0 w)
 |0=>fun s i ks w _=>by
  show s.1.l.length≤_;omega
 |f+1=>fun s i ks w hw=>by
  show(patchP (f+1) s i ks 0 w).1.l.length≤_;rw[patch_succ];have h1:=room_at (par:=i) (beh:=0) (ids:=ks) (old:=ks.map (oldOf s.1.l)) (s:=s) (room_rec f) hw w.length (Zl);rw[List.take_length] at h1;exact Nat.le_trans (room_gones _ _) h1
end
structure Jn(s0:Sg)(par:Int)(ids:List Int)(s:Sg):Prop where
 lv:Lv s0 par ids s
 tg:Tg s0.1 s.1
 may:MayD s.1
structure J0(s0:Sg)(par:Int):Prop where
 wf:WF s0.1
 p0:par≠0
 hp:hasL s0.1.l par=true
section
variable{s0 s:Sg}{par:Int}{ids:List Int}
theorem Jn.here(b:J0 s0 par)(h:Jn s0 par ids s):hasL s.1.l par=true∧tagOf s.1.l par=tagOf s0.1.l par:=by
 have h1:=(h.lv.st par b.hp (in_self b.wf b.p0)).1;exact⟨h1,(h.tg.tag par (b.wf.pos b.hp).2 h1).2.1⟩
theorem Jn.not1(b:J0 s0 par)(h:Jn s0 par ids s){a:Int}(ha:a∈ids):a≠1:=fun e=>by
 have:=(h.lv.kid a ha).2;rw[e,h.lv.wf.root0] at this;exact b.p0 this.symm
theorem Jn.putOk(b:J0 s0 par)(hk:noKids (tagOf s0.1.l par)=false)(h:Jn s0 par ids s){a c:Int}(ha:a∈ids)(hc:c=0∨c∈ids∧c≠a):PutOk s.1.l a par c:=by
 obtain⟨h1,h2⟩:=h.here b;obtain⟨k1,k2⟩:=h.lv.kid a ha;refine⟨k1,h1,?_,kid_not_above h.lv.wf (h.lv.wf.tr.ne0 k1) k2,h.not1 b ha,by rw[h2];exact hk⟩;rcases hc with e|⟨e,hne⟩
 ·exact .inl e
 ·exact .inr ⟨(h.lv.kid c e).1,(h.lv.kid c e).2,hne⟩
theorem Jn.doP_(h:Jn s0 par ids s){r:Rc}(hl:Lv s0 par ids (doP s r)):Jn s0 par ids (doP s r):=⟨hl,h.tg.trans (tg_apply h.lv.wf r),cl_do may_cl h.may r⟩
theorem Jn.put(b:J0 s0 par)(h:Jn s0 par ids s){a:Int}(ha:a∈ids)(c:Int):Jn s0 par ids (doP s (recPut a par c)):=h.doP_ (h.lv.put b.wf (h.lv.kid a ha).2 c)
theorem Jn.tag(b:J0 s0 par)(h:Jn s0 par ids s){a:Int}(ha:a∈ids)(hs:hasL s0.1.l a=true):tagOf s.1.l a=tagOf s0.1.l a:=(h.tg.tag a (b.wf.pos hs).2 (h.lv.kid a ha).1).2.1
theorem puts_okJ(b:J0 s0 par)(hk:noKids (tagOf s0.1.l par)=false){c:Int}:∀(l:List Int) {s:Sg},Jn s0 par ids s→(∀a∈l,a∈ids∧(c=0∨c∈ids∧c≠a))→PutsOk par c l s∧Jn s0 par ids (putsP par c l s)
 |[],s,h,_=>⟨trivial,h⟩
 |a:: l,s,h,hl=>by
  obtain⟨h1,h2⟩:=hl a (by simp);obtain⟨h3,h4⟩:=puts_okJ b hk l (h.put b h1 c) (fun x hx=>hl x (by simp[hx]));exact⟨⟨okd_put (h.putOk b hk h1 h2),h3⟩,h4⟩
theorem move_okJ(b:J0 s0 par)(hk:noKids (tagOf s0.1.l par)=false)(h:Jn s0 par ids s){left:List Int}{beh a:Int}(hl:∀i∈left,i∈ids)(hd:left.Nodup)(ha:a∈left)(hb:beh=0∨beh∈ids∧beh∉left):
 MoveOk s par left beh a (left.idxOf a)∧Jn s0 par ids (moveP s par left beh a (left.idxOf a)).1:=by
 have hlt:=List.idxOf_lt_length_iff.2 ha;have hat:left[left.idxOf a]=a:=List.getElem_idxOf hlt;have hahead:∀x∈left.take (left.idxOf a),x∈ids∧(nextP (left.drop (left.idxOf a+1)) beh=0∨nextP (left.drop (left.idxOf a+1)) beh∈ids∧nextP (left.drop (left.idxOf a+1)) beh≠x):=fun x hx=>by
  refine⟨hl x (List.mem_of_mem_take hx),?_⟩;cases hdr:left.drop (left.idxOf a+1) with
  |nil=>
   show beh=0∨beh∈ids∧beh≠x;rcases hb with e|⟨e1,e2⟩
   ·exact .inl e
   ·exact .inr ⟨e1,fun e=>e2 (e▸List.mem_of_mem_take hx)⟩
  |cons c r=>
   show c=0∨c∈ids∧c≠x;have hc:c∈left.drop (left.idxOf a+1):=(by rw[hdr];simp);refine .inr ⟨hl c (List.mem_of_mem_drop hc),fun e=>?_⟩;have hn:(left.take (left.idxOf a+1)++left.drop (left.idxOf a+1)).Nodup:=(by rw[List.take_append_drop];exact hd);exact(List.nodup_append.1 hn).2.2 x ((List.take_subset_take_left left (by omega)) hx) c hc e.symm
 have hput:left.idxOf a≠0→nextP left 0=0∨nextP left 0∈ids∧nextP left 0≠a:=fun h0=>by
  cases left with
  |nil=>cases ha
  |cons c r=>
   refine .inr ⟨hl c (by simp),fun e=>h0 ?_⟩;have e:c=a:=e;rw[e];simp
 refine⟨fun h0=>⟨fun _=>okd_put (h.putOk b hk (hl a ha) (hput h0)),fun _=>(puts_okJ b hk _ h hahead).1⟩,?_⟩;unfold moveP;simp only;split
 ·exact h
 split
 ·exact h.put b (hl a ha) _
 ·exact(puts_okJ b hk _ h hahead).2
theorem gones_okJ(b:J0 s0 par):∀(l:List Int) {ids:List Int} {s:Sg},Jn s0 par ids s→(∀i∈l,i∈ids)→l.Nodup→GonesOk l s
 |[],_,_,_,_,_=>trivial
 |i:: l,ids,s,h,hl,hd=>by
  obtain⟨hd1,hd2⟩:=List.nodup_cons.1 hd;have hi:=h.lv.kid i (hl i (by simp));have h2:Jn s0 par l (doP s (recGone i)):=by
   refine⟨⟨doP_wf h.lv.wf _,h.lv.st.trans b.wf h.lv.wf (gone_stays h.lv.wf hi.2),fun j hj=>?_⟩,h.tg.trans (tg_apply h.lv.wf _),cl_do may_cl h.may _⟩;have hj2:=h.lv.kid j (hl j (by simp[hj]));have hne:j≠i:=fun e=>hd1 (e▸hj)
   obtain⟨a1,a2⟩:=gone_keeps h.lv.wf hj2.1 hne (not_in h.lv.wf b.p0 hi.2 hj2.2);exact⟨a1,a2.trans hj2.2⟩
  exact⟨okd_gone hi.1 (h.not1 b (hl i (by simp))),gones_okJ b l h2 (fun j hj=>hj) hd2⟩
end
end P19
end Go.Proofs.YtaklfomaibchnaaGreat
