/- A part of the proof. No condition. -/
import Derived.Deep.RegionWith
import Derived.Deep.RegionHeld3
import Derived.Deep.Cut
import Derived.Test.YtimfajmknmlajaaGreatDoorM1
import Derived.Test.YtimfajmknmlajaaGreatDoorM10
import Derived.Test.YtimfajmknmlajaaGreatDoorM11
import Derived.Test.YtimfajmknmlajaaGreatDoorM12
import Derived.Test.YtimfajmknmlajaaGreatDoorM13
set_option linter.unusedVariables false
set_option linter.unusedSimpArgs false
set_option maxRecDepth 100000
set_option maxHeartbeats 40000000
namespace Go.Proofs.YtimfajmknmlajaaGreatDoor
open Go.Proofs.Tryz
namespace P7
open Go.RowKit Kd P4 P5
variable{B p g:Nat}{x:Dx}{vd:Value}{rs:List RR}
theorem JV{c':Int}(r:Rc)(A:vA)(n c:Nat)(w:World)(hc:(YA x.d r).1=c')(hwf:WF x.d)(hn:x.n<=100000)(ha:∀w9,iA (fun k=>fC p x k\/eG g vd k) w w9->cL w9 A n c r)(hl:rs.length<=1000000)(h:Dc w B p x)(l:Lg w B g p vd rs):
 jA 125 #[lA g,.agg (lF r A n c)] w (Xx w B g p x vd rs r c'):=by
 have Y:Hid (fA w (w.alloc (.cells (lF r A n c) 87))):=Zh (Zb _ _);have C:=Zh (VC.new w r A n c);have HC:=Zh hc;have a7:=Zh hwf;have HA:=Zh ha;have H:=Zh h;have L:=Zh l;have q1:=qF;have q2:=AF;have af:B<=w.heap.size:=(by have:=h.base;have:=h.lt (.inl rfl:fC p x p);omega);clear hc hwf ha h l;go_enter func125,ntmps125;go_upto_region 1 with fail;generalize w.alloc (.cells (lF r A n c) 87)=W at Y C|-;have H1:=Zh (H.below Y);have L1:=Zh (L.below Y);have d0:=L1.c0;have b0:=C.c0;have b1:=C.c1;have b2:=C.c2;have b3:=C.c3;have b4:=C.c4;have b5:=C.c5;have M:=C.c6;have b7:=C.c7;go_wp2_with fail;go_region_held3 (fun w'=>w'.cell? (cA g 0)=some (lA p)/\w'.cell? ⟨w.heap.size,0,none⟩=some (aA r.op)/\w'.cell? ⟨w.heap.size,1,none⟩=some (aA r.id)/\w'.cell? ⟨w.heap.size,2,none⟩=some (aA r.par)/\w'.cell? ⟨w.heap.size,3,none⟩=some (aA r.ZA)/\w'.cell? ⟨w.heap.size,4,none⟩=some (bA r.tag)/\w'.cell? ⟨w.heap.size,5,none⟩=some (bA r.txt)/\w'.cell? ⟨w.heap.size,6,none⟩=some (bA r.key)/\w'.cell? ⟨w.heap.size,7,none⟩=some (.slice A n c)) (first|go_keep|exact K5) ((first
  |(go_at_call 163;refine(rr r A n c _ HC a7 hn (HA _ (iA.oB (OC Y _) _)) (by exact H1.drewN _)).mono ?_;rintro e D ⟨rfl,x5,d5,a0⟩;have N:=Zh ((L1.drewN _).YI (H1.drewN _) d5);have f:=Zh (VC.YI (w:=W.drewN _) C (H1.drewN _) d5);have K5:=And.intro N.c0 (And.intro f.c0 (And.intro f.c1 (And.intro f.c2 (And.intro f.c3 (And.intro f.c4 (And.intro f.c5 (And.intro f.c6 f.c7)))))));have D5:Hid (aC W B p x x5 D):=Zh ((aC.SF H1 (OC Ze _)).trans d5);have a1:=Zh a0;clear d5 a0)
  |fail))
 have Z:=N;have q:Hid (wB w B g p x vd x5 vd rs D):=Zh ⟨D5.dc,Z,(iA.oB Y _).trans (D5.but.mono fun _ _ s=> .inl s) (fun _ _ s=>s),(fun i s=>(D5.ft i s).imp id (fun e=>by have:=Y.size;omega)),fun i s=> .inl s⟩;clear d0 b0 b1 b2 b3 b4 b5 M b7 N;by_cases E:c'=0
 ·subst E;rw[qM];obtain⟨A2,n2,c2,F,a2,ad,ae,a8,a9⟩:=cO Z.own;have t:=Zh F;have ag:=Zh a2;have j:=Zh (HA D q.but).at_;have aa:Hid (A=none->c=0/\n=0):=Zh (fun e=>by have:=j.nil e;have:=j.cap;omega);have d1:=Z.c1;rw[F] at d1;have f1:=Z.frozen 1;have ah:g<D.heap.size:=JA Z.zA;have ai:w.heap.size<D.heap.size:=f.lt;have b0:=f.c0;have b1:=f.c1;have b2:=f.c2;have b3:=f.c3;have b4:=f.c4;have b5:=f.c5;have M:=f.c6;have b7:=f.c7;have O:Hid (∀k,(Value.slice A2 n2 c2).ownBlock=some k->k≠g/\k<w.heap.size):=Zh (by
   rw[<-F];intro k u;refine⟨?_,L.lt (.inr u)⟩;rintro rfl;obtain⟨d,hd⟩:=L.own.ty u;exact WA hd L.zA pA rfl)
  clear F a2 a9 a8;go_upto_region 6 with fail;refine Tl.sL (S:=(fun w'=>w'.cell? (cA g 1)=some (.slice A2 n2 c2)/\w'.cell? ⟨w.heap.size,0,none⟩=some (aA r.op)/\w'.cell? ⟨w.heap.size,1,none⟩=some (aA r.id)/\w'.cell? ⟨w.heap.size,2,none⟩=some (aA r.par)/\w'.cell? ⟨w.heap.size,3,none⟩=some (aA r.ZA)/\w'.cell? ⟨w.heap.size,4,none⟩=some (bA r.tag)/\w'.cell? ⟨w.heap.size,5,none⟩=some (bA r.txt)/\w'.cell? ⟨w.heap.size,6,none⟩=some (bA r.key)/\w'.cell? ⟨w.heap.size,7,none⟩=some (.slice A n c))) (by kernel_rfl) 11 _ rfl rfl rfl (by kernel_rfl) (by go_keep) (fun hHeld=>?_);simp only[List.setIfInBounds_toArray,List.set_cons_zero,List.set_cons_succ,Tl.idle];refine Zn 0 ?_;refine Zn 1 ?_;refine Zn 2 ?_;refine Zn 3 ?_;refine Zn 4 ?_;refine Zn 5 ?_;refine Zr [6] ?_;refine AllReadyH.cons rfl (fun K hK=>?_) ?_
  ·go_simp;go_at_call 54;refine(jP r A n c _ j.len j.nD aa (by exact j.holds)).mono ?_;rintro e w6 ⟨P,Q,R,rfl,a3,M⟩;have a4:=Zh a3;have B6:Hid (fA D w6):=Zh (by first|exact M|exact(Below.drew Ze).trans M|exact(OC Ze _).trans M);have y:=Zh (f.below B6 f.lt);have z:=Zh (Z.below B6);have d6:=z.c1;rw[t.out] at d6;have f6:=z.frozen 1;clear a3 M;go_wp2_with fail;refine hK _ _ ?_ (fun hHeld=>?_)
   ·exact⟨d6,y.c0,y.c1,y.c2,y.c3,y.c4,y.c5,y.c6,y.c7⟩
   clear hK K;(try simp only[Zs]);refine Zr [7] ?_;refine AllReadyH.cons rfl (fun K hK=>?_) ?_
   ·go_simp;refine hK _ _ ?_ (fun hHeld=>?_)
    ·go_keep
    clear hK K;(try simp only[Zs]);refine Zr [8] ?_;refine AllReadyH.cons rfl (fun K hK=>?_) ?_
    ·refine kR.FL rfl (.tmp 25) (.tmp 28) rfl (v:=.slice A2 n2 c2) (l:=rs) (m:=[⟨r,⟨P,Q,R⟩⟩]) (B:=B) (A:=some ⟨w6.heap.size,0,none⟩) (n:=1) (c:=1) rfl (by have:=z.own;rw[t.out] at this;exact this.alloc _) rfl rfl KF (Kind.AA.lit (heap_alloc_new _ _) rfl) jB (by have:=z.ge (.inl rfl:eG g vd g);have:=JA z.zA;simp;omega) ?_;intro v7 T o b J;obtain⟨A7,n7,c7,rfl,_,_,_,_,_⟩:=o.slice;have O7:=Zh o;have G7:=Zh b;have a5:=Zh J;have e7:T.cell? (cA g 1)=some (.slice A2 n2 c2):=(cell_of_row T g 1 _ _ (0,0) ((b.block g (by have:=JA z.zA;simp;omega) (fun e=>((O g e.symm).1 rfl).elim)).trans (JB z.zA))).trans (by rw[t.out];rfl);have G:Hid (VC T w.heap.size r A n c):=Zh ((b.block _ (by have:=y.lt;simp;omega) (fun e=>by have:=(O _ e.symm).2;omega)).trans (JB y));have f7:T.frozen? (cA g 1)=false:=(by have hb:=(b.block g (by have:=JA z.zA;simp;omega) (fun e=>((O g e.symm).1 rfl).elim)).trans (JB z.zA);simp[World.frozen?,hb]);clear o b J;refine hK _ _ ?_ (fun hHeld=>?_)
     ·exact⟨e7,G.c0,G.c1,G.c2,G.c3,G.c4,G.c5,G.c6,G.c7⟩
     clear hK K;(try simp only[Zs]);refine Zn 9 ?_;refine Zn 10 ?_;refine Zn 11 ?_;refine wpAnyH_done (by kernel_rfl) ?_ _;intro K hK;go_simp;refine hK _ _ ?_;clear hK K;have I:=z.below (Ze.alloc Zl (.cells (lF r P Q R) 87));have g7:World.grownBy (w6.alloc (.cells (lF r P Q R) 87)) T vd.ownBlock:=(by rw[t.out];exact G7);have U:ZB (w6.alloc (.cells (lF r P Q R) 87)) ⟨P,Q,R⟩ r.attrs:=a4.below (Zb _ _);obtain⟨l8,b8⟩:=Ju (a:=⟨r,⟨P,Q,R⟩⟩) I g7 O7 ⟨U,by have h1:=j.len;have h2:=j.nD;have h3:=U.len;simp only at h3|-;omega⟩;have V:fA D (w6.alloc (.cells (lF r P Q R) 87)):=B6.alloc B6.size _;have X:=q.dc.below V;have a6:=Zh (X.but b8 (fun k u hf=>I.Sd X hf u) I.QE);have L8:=Zh l8;have B8:Hid (iA (fun k=>fC p x k\/eG g vd k) w (T.setCell (cA g 1) (.slice A7 n7 c7))):=Zh ((q.but.trans (iA.oB V (fun _=>False)) (fun _ _ s=>s.elim)).trans b8 (fun _ _ s=> .inr s));have ab:Hid (∀k,(Value.slice A7 n7 c7).ownBlock=some k->vd.ownBlock=some k\/w.heap.size<=k):=Zh (fun k u=>by
      rcases a5 with e|e
      ·rw[e,<-t.out] at u;exact .inl u
      ·rw[e] at u;injection u with u;have h1:=B6.size;simp at u;exact .inr dA)
     clear I g7 U l8 b8 V X e7 f7 G d6 f6 z y B6 a4 O7 G7 a5;generalize T.setCell (cA g 1) (.slice A7 n7 c7)=W8 at a6 L8 B8|-;go_wp2_with fail;go_ret;exact⟨by rw[qM];rfl,x5,_,_,⟨a6,L8,B8,q.ft,ab⟩,a1,by simp,by simp⟩
    exact AllReadyH.nil
   exact AllReadyH.nil
  exact AllReadyH.nil
 ·have he:QA c'= .iface 29 (aA c'):=(by unfold QA;rw[if_neg E]);have ac:=Zh E;rw[he];clear E;go_wp2_with fail;go_ret;refine⟨?_,x5,vd,rs,q,a1,by rw[if_neg ac.out],by omega⟩;rw[he];rfl
end P7
namespace P13
open Go.RowKit Kd P4 P5 P11 P12 Mv
theorem JY{P:Program}{ops:Array Oper}{o:Oper}{act:Act}{Kk:Act->World->Prop}{Q:Exit->Act->World->Prop}{E:Prop}{w:World}{kt:TypeId}{b n s:Nat}{f:Lit->Option Value}(hg:o.guard=none)(m x v:Operand){t e:TypeId}(hop:o.op=Op.mapUpdate t m x v)(K:Go.Maps.Keyed P kt)(ht:P.underlying t=some (.map kt e))
 (hm:act.eval m= .map (some b)) (h:zC P kt w b n s f) (hn:n<maxLen) {key val:Value} {l:Lit} (hx:act.eval x=key) (hv:act.eval v=val) (hkey:keyOf P kt key=some l) {f':Lit->Option Value} (hf:dQ f f' l (some val))
 (hK:∀w',zC P kt w' b (n+1) (if(f l).isSome then s else s+1) f'->w.grownBy w' (some b)->Kk (act.put o.dst undef) w'):if Region.wanted o (yielded ops act.tmps)=true then Oper.wp P o act w Kk Q else E:=by
 have c:Region.wanted o (yielded ops act.tmps)=true:=(by simp[Region.wanted,hg]);rw[if_pos c];obtain⟨w',a,d,g⟩:=h.store K ht hn hkey hf;unfold Oper.wp;simp[execOp,hop,hm,hx,hv,a,Result.andThen];exact hK w' d g
theorem Fr.MU{w w1 w2:World}{B p k g c d:Nat}{A:vA}{n c':Nat}{tl:Bool}{ps:List Pl}{td:List qA}{P:List (List In)}{r:Option Nat}(h:Fr w B p k g c d A n c' tl ps td P)(b:fA w w1)(_:w1.grownBy w2 r):
 Fr w1 B p k g c d A n c' tl ps td P/\fA w w1:=⟨h.below b,b⟩
def Nx(w:World)(B p k:Nat)(P:List (List In))(nm:Option (List (uA)))(e:Ending)(w':World):Prop:=e= .returned (.tuple #[])/\xJ w' B p k P nm/\Below B w w'
theorem KY{P:List (List In)}{x:In}(h:x.op=1):wG P x=IG P x++[[]]:=by rw[wG,if_pos h,IG,DF,List.append_assoc];rfl
theorem mg{P:List (List In)}{x:In}(h:x.op=2):wG P x=P.dropLast:=by rw[wG,if_neg dA,if_pos h]
theorem sQ{P:List (List In)}{x:In}(h:x.op≠1)(h':x.op≠2):wG P x=IG P x:=by rw[wG,if_neg h,if_neg h'];rfl
theorem IU{w:World}{B p k:Nat}{P:List (List In)}{nm:Option (List (List UInt8))}(h:xJ w B p k P nm)(hk:k<=1000)(i:In)(ha:i.a.size<=300)(hb:i.b.size<=300)(hw:mJ P nm i=0):
 Calls prog 225 #[.pointer (some ⟨p,0,none⟩),.agg #[.int .i64 i.op,.string i.a,.string i.b]] w (Nx w B p (k+1) (wG P i) (NI nm i)):=by
 obtain⟨o,a,b⟩:=i;have ha:a.size<=300:=ha;have hb:b.size<=300:=hb;obtain⟨g,c,d,A,n,c',ps,td,F,a8⟩:=h.fr;have r:=GY (nm:=nm) F.len F.d8 ⟨o,a,b⟩;rw[hw] at r;simp only at r;have hT:bD o=true->∃ns,nm=some ns:=fun e=>by
  cases nm with
  |some ns=>exact⟨ns,rfl⟩
  |none=>
   exfalso;rw[vQ,e] at r;unfold codeF at r;split at r<;>cases r
 have ad:bD o=true->o≠7/\o≠1/\o≠2/\iE ⟨o,a,b⟩=false:=fun e=>by
  simp only[bD,decide_eq_true_eq] at e;refine⟨by omega,by omega,by omega,?_⟩;simp only[iE,FE];rw[decide_eq_false (by omega)];rfl
 have hO:o=1->d<=7:=fun e=>by
  have:=F.d8;subst e;rcases Nat.lt_or_ge d 8 with h8|h8
  ·omega
  ·exfalso;obtain rfl:d=8:=by omega
   unfold codeF at r;simp[bD] at r;split at r
   ·cases r
   ·split at r
    ·cases r
    ·split at r<;>cases r
 have hC:o=2->∃d',d=d'+1:=fun e=>by
  subst e;rcases Nat.eq_zero_or_pos d with h0|h0
  ·exfalso;subst h0;unfold codeF at r;simp[bD] at r;split at r<;>cases r
  ·exact⟨d-1,by omega⟩
 clear r hw h;have HT:=Zh hT;have ae:=Zh ad;have HO:=Zh hO;have HC:=Zh hC;have a8:=Zh a8;have a9:Hid (keyOf prog 9 (.string b)=some (.string b.toList)):=Zh (by rw[ByteArray.toList_eq];exact Go.WideMaps.keyOf_string_mk underlying9 (by unfold maxLen;omega));have af:k<maxLen:=(by unfold maxLen;omega);clear hT ad hO hC ha hb;have B1:Hid (Below w.heap.size w (w.alloc (.cells #[.int .i64 o,.string a,.string b] 183))):=Zh (Zb _ _);have N1:Hid (XB (w.alloc (.cells #[.int .i64 o,.string a,.string b] 183)) w.heap.size ⟨o,a,b⟩):=Zh (XB.new w ⟨o,a,b⟩);have F1:=Zh (F.below B1.out);have an:=F.size;have ao:w.heap.size<=w.heap.size:=Zl;clear F;go_enter func225,ntmps225;go_upto_region 1 with fail;have BB:=Zh (B1.out.mono an);generalize w.alloc (.cells #[.int .i64 o,.string a,.string b] 183)=W at BB N1 F1|-;obtain⟨x,hx⟩:∃x,x=w.heap.size:=⟨_,rfl⟩;rw[<-hx] at N1|-;have aw:B<=x:=(by omega);clear hx ao B1;have H:=N1.out.c0;have c1:=N1.out.c1;have X:=N1.out.c2;simp only at H c1 X;go_wp2_with fail;cases hbt:bD o with
 |true=>
  obtain⟨ns,ap⟩:=HT.out hbt;subst ap;obtain⟨h7,h1,h2,E⟩:=ae.out hbt;have HP:Hid (wG P ⟨o,a,b⟩=IG P ⟨o,a,b⟩):=Zh (sQ h1 h2);have HN:Hid (NI (some ns) ⟨o,a,b⟩=some (ns++[a.toList])):=Zh (by rw[mT hbt];rfl);have R:=Zh (F1.out.LU (x:=⟨o,a,b⟩) E h7);refine(JU o _ hbt).mono ?_;rintro e w' ⟨rfl,rfl⟩;have d2:=R.out.c2;have f2:=R.out.frozen 2;have ab:x≠p:=fun e=>WA (show W.heap[x]? = _ from N1.out) (e▸R.out.zA) (by decide) rfl
  have aq:=R.out.yJ;have ax:=R.out.nk;have ar:(Value.slice A n c').ownBlock≠some x:=fun e=>by
   obtain⟨y,hy⟩:=R.out.told.ty e;exact WA hy (show W.heap[x]? = _ from N1.out) (by decide) rfl
  clear h1 h2 h7 E hbt;go_upto_region 2 with fail;refine Tl.sL (S:=(fun w'=>w'.cell? ⟨p,2,none⟩=some (.slice A n c')/\w'.cell? ⟨x,1,none⟩=some (.string a))) (by kernel_rfl) 11 _ rfl rfl rfl (by kernel_rfl) (by first|go_keep|exact⟨d2,c1⟩) (fun hHeld=>?_);simp only[List.setIfInBounds_toArray,List.set_cons_zero,List.set_cons_succ,Tl.idle]
  repeat' (first
   |refine Zu 0 7 ?_
   |refine Zu 1 8 ?_
   |refine Zu 2 9 ?_
   |refine Zu 3 10 ?_
   |refine Zu 4 11 ?_
   |refine Zu 5 12 ?_
   |refine Zu 6 13 ?_
   |refine Zu 9 16 ?_
   |refine Zu 10 17 ?_
   |refine Zv 11 ?_
   |refine Zq [7] ?_
   |refine Zq [8] ?_
   |refine AllReadyH.cons rfl (fun K hK=>?_) ?_
   |exact AllReadyH.nil
   |(refine uI.FL rfl (.tmp 11) (.tmp 14) rfl (v:=.slice A n c') (l:=td) (m:=[a]) (B:=B) (A:=some ⟨W.heap.size,0,none⟩) (n:=1) (c:=1) rfl (R.out.told.below (by first|exact(Ze.drew).alloc Zl _|exact(Zb _ _).drew|exact Zb _ _) Zl) rfl rfl (fun e=>by cases e) (Kind.AA.lit (heap_alloc_new _ _) rfl) (by simp;omega) (by have:=R.out.size;simp;omega) ?_
     intro v7 N q f T;obtain⟨A7,n7,c7,rfl,U,_,_,_,_⟩:=q.slice;have b5:=Fr.MU R.out (by first|exact(Ze.drew).alloc Zl _|exact(Zb _ _).drew|exact Zb _ _) f;have Z:=Zh (Fr.tell b5.1 f q (by rw[<-U,List.length_append,aq];rfl));have I:=(f.block p (by have:=R.out.lt;simp;omega) (fun e=>R.out.TR e.symm rfl)).trans b5.1.zA;have e7:N.cell? ⟨p,2,none⟩=some (.slice A n c'):=cell_of_row N p 2 _ _ (0,0) I;have f7:N.frozen? ⟨p,2,none⟩=false:=(by simp[World.frozen?,I]);have x7:N.cell? ⟨x,1,none⟩=some (.string a):=cell_of_row N x 1 _ _ (0,0) ((f.block x (by have:=N1.out.lt;simp;omega) (fun e=>ar e.symm)).trans ((b5.2.block x N1.out.lt).trans N1.out));have B7:Hid (Below B w (N.setCell ⟨p,2,none⟩ (.slice A7 n7 c7))):=Zh ((BB.out.trans (b5.2.mono R.out.size)).trans Z.out.2);clear q f T I b5 U;refine hK.out _ _ ?_ (fun hHeld=>?_)
     ·exact⟨e7,x7⟩
     clear hK K;(try simp only[Zs]))
   |(go_simp
     refine hK.out _ _ ?_ (fun hHeld=>?_)
     ·go_keep
     clear hK K;(try simp only[Zs]))
   |(refine wpAnyH_done (by decide +kernel) ?_ _
     intro K hK;go_simp;refine hK _ _ ?_;clear hK K;go_wp2_with fail
     go_end0
     exact⟨rfl,(by rw[HP.out,HN.out];exact Fr.is Z.out.1 rfl (by rw[List.map_append];have:=a8.out;simp only[Option.getD_some] at this|-;rw[this];rfl)),B7.out⟩))
 |false=>
  clear HT ae;refine(JU o _ hbt).mono ?_;rintro e w' ⟨rfl,rfl⟩;have d1:=F1.out.c1;have d2:=F1.out.c2;have f1:=F1.out.frozen 1;have f2:=F1.out.frozen 2;have ab:x≠p:=fun e=>WA (show W.heap[x]? = _ from N1.out) (e▸F1.out.zA) (by decide) rfl
  have N2:Hid (XB ((W.setCell ⟨p,1,none⟩ (.bool (FE o))).setCell ⟨p,2,none⟩ (.slice none 0 0)) x ⟨o,a,b⟩):=Zh (((Below.heap_setCell _ _ _ _ ab).trans (Below.heap_setCell _ _ _ _ ab)).trans N1.out);obtain⟨mk,a3⟩:=DA (FE o);have HB:Hid (∀t,Calls prog 254 #[.int .i64 o] t fun e w'=>e= .returned (.bool mk)/\t=w'):=Zh (fun t=>by rw[<-a3];exact FY o t);have R:=Zh (F1.out.JS mk);rw[a3] at N2;have ac:=Zh (BB.out.trans R.out.2);have ag:Hid (∃a4,NI nm ⟨o,a,b⟩=a4/\mk=a4.isSome/\a4.getD []=[]):=Zh (by
   cases mk with
   |true=>exact⟨some [],lT a3,rfl,rfl⟩
   |false=>exact⟨none,nT a3 hbt,rfl,rfl⟩)
  clear a3;go_wp2_with fail;refine(HB.out _).mono ?_;rintro e w' ⟨rfl,rfl⟩;go_upto_region 4 with fail;clear H c1 X d1 d2 f1 f2 N1 F1 BB;generalize (W.setCell ⟨p,1,none⟩ (.bool mk)).setCell ⟨p,2,none⟩ (.slice none 0 0)=W2 at R ac N2|-;obtain⟨a4,ah,ai,aj⟩:=ag.out;have a0:=Zh ah;have a1:Hid ([]=a4.getD []):=Zh aj.symm;have a2:=Zh ai;clear ah ai aj ag a8 HB;have H:=N2.out.c0;have c1:=N2.out.c1;have X:=N2.out.c2;simp only at H c1 X;have ak:Hid (∀t,Calls prog 252 #[.agg #[.int .i64 o,.string a,.string b]] t fun e w'=>e= .returned (.bool (iE ⟨o,a,b⟩))/\Below t.heap.size t w'):=Zh (fun t=>ZZ o a b t);have al:Hid (iE ⟨o,a,b⟩=true->o=1\/o=3):=Zh (fun e=>by
   simp only[iE,FE,Bool.and_eq_true,decide_eq_true_eq] at e;exact e.1)
  go_wp2_with fail;refine(ak.out _).mono ?_;rintro e w3 ⟨rfl,b3⟩;have u:=Zh (R.out.1.below b3);have G:=Zh (N2.out.below b3 N2.out.lt);have O:=Zh (ac.out.trans (b3.mono R.out.1.size));clear b3 H c1 X R N2 ac ak;have aa:Hid (iE ⟨o,a,b⟩=true->dQ (yG (DF P)) (yG (DF P++[⟨o,a,b⟩])) (.string b.toList) (some (.agg #[]))):=Zh (fun e=>Hk e);have HH:Hid (∀t,Below w3.heap.size w3 t->Calls prog 251 #[.pointer (some ⟨p,0,none⟩)] t fun e w'=>e= .returned (.pointer (some ⟨g,d*2,none⟩))/\∃j,w'=t.drewN j):=Zh (fun t h9=>q9 p g d c t (u.out.below h9).c0 (by have:=u.out.d8;omega));have HD:Hid (∀t,Below w3.heap.size w3 t->Calls prog 226 #[.pointer (some ⟨p,0,none⟩)] t fun e w'=>e= .returned (.int .i64 d)/\t=w'):=Zh (fun t h9=>VQ p d c _ t (u.out.below h9).c0 (by have:=u.out.d8;omega));have H:=G.out.c0;have c1:=G.out.c1;have X:=G.out.c2;simp only at H c1 X;have g0:=u.out.place.1;have ay:d<ps.length:=(by have:=u.out.pl;omega);obtain⟨m,hm⟩:=DA (ps[d].m);rw[hm] at g0;have HM:=Zh hm;clear hm;by_cases h1:o=1
  ·have q1:=int_eq h1;have h7:o≠7:=(by omega);cases E:iE ⟨o,a,b⟩ with
   |true=>
    go_upto_region 5 with fail;refine Tl.sL (S:=(fun w'=>w'.cell? ⟨g,d*2,none⟩=some (.map (some m))/\w'.cell? ⟨x,2,none⟩=some (.string b))) (by kernel_rfl) 8 _ rfl rfl rfl (by kernel_rfl) (by first|go_keep|exact⟨g0,X⟩) (fun hHeld=>?_);simp only[List.setIfInBounds_toArray,List.set_cons_zero,List.set_cons_succ,Tl.idle]
    repeat' (first
     |refine Zu 0 29 ?_
     |refine Zu 2 31 ?_
     |refine Zu 3 32 ?_
     |refine Zu 4 33 ?_
     |refine Zu 5 34 ?_
     |refine Zu 6 35 ?_
     |refine Zu 7 36 ?_
     |refine Zv 8 ?_
     |refine Zq [1] ?_
     |refine AllReadyH.cons rfl (fun K hK=>?_) ?_
     |exact AllReadyH.nil
     |(go_simp
       go_at_call 251;refine(HH.out _ (by first|exact Ze|exact Ze.drew)).mono ?_;rintro e w5 ⟨rfl,j5,Q⟩;have C:Hid (Below w3.heap.size w3 w5):=Zh (by first|exact Q▸cH Ze _|exact Q▸cH Ze.drew _);clear Q;refine hK.out _ _ ?_ (fun hHeld=>?_)
       ·exact⟨(u.out.below C.out).place.1.trans (by rw[HM.out]),(G.out.below C.out G.out.lt).c2⟩
       clear hK K;(try simp only[Zs]))
     |(refine wpAnyH_done (by decide +kernel) ?_ _
       intro K hK;obtain⟨s5,V⟩:=(u.out.below C.out).map;obtain⟨au,av,Y⟩:=V.zA;rw[HM.out] at Y;refine JY rfl _ _ _ rfl FW underlying299 (by rw[HM.out] at V;rfl) (by rw[HM.out] at V;exact V) af rfl rfl a9.out (aa.out E) ?_;intro N m7 g7;have P7:=Fr.Rb (x:=⟨o,a,b⟩) (u.out.below C.out) h7 (by rw[HM.out];exact g7) (by rw[HM.out];exact m7);have J:=Zh P7.1;have L:=Zh ((O.out.trans (C.out.mono u.out.size)).trans P7.2);have N4:Hid (XB N x ⟨o,a,b⟩):=Zh ((g7.block x (G.out.below C.out G.out.lt).lt (fun e=>(UK Y (G.out.below C.out G.out.lt)) (Option.some.inj e).symm)).trans (G.out.below C.out G.out.lt));refine hK _ _ ?_;clear hK K P7 g7 m7 V Y H c1 X g0 u G O;generalize N=t at J L N4|-;have H:=N4.out.c0;simp only at H;have d0:=J.out.c0;have HP:Hid (wG P ⟨o,a,b⟩=IG P ⟨o,a,b⟩++[[]]):=Zh (KY h1);go_upto_region 8 with fail;refine Tl.sL (S:=(fun w'=>w'.cell? ⟨p,0,none⟩=some (.slice (some ⟨g,0,none⟩) (d+1) c))) (by kernel_rfl) 10 _ rfl rfl rfl (by kernel_rfl) (by first|go_keep|exact d0) (fun hHeld=>?_);simp only[List.setIfInBounds_toArray,List.set_cons_zero,List.set_cons_succ,Tl.idle]
       repeat' (first
        |refine Zu 0 41 ?_
        |refine Zu 1 42 ?_
        |refine Zu 2 43 ?_
        |refine Zu 3 44 ?_
        |refine Zu 4 45 ?_
        |refine Zu 8 49 ?_
        |refine Zu 9 50 ?_
        |refine Zv 10 ?_
        |refine Zq [5] ?_
        |refine Zq [6] ?_
        |refine Zq [7] ?_
        |refine AllReadyH.cons rfl (fun K hK=>?_) ?_
        |exact AllReadyH.nil
        |(go_simp
          go_at_call 223;refine(iT _).mono ?_;rintro e w5 ⟨m5,rfl,a5,V,b5⟩;have C:Hid (Below t.heap.size t w5):=Zh (by first|exact b5|exact Ze.drew.trans b5);have a6:Hid (t.heap.size<=m5):=Zh a5;have a7:=Zh V;have D:=Zh (J.out.below C.out);clear b5 a5 V;refine hK.out _ _ ?_ (fun hHeld=>?_)
          ·exact D.out.c0
          clear hK K;(try simp only[Zs]))
        |(refine aI.FL rfl (.tmp 45) (.tmp 47) rfl (v:=.slice (some ⟨g,0,none⟩) (d+1) c) (l:=ps) (m:=[⟨m5,false⟩]) (B:=B) (A:=some ⟨w5.heap.size,0,none⟩) (n:=1) (c:=1) rfl (D.out.own.below (by first|exact(Ze.drew).alloc Zl _|exact(Zb _ _).drew|exact Zb _ _) Zl) rfl rfl (fun e=>by cases e) (Kind.AA.lit (heap_alloc_new _ _) rfl) (by have:=D.out.pl;have:=D.out.d8;simp;omega) (by have:=D.out.size;simp;omega) ?_
          intro v7 N q f T;obtain⟨g7,n7,c7,rfl,U⟩:=u9 q (by simp);have b7:=Fr.MU D.out (by first|exact(Ze.drew).alloc Zl _|exact(Zb _ _).drew|exact Zb _ _) f;have Z:=Zh (Fr.push b7.1 (HO.out h1) f q (by rw[<-U,List.length_append,D.out.pl];rfl) (a7.out.below b7.2 a7.out.lt) (by have:=a6.out;have:=J.out.size;omega) (fun i hi=>by
           obtain⟨_,_,s,M⟩:=J.out.at_ i hi (by have:=J.out.len;have:=J.out.pl;omega);have:=M.lt;have:=a6.out;omega))
          have I:=(f.block p (by have:=D.out.lt;simp;omega) (fun e=>D.out.nM (Option.some.inj e).symm)).trans b7.1.zA;have e7:N.cell? ⟨p,0,none⟩=some (.slice (some ⟨g,0,none⟩) (d+1) c):=cell_of_row N p 0 _ _ (0,0) I;have f7:N.frozen? ⟨p,0,none⟩=false:=(by simp[World.frozen?,I]);have B7:Hid (Below B w (N.setCell ⟨p,0,none⟩ (.slice (some ⟨g7,0,none⟩) n7 c7))):=Zh (((L.out.trans (C.out.mono J.out.size)).trans (b7.2.mono D.out.size)).trans Z.out.2);clear q f T I b7 U;refine hK.out _ _ ?_ (fun hHeld=>?_)
          ·exact e7
          clear hK K;(try simp only[Zs]))
        |(go_simp
          refine hK.out _ _ ?_ (fun hHeld=>?_)
          ·first|go_keep|exact(D.out.below (by first|exact(Ze.drew).alloc Zl _|exact(Zb _ _).drew|exact Zb _ _)).c0
          clear hK K;(try simp only[Zs]))
        |(refine wpAnyH_done (by decide +kernel) ?_ _
          intro K hK;go_simp;refine hK _ _ ?_;clear hK K;go_wp2_with fail
          go_end0
          exact⟨rfl,(by rw[HP.out,a0.out];exact Fr.is Z.out.1 a2.out a1.out),B7.out⟩))))
   |false=>
    have J:=Zh (u.out.LU (x:=⟨o,a,b⟩) E h7 |>.mono (Nat.le_succ k));have L:=O;have N4:=G;clear H c1 X g0 u G O;generalize w3=t at J L N4 HH HD|-;have H:=N4.out.c0;simp only at H;have d0:=J.out.c0;have HP:Hid (wG P ⟨o,a,b⟩=IG P ⟨o,a,b⟩++[[]]):=Zh (KY h1);go_upto_region 8 with fail;refine Tl.sL (S:=(fun w'=>w'.cell? ⟨p,0,none⟩=some (.slice (some ⟨g,0,none⟩) (d+1) c))) (by kernel_rfl) 10 _ rfl rfl rfl (by kernel_rfl) (by first|go_keep|exact d0) (fun hHeld=>?_);simp only[List.setIfInBounds_toArray,List.set_cons_zero,List.set_cons_succ,Tl.idle]
    repeat' (first
     |refine Zu 0 41 ?_
     |refine Zu 1 42 ?_
     |refine Zu 2 43 ?_
     |refine Zu 3 44 ?_
     |refine Zu 4 45 ?_
     |refine Zu 8 49 ?_
     |refine Zu 9 50 ?_
     |refine Zv 10 ?_
     |refine Zq [5] ?_
     |refine Zq [6] ?_
     |refine Zq [7] ?_
     |refine AllReadyH.cons rfl (fun K hK=>?_) ?_
     |exact AllReadyH.nil
     |(go_simp
       go_at_call 223;refine(iT _).mono ?_;rintro e w5 ⟨m5,rfl,a5,V,b5⟩;have C:Hid (Below t.heap.size t w5):=Zh (by first|exact b5|exact Ze.drew.trans b5);have a6:Hid (t.heap.size<=m5):=Zh a5;have a7:=Zh V;have D:=Zh (J.out.below C.out);clear b5 a5 V;refine hK.out _ _ ?_ (fun hHeld=>?_)
       ·exact D.out.c0
       clear hK K;(try simp only[Zs]))
     |(refine aI.FL rfl (.tmp 45) (.tmp 47) rfl (v:=.slice (some ⟨g,0,none⟩) (d+1) c) (l:=ps) (m:=[⟨m5,false⟩]) (B:=B) (A:=some ⟨w5.heap.size,0,none⟩) (n:=1) (c:=1) rfl (D.out.own.below (by first|exact(Ze.drew).alloc Zl _|exact(Zb _ _).drew|exact Zb _ _) Zl) rfl rfl (fun e=>by cases e) (Kind.AA.lit (heap_alloc_new _ _) rfl) (by have:=D.out.pl;have:=D.out.d8;simp;omega) (by have:=D.out.size;simp;omega) ?_
       intro v7 N q f T;obtain⟨g7,n7,c7,rfl,U⟩:=u9 q (by simp);have b7:=Fr.MU D.out (by first|exact(Ze.drew).alloc Zl _|exact(Zb _ _).drew|exact Zb _ _) f;have Z:=Zh (Fr.push b7.1 (HO.out h1) f q (by rw[<-U,List.length_append,D.out.pl];rfl) (a7.out.below b7.2 a7.out.lt) (by have:=a6.out;have:=J.out.size;omega) (fun i hi=>by
        obtain⟨_,_,s,M⟩:=J.out.at_ i hi (by have:=J.out.len;have:=J.out.pl;omega);have:=M.lt;have:=a6.out;omega))
       have I:=(f.block p (by have:=D.out.lt;simp;omega) (fun e=>D.out.nM (Option.some.inj e).symm)).trans b7.1.zA;have e7:N.cell? ⟨p,0,none⟩=some (.slice (some ⟨g,0,none⟩) (d+1) c):=cell_of_row N p 0 _ _ (0,0) I;have f7:N.frozen? ⟨p,0,none⟩=false:=(by simp[World.frozen?,I]);have B7:Hid (Below B w (N.setCell ⟨p,0,none⟩ (.slice (some ⟨g7,0,none⟩) n7 c7))):=Zh (((L.out.trans (C.out.mono J.out.size)).trans (b7.2.mono D.out.size)).trans Z.out.2);clear q f T I b7 U;refine hK.out _ _ ?_ (fun hHeld=>?_)
       ·exact e7
       clear hK K;(try simp only[Zs]))
     |(go_simp
       refine hK.out _ _ ?_ (fun hHeld=>?_)
       ·first|go_keep|exact(D.out.below (by first|exact(Ze.drew).alloc Zl _|exact(Zb _ _).drew|exact Zb _ _)).c0
       clear hK K;(try simp only[Zs]))
     |(refine wpAnyH_done (by decide +kernel) ?_ _
       intro K hK;go_simp;refine hK _ _ ?_;clear hK K;go_wp2_with fail
       go_end0
       exact⟨rfl,(by rw[HP.out,a0.out];exact Fr.is Z.out.1 a2.out a1.out),B7.out⟩))
  ·have q1:=int_ne h1;by_cases h2:o=2
   ·have q2:=int_eq h2;have E:iE ⟨o,a,b⟩=false:=by
     cases hz:iE ⟨o,a,b⟩ with
     |false=>rfl
     |true=>exact absurd (al.out hz) (by omega)
    rw[E];obtain⟨d',am⟩:=HC.out h2;have d0:=u.out.c0;have f0:=u.out.frozen 0;have i0:(0:Int)<=(d:Int):=(by omega);have i1:(d:Int)<=(c:Int):=(by have:=u.out.cap;omega);have HP:Hid (wG P ⟨o,a,b⟩=P.dropLast):=Zh (mg h2);have Z:=Zh (u.out.pop am);clear am;go_upto_region 10 with fail;refine Tl.sL (S:=(fun w'=>w'.cell? ⟨p,0,none⟩=some (.slice (some ⟨g,0,none⟩) (d+1) c))) (by kernel_rfl) 10 _ rfl rfl rfl (by kernel_rfl) (by first|go_keep|exact d0) (fun hHeld=>?_);simp only[List.setIfInBounds_toArray,List.set_cons_zero,List.set_cons_succ,Tl.idle]
    repeat' (first
     |refine Zu 0 53 ?_
     |refine Zu 1 54 ?_
     |refine Zu 2 55 ?_
     |refine Zu 3 56 ?_
     |refine Zu 4 57 ?_
     |refine Zu 5 58 ?_
     |refine Zu 7 60 ?_
     |refine Zu 8 61 ?_
     |refine Zu 9 62 ?_
     |refine Zv 10 ?_
     |refine Zq [6] ?_
     |refine AllReadyH.cons rfl (fun K hK=>?_) ?_
     |exact AllReadyH.nil
     |(go_simp
       go_at_call 226;refine(HD.out _ (by first|exact Ze|exact Ze.drew)).mono ?_;rintro e w5 ⟨rfl,rfl⟩;refine hK.out _ _ ?_ (fun hHeld=>?_)
       ·go_keep
       clear hK K;(try simp only[Zs]))
     |(refine wpAnyH_done (by decide +kernel) ?_ _
       intro K hK;go_simp;refine hK _ _ ?_;clear hK K;go_wp2_with fail
       go_end0
       exact⟨rfl,(by rw[HP.out,a0.out];exact Fr.is ((Z.out.1.below (Ze.drew)).mono (Nat.le_succ k)) a2.out a1.out),(O.out.trans Z.out.2).drew⟩))
   ·have q2:=int_ne h2;by_cases h7:o=7
    ·have q7:=int_eq h7;have E:iE ⟨o,a,b⟩=false:=by
      cases hz:iE ⟨o,a,b⟩ with
      |false=>rfl
      |true=>exact absurd (al.out hz) (by omega)
     rw[E];have HP:Hid (wG P ⟨o,a,b⟩=IG P ⟨o,a,b⟩):=Zh (sQ (by omega) (by omega));go_wp2_with fail;refine(HH.out _ Ze).mono ?_;rintro e w5 ⟨rfl,j5,Q⟩;have C:Hid (Below w3.heap.size w3 w5):=Zh (Q▸cH Ze _);have D:=Zh (u.out.below C.out);obtain⟨_,g1,fg⟩:=D.out.place;have Z:=Zh (Fr.skip (x:=⟨o,a,b⟩) D.out h7);clear Q g0;go_wp2_with fail
     go_end0
     exact⟨rfl,(by rw[HP.out,a0.out];exact Fr.is Z.out.1 a2.out a1.out),(O.out.trans (C.out.mono u.out.size)).trans Z.out.2⟩
    ·have q7:=int_ne h7;cases E:iE ⟨o,a,b⟩ with
     |true=>
      go_upto_region 5 with fail;refine Tl.sL (S:=(fun w'=>w'.cell? ⟨g,d*2,none⟩=some (.map (some m))/\w'.cell? ⟨x,2,none⟩=some (.string b))) (by kernel_rfl) 8 _ rfl rfl rfl (by kernel_rfl) (by first|go_keep|exact⟨g0,X⟩) (fun hHeld=>?_);simp only[List.setIfInBounds_toArray,List.set_cons_zero,List.set_cons_succ,Tl.idle]
      repeat' (first
       |refine Zu 0 29 ?_
       |refine Zu 2 31 ?_
       |refine Zu 3 32 ?_
       |refine Zu 4 33 ?_
       |refine Zu 5 34 ?_
       |refine Zu 6 35 ?_
       |refine Zu 7 36 ?_
       |refine Zv 8 ?_
       |refine Zq [1] ?_
       |refine AllReadyH.cons rfl (fun K hK=>?_) ?_
       |exact AllReadyH.nil
       |(go_simp
         go_at_call 251;refine(HH.out _ (by first|exact Ze|exact Ze.drew)).mono ?_;rintro e w5 ⟨rfl,j5,Q⟩;have C:Hid (Below w3.heap.size w3 w5):=Zh (by first|exact Q▸cH Ze _|exact Q▸cH Ze.drew _);clear Q;refine hK.out _ _ ?_ (fun hHeld=>?_)
         ·exact⟨(u.out.below C.out).place.1.trans (by rw[HM.out]),(G.out.below C.out G.out.lt).c2⟩
         clear hK K;(try simp only[Zs]))
       |(refine wpAnyH_done (by decide +kernel) ?_ _
         intro K hK;obtain⟨s5,V⟩:=(u.out.below C.out).map;obtain⟨au,av,Y⟩:=V.zA;rw[HM.out] at Y;refine JY rfl _ _ _ rfl FW underlying299 (by rw[HM.out] at V;rfl) (by rw[HM.out] at V;exact V) af rfl rfl a9.out (aa.out E) ?_;intro N m7 g7;have P7:=Fr.Rb (x:=⟨o,a,b⟩) (u.out.below C.out) h7 (by rw[HM.out];exact g7) (by rw[HM.out];exact m7);have J:=Zh P7.1;have L:=Zh ((O.out.trans (C.out.mono u.out.size)).trans P7.2);have N4:Hid (XB N x ⟨o,a,b⟩):=Zh ((g7.block x (G.out.below C.out G.out.lt).lt (fun e=>(UK Y (G.out.below C.out G.out.lt)) (Option.some.inj e).symm)).trans (G.out.below C.out G.out.lt));refine hK _ _ ?_;clear hK K P7 g7 m7 V Y H c1 X g0 u G O;generalize N=t at J L N4|-;have H:=N4.out.c0;simp only at H;have HP:Hid (wG P ⟨o,a,b⟩=IG P ⟨o,a,b⟩):=Zh (sQ h1 h2);go_wp2_with fail
         go_end0
         exact⟨rfl,(by rw[HP.out,a0.out];exact Fr.is J.out a2.out a1.out),L.out⟩))
     |false=>
      have J:=Zh (u.out.LU (x:=⟨o,a,b⟩) E h7 |>.mono (Nat.le_succ k));have L:=O;have N4:=G;clear H c1 X g0 u G O;generalize w3=t at J L N4 HH HD|-;have H:=N4.out.c0;simp only at H;have HP:Hid (wG P ⟨o,a,b⟩=IG P ⟨o,a,b⟩):=Zh (sQ h1 h2);go_wp2_with fail
      go_end0
      exact⟨rfl,(by rw[HP.out,a0.out];exact Fr.is J.out a2.out a1.out),L.out⟩
theorem Lk{l:List In}{i c:Nat}(hn:l.length<=120)(hi:i<l.length)(hf:zD l i=0)(hw:RH l i=c)(hc:¬c=0):WD l=c:=by
 have a:zD l l.length=c:=(by rw[mi hf (by rw[hw];exact hc) hi,hw]);rw[WD,if_neg dA,if_neg (by rw[a];exact hc),a]
theorem Mk{l:List In}{d:Nat}(hn:l.length<=120)(hf:zD l l.length=0)(hp:(eE l l.length).length=d+1):WD l=if 0<d then 8 else 0:=by
 have a:=(WR Zl hf).len;have e:(JI l l.length).2=d:=(by rw[uQ];omega);rw[WD,if_neg dA,if_pos hf,e]
theorem Cv{w w1:World}{m:Nat}(hm:w.heap.size<=m)(M:zC prog 9 w1 m 0 0 (fun _=>none))(hb:fA w w1):
 xJ ((w1.alloc (.cells #[.map (some m),.bool false] 301)).alloc (.cells #[.slice (some ⟨w1.heap.size,0,none⟩) 1 1,.bool false,tA] 306)) w.heap.size (w1.heap.size+1) 0 [[]] none:=by
 have a:=hb.size;have b:(w1.alloc (.cells #[.map (some m),.bool false] 301)).heap[w1.heap.size]? = some (.cells #[.map (some m),.bool false] 301 (0,0)):=heap_alloc_new w1 _;have c:(w1.alloc (.cells #[.map (some m),.bool false] 301)).heap.size=w1.heap.size+1:=FA;refine⟨w1.heap.size,1,0,[⟨m,false⟩],none,0,0,[],by omega,rfl,by omega,?_,?_,Kind.Own.nil _ _ _,rfl,by simp,fun i h d=>?_,rfl,rfl,Zl⟩
 ·rw[<-c];exact heap_alloc_new _ _
 ·exact Kind.OH rfl a (JB b) Zl TG rfl rfl
 ·obtain rfl:i=0:=by simpa using h
  refine⟨hm,rfl,0,?_⟩;show zC _ _ _ m 0 0 (yG []);rw[XZ];exact(M.alloc _).alloc _
theorem Kt:dv:=by
 intro l A n c w hh hn a1 v hl y;have q3:=qF;have q5:=AF;have KH:=Zh hh;have B:=Zh hn;have T:=Zh y;have a0:c<=9223372036854775807:=(by unfold maxLen at v;omega);clear hh hn v y;by_cases C:120<n
 ·have j:Hid (WD l=13):=Zh (by rw[WD,if_pos (by rw[B.out];exact C)]);have i1:(120:Int)<(n:Int):=dA;rw[j.out];go_enter func199,ntmps199;go_wp2_with fail;go_ret;exact⟨rfl,Ze⟩
 have i1:¬(120:Int)<(n:Int):=dA;go_enter func199,ntmps199;go_wp2_with fail;refine(iT w).mono ?_;rintro e D ⟨m,rfl,hm,M,E⟩;have N:=Zh (Cv hm M E);have U:Hid (fA w ((D.alloc (.cells #[.map (some m),.bool false] 301)).alloc (.cells #[.slice (some ⟨D.heap.size,0,none⟩) 1 1,.bool false,tA] 306))):=Zh ((E.alloc E.size _).alloc (by have:=E.size;simp;omega) _);clear hm M E;go_upto_region 4 with fail;generalize (D.alloc (.cells #[.map (some m),.bool false] 301)).alloc (.cells #[.slice (some ⟨D.heap.size,0,none⟩) 1 1,.bool false,tA] 306)=W at N U|-;generalize D.heap.size+1=p at N|-;go_wp2_with fail;go_loopw [16] (fun s wr=>∃i:Nat,i<=n/\s = aA i/\Hid (xJ wr w.heap.size p i (eE l i) (NG l i))/\Hid (zD l i=0)/\Hid (fA w wr)) (fun s _=>n-(intOf s).toNat)
 case atStart=>exact⟨0,by omega,rfl,N,Zh rfl,U⟩
 case round=>
  obtain⟨i,hi,rfl,HF,O,t⟩:=hrel;clear N U;by_cases a2:i<n
  ·have f:i<l.length:=(IA B.out);obtain⟨b,o,rfl,hb,g0,g1,g2⟩:=kf (KH.on t) f;have G:=T _ (List.getElem_mem f);have P:=Zh (iX f O);have PS:=Zh (gX f);have NS:=Zh (qQ f);have V:=Zh f;generalize l[i]=d at g0 g1 g2 G P PS NS;obtain⟨k,a,q⟩:=d;simp only at g0 g1 g2;obtain⟨Q,u⟩:=DA (mJ (eE l i) (NG l i) ⟨k,a,q⟩);have R:Hid (fA wr (wr.alloc (.cells #[aA k,bA a,bA q] 183))):=Zh (Zb _ _);have r:Hid (XB (wr.alloc (.cells #[aA k,bA a,bA q] 183)) wr.heap.size ⟨k,a,q⟩):=Zh (XB.new wr ⟨k,a,q⟩);have FB:Hid (∀X,fA wr X->xJ X w.heap.size p i (eE l i) (NG l i)):=Zh (fun X h9=>by
    obtain⟨_,_,_,_,_,_,_,_,F,ht⟩:=HF.fr;exact(F.below h9).is rfl ht)
   rw[u] at P;have H:=Zh u;clear u f;go_upto_region 7 with fail;generalize wr.alloc (.cells #[aA k,bA a,bA q] 183)=W1 at R r|-;generalize wr.heap.size=x at r|-;have I:=r.c0;have J:=r.c1;have K:=r.c2;simp only at I J K;have Y:=Zh (Ik (FB _ R) dA ⟨k,a,q⟩ G.1 G.2);rw[H.out] at Y;go_wp2_with fail;refine Y.mono ?_;rintro e w2 ⟨rfl,Z⟩;have B2:=Zh (R.trans (Z.mono R.size));have N2:=Zh (r.below Z r.lt);clear Z Y I J K r;by_cases L:Q=0
   ·subst L;have S:QA ((0:Nat):Int)= .nilIface:=rfl;rw[S];have I:=N2.c0;have J:=N2.c1;have K:=N2.c2;simp only at I J K;have CT:=Zh (IU (FB _ B2) dA ⟨k,a,q⟩ G.1 G.2 H);have BX:=Zh (t.trans (B2.mono t.size));go_wp2_with fail;refine CT.mono ?_;rintro e w3 ⟨rfl,f3,b3⟩;rw[<-PS.out,<-NS.out] at f3;have F3:=Zh f3;have B3:=Zh (BX.trans b3);clear f3 b3 CT I J K;go_wp2_with fail;go_roundw
    case rel=>exact⟨i+1,by omega,by go_num,F3,Zh (by rw[zD,if_pos O.out,P.out]),B3⟩
    case measure=>simp[intOf];omega
   ·have S:QA (Q:Int)= .iface 29 (aA Q):=(by unfold QA;rw[if_neg dA]);have j:Hid (WD l=Q):=Zh (Lk (IA B.out) V O P L);rw[S];go_wp2_with fail;go_ret;exact⟨by rw[j.out,S];rfl,t.trans (B2.mono t.size)⟩
  ·obtain rfl:i=n:=dA
   obtain⟨g,cc,d,_,_,_,_,_,F,_⟩:=HF.fr;have j:Hid (WD l=if 0<d then 8 else 0):=Zh (by
    have h1:=O.out;have h2:=F.len;rw[<-B.out] at h1 h2;exact Mk (IA B.out) h1 h2)
   have HD:=Zh (VQ p d cc _ wr F.c0 (IA F.d8));clear F;by_cases L:0<d
   ·have i2:(0:Int)<(d:Int):=dA;rw[if_pos L] at j;go_wp2_with fail;refine PA HD ?_;go_wp2_with fail;go_ret;exact⟨by rw[j.out];rfl,t⟩
   ·have i2:¬(0:Int)<(d:Int):=dA;rw[if_neg L] at j;go_wp2_with fail;refine PA HD ?_;go_wp2_with fail;go_ret;exact⟨by rw[j.out];rfl,t⟩
end P13
namespace P10
open Go.RowKit Kd P4 P5 P8 P9
theorem Nn(t:TV)(B b:Nat)(l:uA)(w:World)(hb:Bd.EH B b l w)(hB:B<=w.heap.size)(h:EC w B t)(ht:t.tag.size<=100000)(ha:KG t.attrs=true)(hl:l.length+(fG t.tag.data.toList t.attrs).length<=2000000000):
 jA 179 #[lA b,.agg #[bA t.tag,bA t.txt,bA t.key,.slice t.sa.A t.sa.n t.sa.c,.slice t.sk.A t.sk.n t.sk.c]] w fun e w'=>e= .returned (.tuple #[])/\Bd.RD B b (l++fG t.tag.data.toList t.attrs) w w':=by
 obtain⟨tag,txt,key,sa,attrs,sk,kids⟩:=t;obtain⟨A,n,c⟩:=sa;obtain⟨m,p,q⟩:=sk;have T:attrs.length=n:=h.al;have AH:Hid (kA.AA w B A attrs):=Zh h.ah;have U:=Zh T;have hz:tag.size<=100000:=ht;have i:KG attrs=true:=ha;have u:l.length+(fG tag.data.toList attrs).length<=2000000000:=hl;have hl:l.length<=2000000000:=dA;have HL:Hid (l.length+tag.data.toList.length+(EB attrs).length<=2000000000):=Zh (by simp only[fG,List.length_cons,List.length_append,List.length_nil] at u;omega);have SH:Hid (∀k (E:k<attrs.length),attrs[k].nm.size<=100000/\attrs[k].vl.size<=100000):=Zh (fun k E=>Ac i E);have hn:n<=100000:=(IA (Qa i));have F:Hid (Bd.RD B b l w (w.alloc (.cells #[bA tag,bA txt,bA key,.slice A n c,.slice m p q] 81))):=Zh ((Bd.RD.start hb).alloc hB _);have V:Hid (TB (w.alloc (.cells #[bA tag,bA txt,bA key,.slice A n c,.slice m p q] 81)) w.heap.size (.mk tag txt key ⟨A,n,c⟩ attrs ⟨m,p,q⟩ kids)):=Zh (TB.new w (.mk tag txt key ⟨A,n,c⟩ attrs ⟨m,p,q⟩ kids));have ET:Hid (tag.data.toList.length=tag.size):=Zh (dM tag);clear h T ht ha i hb u;show jA 179 #[lA b,.agg #[bA tag,bA txt,bA key,.slice A n c,.slice m p q]] w _;show Calls _ _ _ _ fun e w'=>e= .returned (.tuple #[])/\Bd.RD B b (l++fG tag.data.toList attrs) w w'
 go_enter func179,ntmps179;go_upto_region 1 with fail;generalize w.alloc (.cells #[bA tag,bA txt,bA key,.slice A n c,.slice m p q] 81)=W at F V|-;go_wp2_with fail;refine(Bd.fI B b l _ w W F (by show _+1<=_;omega) (IA F.size)).mono ?_;rintro e X ⟨rfl,r,Y,z2⟩;have Z:=Zh r;have N2:=Zh (XO V Y);clear r Y z2;have a0:X.cell? ⟨w.heap.size,0,none⟩=some (bA tag):=N2.c0;go_wp2_with fail;refine(Bd.fI B b _ tag w X Z (by rw[List.length_append];show _+1+_<=_;omega) (IA Z.size)).mono ?_;rintro e w2 ⟨rfl,G,k3,z3⟩;have H3:Hid (Bd.RD B b (l++60:: tag.data.toList) w w2):=Zh (dJ G FA);have N3:=Zh (XO N2 k3);clear G k3 z3 a0;have a3:w2.cell? ⟨w.heap.size,3,none⟩=some (.slice A n c):=N3.c3;go_wp2_with fail;go_loopw [15] (fun s wr=>∃(k:Nat),k<=n/\s = aA k/\Hid (Bd.RD B b (l++60:: (tag.data.toList++EB (attrs.take k))) w wr)) (fun s _=>n-(intOf s).toNat)
 case atStart=>exact⟨0,by omega,rfl,Zh (dJ H3 (by simp[EB]))⟩
 case round=>
  obtain⟨k,E,rfl,D⟩:=hrel;have v:B<=wr.heap.size:=(IA D.size);have H:Hid ((l++60:: (tag.data.toList++EB (attrs.take k))).length<=2000000001):=Zh (by
   have I:=Ce attrs k;have r:=HL.out;have G:=ET.out;simp only[List.length_append,List.length_cons];omega)
  by_cases a1:k<n
  ·have j:k<attrs.length:=(IA U.out);obtain⟨b',o,rfl,a2,h0,I,r⟩:=(eJ (AH.below D.2.1 Zl)) k j;have SN:Hid (EB (attrs.take (k+1))=EB (attrs.take k)++uJ attrs[k]):=Zh (Jf j);have y:=SH k j;generalize attrs[k]=a at h0 I r SN y;obtain⟨a4,a5⟩:=y;go_upto_region 6 with fail;have K1:Hid (P3.uD (wr.alloc (.cells #[bA a.nm,bA a.vl,.bool a.st] 131)) wr.heap.size a):=Zh (P3.uD.new wr a);have J:Hid (Bd.RD B b (l++60:: (tag.data.toList++EB (attrs.take k))) w (wr.alloc (.cells #[bA a.nm,bA a.vl,.bool a.st] 131))):=Zh (D.alloc v _);have z:B<=(wr.alloc (.cells #[bA a.nm,bA a.vl,.bool a.st] 131)).heap.size:=jB;generalize wr.alloc (.cells #[bA a.nm,bA a.vl,.bool a.st] 131)=W1 at K1 J z|-;clear h0 I r;generalize hx:l++60:: (tag.data.toList++EB (attrs.take k))=x at J H;have HX:=Zh hx;clear hx;have K:x.length<=2000000001:=H;go_wp2_with fail;refine(Bd.fI B b x ⟨#[32]⟩ w W1 J (by show _+1<=_;omega) z).mono ?_;rintro e C ⟨rfl,d,f,g⟩;have L:=Zh d;have K2:=Zh (nU K1 f);have M:B<=C.heap.size:=dA;clear d f g;have c0:C.cell? ⟨wr.heap.size,0,none⟩=some (bA a.nm):=K2.c0;go_wp2_with fail;refine(Bd.fI B b _ a.nm w C L (by rw[List.length_append];show _+1+_<=_;omega) M).mono ?_;rintro e w5 ⟨rfl,d,f,g⟩;have V3:=Zh d;have K3:=Zh (nU K2 f);have N:B<=w5.heap.size:=dA;clear d f g c0;go_wp2_with fail;refine(Bd.fI B b _ ⟨#[61,34]⟩ w w5 V3 (by rw[List.length_append,List.length_append,dM];show _+1+_+2<=_;omega) N).mono ?_;rintro e O ⟨rfl,d,f,g⟩;have V4:=Zh d;have K4:=Zh (nU K3 f);have P:B<=O.heap.size:=dA;clear d f g;have c1:O.cell? ⟨wr.heap.size,1,none⟩=some (bA a.vl):=K4.c1;go_wp2_with fail;refine(P2.bM a.vl O dA).mono ?_;rintro e w7 ⟨rfl,Q⟩;have V5:=Zh (V4.on Q Zl P);have R:B<=w7.heap.size:=(IA Q.size);have a6:=P2.CZ a.vl;clear Q c1;go_wp2_with fail;refine(Bd.fI B b _ (P2.pO a.vl) w w7 V5 (by rw[List.length_append,List.length_append,List.length_append,dM];show _+1+_+2+_<=_;omega) R).mono ?_;rintro e w8 ⟨rfl,d,f,g⟩;have V6:=Zh d;have S:B<=w8.heap.size:=dA;clear d f g;go_wp2_with fail;refine(Bd.fI B b _ ⟨#[34]⟩ w w8 V6 (by rw[List.length_append,List.length_append,List.length_append,List.length_append,dM,dM];show _+1+_+2+_+1<=_;omega) S).mono ?_;rintro e w9 ⟨rfl,d,f,g⟩;have V7:=Zh d;clear d f g;go_wp2_with fail;go_roundw
   case rel=>exact⟨k+1,by omega,by go_num,Zh (dJ V7 (by rw[<-HX.out,SN.out];simp[uJ,P2.pO]))⟩
   case measure=>simp[intOf];omega
  ·obtain rfl:k=n:=dA
   have K:=H.out;go_wp2_with fail;refine(Bd.fI B b _ ⟨#[62]⟩ w wr D (by show _+1<=_;omega) v).mono ?_;rintro e C ⟨rfl,d,f,g⟩;have L:Hid (Bd.RD B b (l++fG tag.data.toList attrs) w C):=Zh (dJ d (by rw[<-U.out,List.take_length];simp[fG]));clear d f g;go_wp2_with fail
   go_end0
   exact⟨rfl,L⟩
def rW(t:TV):Prop:=∀(B b:Nat) (l:uA) (w:World),Bd.EH B b l w->B<=w.heap.size->EC w B t->XH (er t)=true->l.length+(wC (er t)).length<=1000000000->
 jA 134 #[lA b,.agg #[bA t.tag,bA t.txt,bA t.key,.slice t.sa.A t.sa.n t.sa.c,.slice t.sk.A t.sk.n t.sk.c]] w fun e w'=>e= .returned (.tuple #[])/\Bd.RD B b (l++wC (er t)) w w'
def Rr(ts:List TV):Prop:=∀(B b:Nat) (l:uA) (w:World) (A:vA) (n c:Nat),Bd.EH B b l w->B<=w.heap.size->kT.AA w B A ts->ts.length=n->(∀t∈ts,EC w B t)->jD (yA ts)=true->ts.length<=100000->l.length+(dB (yA ts)).length<=1000000000->
 jA 161 #[lA b,.slice A n c] w fun e w'=>e= .returned (.tuple #[])/\Bd.RD B b (l++dB (yA ts)) w w'
theorem DZ(ts:List TV)(IH:∀t∈ts,rW t):Rr ts:=by
 intro B b l w A n c D hB E u i F T f;have U:=Zh E;have V:=Zh u;have W:=Zh i;have X:=Zh IH;have G:Hid ((yA ts).length=n):=Zh (by rw[nC];simpa using u);have Y:Hid (∀k (v:k<ts.length),XH (er ts[k])=true):=Zh (fun k v=>by
  have x:k<(yA ts).length:=(by rw[nC];simpa using v);have q:=BV x F;have e:(yA ts)[k]=er ts[k]:=(by simp[nC]);rw[e] at q;exact q)
 have j:=Zh f;have Z:n<=100000:=dA;have H0:=Zh (Bd.RD.start D);clear D E u i F T f IH;go_enter func161,ntmps161;go_wp2_with fail;go_loopw [8] (fun s wr=>∃(k:Nat),k<=n/\s = aA k/\Hid (Bd.RD B b (l++dB ((yA ts).take k)) w wr)) (fun s _=>n-(intOf s).toNat)
 case atStart=>exact⟨0,by omega,rfl,Zh (dJ H0 (by simp[dB]))⟩
 case round=>
  obtain⟨k,v,rfl,m⟩:=hrel;have p:B<=wr.heap.size:=(IA m.size);by_cases a5:k<n
  ·have a:k<ts.length:=(IA V.out);have y:k<(yA ts).length:=(IA G.out);obtain⟨b',o,rfl,a6,H,I,J,K,L⟩:=qK (U.below m.2.1 Zl) a;have M:Hid (EC wr B ts[k]):=Zh ((W _ (List.getElem_mem a)).later m.2.1 Zl);have z:Hid (dB ((yA ts).take (k+1))=dB ((yA ts).take k)++wC (er ts[k])):=Zh (by
    rw[zj y];simp[nC])
   have N:Hid ((l++dB ((yA ts).take k)).length+(wC (er ts[k])).length<=1000000000):=Zh (by
    have q:=congrArg List.length z;have h2:=Ue (yA ts) (k+1);have h3:=j.out;simp only[List.length_append] at q|-;omega)
   have O:Hid (rW ts[k]):=Zh (X _ (List.getElem_mem a));have P:=Zh (Y k a);generalize ts[k]=d at H I J K L M z N O P;go_upto_region 3 with fail;have g:=Zh (TB.new wr d);have r:Hid (fA wr (wr.alloc (.cells #[bA d.tag,bA d.txt,bA d.key,.slice d.sa.A d.sa.n d.sa.c,.slice d.sk.A d.sk.n d.sk.c] 81))):=Zh (Zb _ _);generalize wr.alloc (.cells #[bA d.tag,bA d.txt,bA d.key,.slice d.sa.A d.sa.n d.sa.c,.slice d.sk.A d.sk.n d.sk.c] 81)=Q at g r|-;have R:=Zh (m.on r Zl p);have C:B<=Q.heap.size:=(IA r.size);have TA:=Zh (M.later r p);have a0:=g.c0;have a1:=g.c1;have a2:=g.c2;have a3:=g.c3;have a4:=g.c4;clear H I J K L;go_wp2_with fail;refine(O B b _ Q R.1 C TA P N).mono ?_;rintro e w5 ⟨rfl,S⟩;have V5:=Zh (R.trans S);clear S;go_wp2_with fail;go_roundw
   case rel=>exact⟨k+1,by omega,by go_num,Zh (dJ V5 (by rw[z.out,List.append_assoc]))⟩
   case measure=>simp[intOf];omega
  ·obtain rfl:k=n:=dA
   go_wp2_with fail
   go_end0
   exact⟨rfl,dJ m (by rw[<-G.out,List.take_length])⟩
theorem bM:∀t:TV,rW t:=by
 intro t
 induction t using TV.ind with
 |h tag txt key sa attrs sk kids ih=>
  obtain⟨A,n,c⟩:=sa;obtain⟨d,f,g⟩:=sk;intro B b l w P hB h C i;have KA:Hid (Rr kids):=Zh (DZ kids ih);have KL:Hid (kids.length=f):=Zh h.kl;have KH:Hid (kT.AA w B d kids):=Zh h.kh;have KS:Hid (∀k∈kids,EC w B k):=Zh h.ks;have TT:Hid (EC w B (.mk tag txt key ⟨A,n,c⟩ attrs ⟨d,f,g⟩ kids)):=Zh h;rw[er] at i C|-;have HP:Hid (wC (.mk tag txt key attrs (yA kids))=wC (.mk tag txt key attrs (yA kids))):=Zh rfl;rw[XH] at C;simp only[Bool.and_eq_true,decide_eq_true_eq] at C;obtain⟨⟨⟨⟨⟨f1,f2⟩,f3⟩,Q⟩,R⟩,S⟩:=C;have F4:=Zh Q;have F5:=Zh S;have CL:Hid (kids.length<=100000):=Zh (by rw[nC,List.length_map] at R;omega);have a:=Zh i;have s:Hid (Bd.RD B b l w (w.alloc (.cells #[bA tag,bA txt,bA key,.slice A n c,.slice d f g] 81))):=Zh ((Bd.RD.start P).alloc hB _);have m:Hid (TB (w.alloc (.cells #[bA tag,bA txt,bA key,.slice A n c,.slice d f g] 81)) w.heap.size (.mk tag txt key ⟨A,n,c⟩ attrs ⟨d,f,g⟩ kids)):=Zh (TB.new w (.mk tag txt key ⟨A,n,c⟩ attrs ⟨d,f,g⟩ kids));have ET:Hid (tag.data.toList.length=tag.size):=Zh (dM tag);clear h ih P i Q S R;show jA 134 #[lA b,.agg #[bA tag,bA txt,bA key,.slice A n c,.slice d f g]] w _;go_enter func134,ntmps134;go_upto_region 1 with fail;generalize w.alloc (.cells #[bA tag,bA txt,bA key,.slice A n c,.slice d f g] 81)=W at s m|-;have y:B<=W.heap.size:=(IA s.size);have u:W.cell? ⟨w.heap.size,0,none⟩=some (bA tag):=m.c0;have T:W.cell? ⟨w.heap.size,1,none⟩=some (bA txt):=m.c1;have U:W.cell? ⟨w.heap.size,2,none⟩=some (bA key):=m.c2;have V:W.cell? ⟨w.heap.size,3,none⟩=some (.slice A n c):=m.c3;have D:W.cell? ⟨w.heap.size,4,none⟩=some (.slice d f g):=m.c4;cases tE:tag.toList.isEmpty with
  |true=>
   have E:Hid (wC (.mk tag txt key attrs (yA kids))=P2.SA txt.data.toList):=Zh (NO tE);go_wp2_with fail;refine(P2.bM txt W dA).mono ?_;rintro e j ⟨rfl,H⟩;have o:=Zh (s.on H Zl y);have p:B<=j.heap.size:=(IA H.size);have a5:=P2.CZ txt;have I:l.length<=1000000000:=(IA a.out);clear H u T U V D;go_wp2_with fail;refine(Bd.fI B b l (P2.pO txt) w j o dA p).mono ?_;rintro e J ⟨rfl,q,k3,z3⟩;have F:=Zh q;clear q k3 z3;go_wp2_with fail
   first|go_ret|go_ret2|(refine bodyPost_ret (v:=.tuple #[]) (by simp[results,results134,go_sem]) rfl ?_)
   exact⟨rfl,dJ F (by rw[E.out];simp[P2.pO])⟩
  |false=>
   have I:l.length<=1000000000:=(IA a.out);have TW:=Zh (TT.later s.2.1 Zl);have OL:Hid (l.length+(fG tag.data.toList attrs).length<=2000000000):=Zh (by
    have z:=a.out;cases hvd:P1.dC tag.data.toList with
    |true=>rw[aN tE hvd] at z;omega
    |false=>rw[IK tE hvd,List.length_append] at z;omega)
   go_wp2_with fail;refine(Nn (.mk tag txt key ⟨A,n,c⟩ attrs ⟨d,f,g⟩ kids) B b l W s.1 y TW f1 F4 OL).mono ?_;rintro e j ⟨rfl,G⟩;have o:Hid (Bd.RD B b (l++fG tag.data.toList attrs) w j):=Zh (s.trans G);have K:=Zh (XO m G.2.2);have p:B<=j.heap.size:=(IA G.size);clear G u T U V D;have u:j.cell? ⟨w.heap.size,0,none⟩=some (bA tag):=K.c0;have D:j.cell? ⟨w.heap.size,4,none⟩=some (.slice d f g):=K.c4;go_wp2_with fail;refine PA (P1.eN tag _) ?_;obtain⟨bv,r⟩:=DA (P1.dC tag.data.toList);rw[r];have X:=Zh r;clear r;cases bv with
   |true=>
    go_wp2_with fail
    first|go_ret|go_ret2|(refine bodyPost_ret (v:=.tuple #[]) (by simp[results,results134,go_sem]) rfl ?_)
    exact⟨rfl,dJ o (by rw[aN tE X.out])⟩
   |false=>
    have E:Hid (wC (.mk tag txt key attrs (yA kids))=fG tag.data.toList attrs++(dB (yA kids)++60:: 47:: (tag.data.toList++[62]))):=Zh (IK tE X);have Y:Hid ((l++fG tag.data.toList attrs).length+(dB (yA kids)).length<=1000000000):=Zh (by
     have z:=a.out;rw[E.out] at z;simp only[List.length_append] at z|-;omega)
    go_wp2_with fail;refine(KA B b _ j d f g o.1 p (KH.below o.2.1 Zl) KL (fun k hk=>(KS k hk).later o.2.1 Zl) F5 CL Y).mono ?_;rintro e J ⟨rfl,q⟩;have F:=Zh (o.trans q);have N3:=Zh (XO K q.2.2);have L:B<=J.heap.size:=(IA q.size);clear q u D;generalize hx:l++fG tag.data.toList attrs++dB (yA kids)=x at F;have HX:=Zh hx;have a6:x.length<=1000000000:=(by rw[<-hx,List.length_append];exact Y);clear hx;go_wp2_with fail;refine(Bd.fI B b x ⟨#[60,47]⟩ w J F (by show _+2<=_;omega) L).mono ?_;rintro e M ⟨rfl,Z,k4,z4⟩;have V4:=Zh Z;have N4:=Zh (XO N3 k4);have N:B<=M.heap.size:=dA;clear Z k4 z4;have u:M.cell? ⟨w.heap.size,0,none⟩=some (bA tag):=N4.c0;go_wp2_with fail;refine(Bd.fI B b _ tag w M V4 (by rw[List.length_append];show _+2+_<=_;omega) N).mono ?_;rintro e w5 ⟨rfl,h5,k5,z5⟩;have V5:=Zh h5;have O:B<=w5.heap.size:=dA;clear h5 k5 z5 u;go_wp2_with fail;refine(Bd.fI B b _ ⟨#[62]⟩ w w5 V5 (by rw[List.length_append,List.length_append,dM];show _+2+_+1<=_;omega) O).mono ?_;rintro e w6 ⟨rfl,h6,k6,z6⟩;have V6:=Zh h6;clear h6 k6 z6;go_wp2_with fail
    go_end0
    exact⟨rfl,dJ V6 (by rw[E.out,<-HX.out];simp)⟩
theorem Sr(ts:List TV)(A:vA)(n c:Nat)(w:World)(hh:kT.AA w w.heap.size A ts)(hn:ts.length=n)(hok:∀t∈ts,EC w w.heap.size t)(hf:jD (yA ts)=true)(hc:ts.length<=100000)(hl:(dB (yA ts)).length<=1000000000):
 jA 122 #[.slice A n c] w fun e w'=>e= .returned (bA ((⟨(dB (yA ts)).toArray⟩:qA)))/\fA w w':=by
 have i:=Zh hl;have j:=Zh hh;have k:=Zh hn;have l:=Zh hok;have m:=Zh hf;have o:=Zh hc;have d:=Zh (Bd.EH.fresh w);have a:Hid (fA w (w.alloc (.cells #[.pointer none,tA] 219))):=Zh (Zb _ _);clear hh hn hok hf hc hl;go_enter func122,ntmps122;go_upto_region 2 with fail;generalize w.alloc (.cells #[.pointer none,tA] 219)=p at d a|-;go_wp2_with fail;refine(DZ ts (fun t _=>bM t) w.heap.size w.heap.size [] p A n c d a.size (j.below a Zl) k (fun t q=>(l t q).later a Zl) m o (by have:=i.out;simp only[List.length_nil];omega)).mono ?_;rintro e r ⟨rfl,f⟩;have b:=Zh f;clear f;go_wp2_with fail;refine(Bd.C7 w.heap.size w.heap.size _ r b.1 (by have:=b.size;have:=a.size;omega)).mono ?_;rintro e u ⟨rfl,g⟩;have s:=Zh (a.trans (b.2.1.trans g));clear g;go_wp2_with fail;go_ret;exact⟨rfl,s⟩
end P10
namespace P21
open Go.RowKit Kd P4 P5 P8 P9 P10
theorem On(t:TV)(w:World)(h:EC w w.heap.size t)(hf:JG (er t)=true)(hc:countP (er t)<=1000):
 jA 89 #[.agg #[bA t.tag,bA t.txt,bA t.key,.slice t.sa.A t.sa.n t.sa.c,.slice t.sk.A t.sk.n t.sk.c]] w fun e w'=>e= .returned (bA (uM (er t)))/\fA w w':=by
 have k:Hid ((wC (er t)).length<=30000000):=Zh (IA (Cn (er t) hf));have b:Hid (fA w (w.alloc (.cells #[bA t.tag,bA t.txt,bA t.key,.slice t.sa.A t.sa.n t.sa.c,.slice t.sk.A t.sk.n t.sk.c] 81))):=Zh (Zb _ _);have d:=Zh (TB.new w t);have l:=Zh h;have m:=Zh (jb _ hf dA);clear h hf hc;go_enter func89,ntmps89;go_upto_region 1 with fail;generalize w.alloc (.cells #[bA t.tag,bA t.txt,bA t.key,.slice t.sa.A t.sa.n t.sa.c,.slice t.sk.A t.sk.n t.sk.c] 81)=W at b d|-;have g:=Zh (Bd.EH.fresh W);have a:Hid (TB (W.alloc (.cells #[.pointer none,tA] 219)) w.heap.size t):=Zh (d.below ((Below.refl W.heap.size _).alloc Zl _) d.lt);have c:Hid (fA W (W.alloc (.cells #[.pointer none,tA] 219))):=Zh (Zb _ _);go_upto_region 2 with fail;generalize W.alloc (.cells #[.pointer none,tA] 219)=n at g a c|-;have o:=a.c0;have p:=a.c1;have q:=a.c2;have r:=a.c3;have s:=a.c4;go_wp2_with fail;refine(P10.bM t W.heap.size W.heap.size [] n g c.size (((l.later b Zl).more b.size).later c Zl) m (by have:=k.out;simp only[List.length_nil];omega)).mono ?_;rintro e u ⟨rfl,i⟩;have f:=Zh i;clear i o p q r s;go_wp2_with fail;refine(Bd.C7 W.heap.size W.heap.size _ u f.1 (by have:=f.size;have:=c.size;omega)).mono ?_;rintro e x ⟨rfl,j⟩;have v:=Zh (b.trans ((c.trans (f.2.1.trans j)).mono b.size));clear j;go_wp2_with fail;go_ret;exact⟨rfl,v⟩
end P21
end Go.Proofs.YtimfajmknmlajaaGreatDoor
