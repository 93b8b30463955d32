/- A part of the proof. No condition. -/
import Derived.Deep.RegionWith
import Derived.Deep.RegionHeld3
import Derived.Deep.Cut
import Derived.Test.YtngnkmeaaneklaaGreatM1
import Derived.Test.YtngnkmeaaneklaaGreatM4
import Derived.Test.YtngnkmeaaneklaaGreatM5
import Derived.Test.YtngnkmeaaneklaaGreatM6
import Derived.Test.YtngnkmeaaneklaaGreatM10
import Derived.Test.YtngnkmeaaneklaaGreatM11
import Derived.Test.YtngnkmeaaneklaaGreatM12
set_option linter.unusedVariables false
set_option linter.unusedSimpArgs false
set_option maxRecDepth 100000
set_option maxHeartbeats 40000000
namespace Go.Proofs.YtngnkmeaaneklaaGreat
open Tryz
namespace P13
open Go.RowKit Kd P4 P5 P11 P12 Mv
theorem yX{P:Program}{ops:Array Oper}{o:Oper}{act:Act}{Kk:Act->World->Prop}{Q:Exit->Act->World->Prop}{E:Prop}{w:World}{kt:TypeId}{b n s:Nat}{f:Lit->Option Value}(hg:o.guard=none)(m x v:Operand){t e:TypeId}(hop:o.op=Op.mapUpdate t m x v)(K:Go.Maps.Keyed P kt)(ht:P.underlying t=some (.map kt e))
 (hm:act.eval m= .map (some b)) (h:uC P kt w b n s f) (hn:n<maxLen) {key val:Value} {l:Lit} (hx:act.eval x=key) (hv:act.eval v=val) (hkey:keyOf P kt key=some l) {f':Lit->Option Value} (hf:QO f f' l (some val))
 (hK:∀w',uC P kt w' b (n+1) (if(f l).isSome then s else s+1) f'->w.grownBy w' (some b)->Kk (act.put o.dst undef) w'):if Region.wanted o (yielded ops act.tmps)=true then Oper.wp P o act w Kk Q else E:=by
 have c:Region.wanted o (yielded ops act.tmps)=true:=(by simp[Region.wanted,hg]);rw[if_pos c];obtain⟨w',a,d,g⟩:=h.store K ht hn hkey hf;unfold Oper.wp;simp[execOp,hop,hm,hx,hv,a,Result.andThen];exact hK w' d g
theorem Fr.iU{w w1 w2:World}{B p k g c d:Nat}{A:jA}{n c':Nat}{tl:Bool}{ps:List Pl}{td:List wA}{P:List (List In)}{r:Option Nat}(h:Fr w B p k g c d A n c' tl ps td P)(b:eA w w1)(_:w1.grownBy w2 r):
 Fr w1 B p k g c d A n c' tl ps td P/\eA w w1:=⟨h.below b,b⟩
def Ct(w:World)(B p k:Nat)(P:List (List In))(nm:Option (List (KA)))(e:Ending)(w':World):Prop:=e= .returned (.tuple #[])/\aJ w' B p k P nm/\Below B w w'
theorem AX{P:List (List In)}{x:In}(h:x.op=1):xH P x=BH P x++[[]]:=by rw[xH,if_pos h,BH,oF,List.append_assoc];rfl
theorem ye{P:List (List In)}{x:In}(h:x.op=2):xH P x=P.dropLast:=by rw[xH,if_neg cA,if_pos h]
theorem iP{P:List (List In)}{x:In}(h:x.op≠1)(h':x.op≠2):xH P x=BH P x:=by rw[xH,if_neg h,if_neg h'];rfl
theorem eU{w:World}{B p k:Nat}{P:List (List In)}{nm:Option (List (List UInt8))}(h:aJ w B p k P nm)(hk:k<=1000)(i:In)(ha:i.a.size<=300)(hb:i.b.size<=300)(hw:RI P nm i=0):
 Calls prog 147 #[.pointer (some ⟨p,0,none⟩),.agg #[.int .i64 i.op,.string i.a,.string i.b]] w (Ct w B p (k+1) (xH P i) (tI nm i)):=by
 obtain⟨o,a,b⟩:=i;have ha:a.size<=300:=ha;have hb:b.size<=300:=hb;obtain⟨g,c,d,A,n,c',ps,td,F,a8⟩:=h.fr;have r:=xX (nm:=nm) F.len F.d8 ⟨o,a,b⟩;rw[hw] at r;simp only at r;have hT:JB o=true->∃ns,nm=some ns:=fun e=>by
  cases nm with
  |some ns=>exact⟨ns,rfl⟩
  |none=>
   exfalso;rw[mP,e] at r;unfold codeF at r;split at r<;>cases r
 have ad:JB o=true->o≠7/\o≠1/\o≠2/\pE ⟨o,a,b⟩=false:=fun e=>by
  simp only[JB,decide_eq_true_eq] at e;refine⟨by omega,by omega,by omega,?_⟩;simp only[pE,gD];rw[decide_eq_false (by omega)];rfl
 have hO:o=1->d<=7:=fun e=>by
  have:=F.d8;subst e;rcases Nat.lt_or_ge d 8 with h8|h8
  ·omega
  ·exfalso;obtain rfl:d=8:=by omega
   unfold codeF at r;simp[JB] at r;split at r
   ·cases r
   ·split at r
    ·cases r
    ·split at r<;>cases r
 have hC:o=2->∃d',d=d'+1:=fun e=>by
  subst e;rcases Nat.eq_zero_or_pos d with h0|h0
  ·exfalso;subst h0;unfold codeF at r;simp[JB] at r;split at r<;>cases r
  ·exact⟨d-1,by omega⟩
 clear r hw h;have HT:=Zh hT;have ae:=Zh ad;have HO:=Zh hO;have HC:=Zh hC;have a8:=Zh a8;have a9:Hid (keyOf prog 9 (.string b)=some (.string b.toList)):=Zh (by rw[ByteArray.toList_eq];exact Go.WideMaps.keyOf_string_mk underlying9 (by unfold maxLen;omega));have af:k<maxLen:=(by unfold maxLen;omega);clear hT ad hO hC ha hb;have B1:Hid (Below w.heap.size w (w.alloc (.cells #[.int .i64 o,.string a,.string b] 110))):=Zh (Zb _ _);have N1:Hid (XB (w.alloc (.cells #[.int .i64 o,.string a,.string b] 110)) w.heap.size ⟨o,a,b⟩):=Zh (XB.new w ⟨o,a,b⟩);have F1:=Zh (F.below B1.out);have an:=F.size;have ao:w.heap.size<=w.heap.size:=Zl;clear F;go_enter func147,ntmps147;go_upto_region 1 with fail;have BB:=Zh (B1.out.mono an);generalize w.alloc (.cells #[.int .i64 o,.string a,.string b] 110)=W at BB N1 F1|-;obtain⟨x,hx⟩:∃x,x=w.heap.size:=⟨_,rfl⟩;rw[<-hx] at N1|-;have aw:B<=x:=(by omega);clear hx ao B1;have H:=N1.out.c0;have c1:=N1.out.c1;have X:=N1.out.c2;simp only at H c1 X;go_wp2_with fail;cases hbt:JB o with
 |true=>
  obtain⟨ns,ap⟩:=HT.out hbt;subst ap;obtain⟨h7,h1,h2,E⟩:=ae.out hbt;have HP:Hid (xH P ⟨o,a,b⟩=BH P ⟨o,a,b⟩):=Zh (iP h1 h2);have HN:Hid (tI (some ns) ⟨o,a,b⟩=some (ns++[a.toList])):=Zh (by rw[fS hbt];rfl);have R:=Zh (F1.out.hU (x:=⟨o,a,b⟩) E h7);refine(fU o _ hbt).mono ?_;rintro e w' ⟨rfl,rfl⟩;have d2:=R.out.c2;have f2:=R.out.frozen 2;have ab:x≠p:=fun e=>RA (show W.heap[x]? = _ from N1.out) (e▸R.out.mA) (by decide) rfl
  have aq:=R.out.bJ;have ax:=R.out.nk;have ar:(Value.slice A n c').ownBlock≠some x:=fun e=>by
   obtain⟨y,hy⟩:=R.out.told.ty e;exact RA hy (show W.heap[x]? = _ from N1.out) (by decide) rfl
  clear h1 h2 h7 E hbt;go_upto_region 2 with fail;refine Tl.GH (S:=(fun w'=>w'.cell? ⟨p,2,none⟩=some (.slice A n c')/\w'.cell? ⟨x,1,none⟩=some (.string a))) (by kernel_rfl) 11 _ rfl rfl rfl (by kernel_rfl) (by first|go_keep|exact⟨d2,c1⟩) (fun hHeld=>?_);simp only[List.setIfInBounds_toArray,List.set_cons_zero,List.set_cons_succ,Tl.idle]
  repeat' (first
   |refine Zu 0 7 ?_
   |refine Zu 1 8 ?_
   |refine Zu 2 9 ?_
   |refine Zu 3 10 ?_
   |refine Zu 4 11 ?_
   |refine Zu 5 12 ?_
   |refine Zu 6 13 ?_
   |refine Zu 9 16 ?_
   |refine Zu 10 17 ?_
   |refine Zv 11 ?_
   |refine Zq [7] ?_
   |refine Zq [8] ?_
   |refine AllReadyH.cons rfl (fun K hK=>?_) ?_
   |exact AllReadyH.nil
   |(refine cI.tG rfl (.tmp 11) (.tmp 14) rfl (v:=.slice A n c') (l:=td) (m:=[a]) (B:=B) (A:=some ⟨W.heap.size,0,none⟩) (n:=1) (c:=1) rfl (R.out.told.below (by first|exact(Ze.drew).alloc Zl _|exact(Zb _ _).drew|exact Zb _ _) Zl) rfl rfl (fun e=>by cases e) (Kind.pA.lit (heap_alloc_new _ _) rfl) (by simp;omega) (by have:=R.out.size;simp;omega) ?_
     intro v7 N q f T;obtain⟨A7,n7,c7,rfl,U,_,_,_,_⟩:=q.slice;have b5:=Fr.iU R.out (by first|exact(Ze.drew).alloc Zl _|exact(Zb _ _).drew|exact Zb _ _) f;have Z:=Zh (Fr.tell b5.1 f q (by rw[<-U,List.length_append,aq];rfl));have I:=(f.block p (by have:=R.out.lt;simp;omega) (fun e=>R.out.DQ e.symm rfl)).trans b5.1.mA;have e7:N.cell? ⟨p,2,none⟩=some (.slice A n c'):=cell_of_row N p 2 _ _ (0,0) I;have f7:N.frozen? ⟨p,2,none⟩=false:=(by simp[World.frozen?,I]);have x7:N.cell? ⟨x,1,none⟩=some (.string a):=cell_of_row N x 1 _ _ (0,0) ((f.block x (by have:=N1.out.lt;simp;omega) (fun e=>ar e.symm)).trans ((b5.2.block x N1.out.lt).trans N1.out));have B7:Hid (Below B w (N.setCell ⟨p,2,none⟩ (.slice A7 n7 c7))):=Zh ((BB.out.trans (b5.2.mono R.out.size)).trans Z.out.2);clear q f T I b5 U;refine hK.out _ _ ?_ (fun hHeld=>?_)
     ·exact⟨e7,x7⟩
     clear hK K;(try simp only[Zs]))
   |(go_simp
     refine hK.out _ _ ?_ (fun hHeld=>?_)
     ·go_keep
     clear hK K;(try simp only[Zs]))
   |(refine wpAnyH_done (by decide +kernel) ?_ _
     intro K hK;go_simp;refine hK _ _ ?_;clear hK K;go_wp2_with fail
     go_end0
     exact⟨rfl,(by rw[HP.out,HN.out];exact Fr.is Z.out.1 rfl (by rw[List.map_append];have:=a8.out;simp only[Option.getD_some] at this|-;rw[this];rfl)),B7.out⟩))
 |false=>
  clear HT ae;refine(fU o _ hbt).mono ?_;rintro e w' ⟨rfl,rfl⟩;have d1:=F1.out.c1;have d2:=F1.out.c2;have f1:=F1.out.frozen 1;have f2:=F1.out.frozen 2;have ab:x≠p:=fun e=>RA (show W.heap[x]? = _ from N1.out) (e▸F1.out.mA) (by decide) rfl
  have N2:Hid (XB ((W.setCell ⟨p,1,none⟩ (.bool (gD o))).setCell ⟨p,2,none⟩ (.slice none 0 0)) x ⟨o,a,b⟩):=Zh (((Below.heap_setCell _ _ _ _ ab).trans (Below.heap_setCell _ _ _ _ ab)).trans N1.out);obtain⟨mk,a3⟩:=qA (gD o);have HB:Hid (∀t,Calls prog 176 #[.int .i64 o] t fun e w'=>e= .returned (.bool mk)/\t=w'):=Zh (fun t=>by rw[<-a3];exact wX o t);have R:=Zh (F1.out.AR mk);rw[a3] at N2;have ac:=Zh (BB.out.trans R.out.2);have ag:Hid (∃a4,tI nm ⟨o,a,b⟩=a4/\mk=a4.isSome/\a4.getD []=[]):=Zh (by
   cases mk with
   |true=>exact⟨some [],eS a3,rfl,rfl⟩
   |false=>exact⟨none,gS a3 hbt,rfl,rfl⟩)
  clear a3;go_wp2_with fail;refine(HB.out _).mono ?_;rintro e w' ⟨rfl,rfl⟩;go_upto_region 4 with fail;clear H c1 X d1 d2 f1 f2 N1 F1 BB;generalize (W.setCell ⟨p,1,none⟩ (.bool mk)).setCell ⟨p,2,none⟩ (.slice none 0 0)=W2 at R ac N2|-;obtain⟨a4,ah,ai,aj⟩:=ag.out;have a0:=Zh ah;have a1:Hid ([]=a4.getD []):=Zh aj.symm;have a2:=Zh ai;clear ah ai aj ag a8 HB;have H:=N2.out.c0;have c1:=N2.out.c1;have X:=N2.out.c2;simp only at H c1 X;have ak:Hid (∀t,Calls prog 174 #[.agg #[.int .i64 o,.string a,.string b]] t fun e w'=>e= .returned (.bool (pE ⟨o,a,b⟩))/\Below t.heap.size t w'):=Zh (fun t=>dZ o a b t);have al:Hid (pE ⟨o,a,b⟩=true->o=1\/o=3):=Zh (fun e=>by
   simp only[pE,gD,Bool.and_eq_true,decide_eq_true_eq] at e;exact e.1)
  go_wp2_with fail;refine(ak.out _).mono ?_;rintro e w3 ⟨rfl,b3⟩;have u:=Zh (R.out.1.below b3);have G:=Zh (N2.out.below b3 N2.out.lt);have O:=Zh (ac.out.trans (b3.mono R.out.1.size));clear b3 H c1 X R N2 ac ak;have aa:Hid (pE ⟨o,a,b⟩=true->QO (gG (oF P)) (gG (oF P++[⟨o,a,b⟩])) (.string b.toList) (some (.agg #[]))):=Zh (fun e=>Bi e);have HH:Hid (∀t,Below w3.heap.size w3 t->Calls prog 173 #[.pointer (some ⟨p,0,none⟩)] t fun e w'=>e= .returned (.pointer (some ⟨g,d*2,none⟩))/\∃j,w'=t.drewN j):=Zh (fun t h9=>U4 p g d c t (u.out.below h9).c0 (by have:=u.out.d8;omega));have HD:Hid (∀t,Below w3.heap.size w3 t->Calls prog 148 #[.pointer (some ⟨p,0,none⟩)] t fun e w'=>e= .returned (.int .i64 d)/\t=w'):=Zh (fun t h9=>NP p d c _ t (u.out.below h9).c0 (by have:=u.out.d8;omega));have H:=G.out.c0;have c1:=G.out.c1;have X:=G.out.c2;simp only at H c1 X;have g0:=u.out.place.1;have ay:d<ps.length:=(by have:=u.out.pl;omega);obtain⟨m,hm⟩:=qA (ps[d].m);rw[hm] at g0;have HM:=Zh hm;clear hm;by_cases h1:o=1
  ·have q1:=int_eq h1;have h7:o≠7:=(by omega);cases E:pE ⟨o,a,b⟩ with
   |true=>
    go_upto_region 5 with fail;refine Tl.GH (S:=(fun w'=>w'.cell? ⟨g,d*2,none⟩=some (.map (some m))/\w'.cell? ⟨x,2,none⟩=some (.string b))) (by kernel_rfl) 8 _ rfl rfl rfl (by kernel_rfl) (by first|go_keep|exact⟨g0,X⟩) (fun hHeld=>?_);simp only[List.setIfInBounds_toArray,List.set_cons_zero,List.set_cons_succ,Tl.idle]
    repeat' (first
     |refine Zu 0 29 ?_
     |refine Zu 2 31 ?_
     |refine Zu 3 32 ?_
     |refine Zu 4 33 ?_
     |refine Zu 5 34 ?_
     |refine Zu 6 35 ?_
     |refine Zu 7 36 ?_
     |refine Zv 8 ?_
     |refine Zq [1] ?_
     |refine AllReadyH.cons rfl (fun K hK=>?_) ?_
     |exact AllReadyH.nil
     |(go_simp
       go_at_call 173;refine(HH.out _ (by first|exact Ze|exact Ze.drew)).mono ?_;rintro e w5 ⟨rfl,j5,Q⟩;have C:Hid (Below w3.heap.size w3 w5):=Zh (by first|exact Q▸UG Ze _|exact Q▸UG Ze.drew _);clear Q;refine hK.out _ _ ?_ (fun hHeld=>?_)
       ·exact⟨(u.out.below C.out).place.1.trans (by rw[HM.out]),(G.out.below C.out G.out.lt).c2⟩
       clear hK K;(try simp only[Zs]))
     |(refine wpAnyH_done (by decide +kernel) ?_ _
       intro K hK;obtain⟨s5,V⟩:=(u.out.below C.out).map;obtain⟨au,av,Y⟩:=V.mA;rw[HM.out] at Y;refine yX rfl _ _ _ rfl IV underlying203 (by rw[HM.out] at V;rfl) (by rw[HM.out] at V;exact V) af rfl rfl a9.out (aa.out E) ?_;intro N m7 g7;have P7:=Fr.za (x:=⟨o,a,b⟩) (u.out.below C.out) h7 (by rw[HM.out];exact g7) (by rw[HM.out];exact m7);have J:=Zh P7.1;have L:=Zh ((O.out.trans (C.out.mono u.out.size)).trans P7.2);have N4:Hid (XB N x ⟨o,a,b⟩):=Zh ((g7.block x (G.out.below C.out G.out.lt).lt (fun e=>(kK Y (G.out.below C.out G.out.lt)) (Option.some.inj e).symm)).trans (G.out.below C.out G.out.lt));refine hK _ _ ?_;clear hK K P7 g7 m7 V Y H c1 X g0 u G O;generalize N=t at J L N4|-;have H:=N4.out.c0;simp only at H;have d0:=J.out.c0;have HP:Hid (xH P ⟨o,a,b⟩=BH P ⟨o,a,b⟩++[[]]):=Zh (AX h1);go_upto_region 8 with fail;refine Tl.GH (S:=(fun w'=>w'.cell? ⟨p,0,none⟩=some (.slice (some ⟨g,0,none⟩) (d+1) c))) (by kernel_rfl) 10 _ rfl rfl rfl (by kernel_rfl) (by first|go_keep|exact d0) (fun hHeld=>?_);simp only[List.setIfInBounds_toArray,List.set_cons_zero,List.set_cons_succ,Tl.idle]
       repeat' (first
        |refine Zu 0 41 ?_
        |refine Zu 1 42 ?_
        |refine Zu 2 43 ?_
        |refine Zu 3 44 ?_
        |refine Zu 4 45 ?_
        |refine Zu 8 49 ?_
        |refine Zu 9 50 ?_
        |refine Zv 10 ?_
        |refine Zq [5] ?_
        |refine Zq [6] ?_
        |refine Zq [7] ?_
        |refine AllReadyH.cons rfl (fun K hK=>?_) ?_
        |exact AllReadyH.nil
        |(go_simp
          go_at_call 145;refine(YR _).mono ?_;rintro e w5 ⟨m5,rfl,a5,V,b5⟩;have C:Hid (Below t.heap.size t w5):=Zh (by first|exact b5|exact Ze.drew.trans b5);have a6:Hid (t.heap.size<=m5):=Zh a5;have a7:=Zh V;have D:=Zh (J.out.below C.out);clear b5 a5 V;refine hK.out _ _ ?_ (fun hHeld=>?_)
          ·exact D.out.c0
          clear hK K;(try simp only[Zs]))
        |(refine EH.tG rfl (.tmp 45) (.tmp 47) rfl (v:=.slice (some ⟨g,0,none⟩) (d+1) c) (l:=ps) (m:=[⟨m5,false⟩]) (B:=B) (A:=some ⟨w5.heap.size,0,none⟩) (n:=1) (c:=1) rfl (D.out.own.below (by first|exact(Ze.drew).alloc Zl _|exact(Zb _ _).drew|exact Zb _ _) Zl) rfl rfl (fun e=>by cases e) (Kind.pA.lit (heap_alloc_new _ _) rfl) (by have:=D.out.pl;have:=D.out.d8;simp;omega) (by have:=D.out.size;simp;omega) ?_
          intro v7 N q f T;obtain⟨g7,n7,c7,rfl,U⟩:=Y4 q (by simp);have b7:=Fr.iU D.out (by first|exact(Ze.drew).alloc Zl _|exact(Zb _ _).drew|exact Zb _ _) f;have Z:=Zh (Fr.push b7.1 (HO.out h1) f q (by rw[<-U,List.length_append,D.out.pl];rfl) (a7.out.below b7.2 a7.out.lt) (by have:=a6.out;have:=J.out.size;omega) (fun i hi=>by
           obtain⟨_,_,s,M⟩:=J.out.at_ i hi (by have:=J.out.len;have:=J.out.pl;omega);have:=M.lt;have:=a6.out;omega))
          have I:=(f.block p (by have:=D.out.lt;simp;omega) (fun e=>D.out.qL (Option.some.inj e).symm)).trans b7.1.mA;have e7:N.cell? ⟨p,0,none⟩=some (.slice (some ⟨g,0,none⟩) (d+1) c):=cell_of_row N p 0 _ _ (0,0) I;have f7:N.frozen? ⟨p,0,none⟩=false:=(by simp[World.frozen?,I]);have B7:Hid (Below B w (N.setCell ⟨p,0,none⟩ (.slice (some ⟨g7,0,none⟩) n7 c7))):=Zh (((L.out.trans (C.out.mono J.out.size)).trans (b7.2.mono D.out.size)).trans Z.out.2);clear q f T I b7 U;refine hK.out _ _ ?_ (fun hHeld=>?_)
          ·exact e7
          clear hK K;(try simp only[Zs]))
        |(go_simp
          refine hK.out _ _ ?_ (fun hHeld=>?_)
          ·first|go_keep|exact(D.out.below (by first|exact(Ze.drew).alloc Zl _|exact(Zb _ _).drew|exact Zb _ _)).c0
          clear hK K;(try simp only[Zs]))
        |(refine wpAnyH_done (by decide +kernel) ?_ _
          intro K hK;go_simp;refine hK _ _ ?_;clear hK K;go_wp2_with fail
          go_end0
          exact⟨rfl,(by rw[HP.out,a0.out];exact Fr.is Z.out.1 a2.out a1.out),B7.out⟩))))
   |false=>
    have J:=Zh (u.out.hU (x:=⟨o,a,b⟩) E h7 |>.mono (Nat.le_succ k));have L:=O;have N4:=G;clear H c1 X g0 u G O;generalize w3=t at J L N4 HH HD|-;have H:=N4.out.c0;simp only at H;have d0:=J.out.c0;have HP:Hid (xH P ⟨o,a,b⟩=BH P ⟨o,a,b⟩++[[]]):=Zh (AX h1);go_upto_region 8 with fail;refine Tl.GH (S:=(fun w'=>w'.cell? ⟨p,0,none⟩=some (.slice (some ⟨g,0,none⟩) (d+1) c))) (by kernel_rfl) 10 _ rfl rfl rfl (by kernel_rfl) (by first|go_keep|exact d0) (fun hHeld=>?_);simp only[List.setIfInBounds_toArray,List.set_cons_zero,List.set_cons_succ,Tl.idle]
    repeat' (first
     |refine Zu 0 41 ?_
     |refine Zu 1 42 ?_
     |refine Zu 2 43 ?_
     |refine Zu 3 44 ?_
     |refine Zu 4 45 ?_
     |refine Zu 8 49 ?_
     |refine Zu 9 50 ?_
     |refine Zv 10 ?_
     |refine Zq [5] ?_
     |refine Zq [6] ?_
     |refine Zq [7] ?_
     |refine AllReadyH.cons rfl (fun K hK=>?_) ?_
     |exact AllReadyH.nil
     |(go_simp
       go_at_call 145;refine(YR _).mono ?_;rintro e w5 ⟨m5,rfl,a5,V,b5⟩;have C:Hid (Below t.heap.size t w5):=Zh (by first|exact b5|exact Ze.drew.trans b5);have a6:Hid (t.heap.size<=m5):=Zh a5;have a7:=Zh V;have D:=Zh (J.out.below C.out);clear b5 a5 V;refine hK.out _ _ ?_ (fun hHeld=>?_)
       ·exact D.out.c0
       clear hK K;(try simp only[Zs]))
     |(refine EH.tG rfl (.tmp 45) (.tmp 47) rfl (v:=.slice (some ⟨g,0,none⟩) (d+1) c) (l:=ps) (m:=[⟨m5,false⟩]) (B:=B) (A:=some ⟨w5.heap.size,0,none⟩) (n:=1) (c:=1) rfl (D.out.own.below (by first|exact(Ze.drew).alloc Zl _|exact(Zb _ _).drew|exact Zb _ _) Zl) rfl rfl (fun e=>by cases e) (Kind.pA.lit (heap_alloc_new _ _) rfl) (by have:=D.out.pl;have:=D.out.d8;simp;omega) (by have:=D.out.size;simp;omega) ?_
       intro v7 N q f T;obtain⟨g7,n7,c7,rfl,U⟩:=Y4 q (by simp);have b7:=Fr.iU D.out (by first|exact(Ze.drew).alloc Zl _|exact(Zb _ _).drew|exact Zb _ _) f;have Z:=Zh (Fr.push b7.1 (HO.out h1) f q (by rw[<-U,List.length_append,D.out.pl];rfl) (a7.out.below b7.2 a7.out.lt) (by have:=a6.out;have:=J.out.size;omega) (fun i hi=>by
        obtain⟨_,_,s,M⟩:=J.out.at_ i hi (by have:=J.out.len;have:=J.out.pl;omega);have:=M.lt;have:=a6.out;omega))
       have I:=(f.block p (by have:=D.out.lt;simp;omega) (fun e=>D.out.qL (Option.some.inj e).symm)).trans b7.1.mA;have e7:N.cell? ⟨p,0,none⟩=some (.slice (some ⟨g,0,none⟩) (d+1) c):=cell_of_row N p 0 _ _ (0,0) I;have f7:N.frozen? ⟨p,0,none⟩=false:=(by simp[World.frozen?,I]);have B7:Hid (Below B w (N.setCell ⟨p,0,none⟩ (.slice (some ⟨g7,0,none⟩) n7 c7))):=Zh (((L.out.trans (C.out.mono J.out.size)).trans (b7.2.mono D.out.size)).trans Z.out.2);clear q f T I b7 U;refine hK.out _ _ ?_ (fun hHeld=>?_)
       ·exact e7
       clear hK K;(try simp only[Zs]))
     |(go_simp
       refine hK.out _ _ ?_ (fun hHeld=>?_)
       ·first|go_keep|exact(D.out.below (by first|exact(Ze.drew).alloc Zl _|exact(Zb _ _).drew|exact Zb _ _)).c0
       clear hK K;(try simp only[Zs]))
     |(refine wpAnyH_done (by decide +kernel) ?_ _
       intro K hK;go_simp;refine hK _ _ ?_;clear hK K;go_wp2_with fail
       go_end0
       exact⟨rfl,(by rw[HP.out,a0.out];exact Fr.is Z.out.1 a2.out a1.out),B7.out⟩))
  ·have q1:=int_ne h1;by_cases h2:o=2
   ·have q2:=int_eq h2;have E:pE ⟨o,a,b⟩=false:=by
     cases hz:pE ⟨o,a,b⟩ with
     |false=>rfl
     |true=>exact absurd (al.out hz) (by omega)
    rw[E];obtain⟨d',am⟩:=HC.out h2;have d0:=u.out.c0;have f0:=u.out.frozen 0;have i0:(0:Int)<=(d:Int):=(by omega);have i1:(d:Int)<=(c:Int):=(by have:=u.out.cap;omega);have HP:Hid (xH P ⟨o,a,b⟩=P.dropLast):=Zh (ye h2);have Z:=Zh (u.out.pop am);clear am;go_upto_region 10 with fail;refine Tl.GH (S:=(fun w'=>w'.cell? ⟨p,0,none⟩=some (.slice (some ⟨g,0,none⟩) (d+1) c))) (by kernel_rfl) 10 _ rfl rfl rfl (by kernel_rfl) (by first|go_keep|exact d0) (fun hHeld=>?_);simp only[List.setIfInBounds_toArray,List.set_cons_zero,List.set_cons_succ,Tl.idle]
    repeat' (first
     |refine Zu 0 53 ?_
     |refine Zu 1 54 ?_
     |refine Zu 2 55 ?_
     |refine Zu 3 56 ?_
     |refine Zu 4 57 ?_
     |refine Zu 5 58 ?_
     |refine Zu 7 60 ?_
     |refine Zu 8 61 ?_
     |refine Zu 9 62 ?_
     |refine Zv 10 ?_
     |refine Zq [6] ?_
     |refine AllReadyH.cons rfl (fun K hK=>?_) ?_
     |exact AllReadyH.nil
     |(go_simp
       go_at_call 148;refine(HD.out _ (by first|exact Ze|exact Ze.drew)).mono ?_;rintro e w5 ⟨rfl,rfl⟩;refine hK.out _ _ ?_ (fun hHeld=>?_)
       ·go_keep
       clear hK K;(try simp only[Zs]))
     |(refine wpAnyH_done (by decide +kernel) ?_ _
       intro K hK;go_simp;refine hK _ _ ?_;clear hK K;go_wp2_with fail
       go_end0
       exact⟨rfl,(by rw[HP.out,a0.out];exact Fr.is ((Z.out.1.below (Ze.drew)).mono (Nat.le_succ k)) a2.out a1.out),(O.out.trans Z.out.2).drew⟩))
   ·have q2:=int_ne h2;by_cases h7:o=7
    ·have q7:=int_eq h7;have E:pE ⟨o,a,b⟩=false:=by
      cases hz:pE ⟨o,a,b⟩ with
      |false=>rfl
      |true=>exact absurd (al.out hz) (by omega)
     rw[E];have HP:Hid (xH P ⟨o,a,b⟩=BH P ⟨o,a,b⟩):=Zh (iP (by omega) (by omega));go_wp2_with fail;refine(HH.out _ Ze).mono ?_;rintro e w5 ⟨rfl,j5,Q⟩;have C:Hid (Below w3.heap.size w3 w5):=Zh (Q▸UG Ze _);have D:=Zh (u.out.below C.out);obtain⟨_,g1,fg⟩:=D.out.place;have Z:=Zh (Fr.skip (x:=⟨o,a,b⟩) D.out h7);clear Q g0;go_wp2_with fail
     go_end0
     exact⟨rfl,(by rw[HP.out,a0.out];exact Fr.is Z.out.1 a2.out a1.out),(O.out.trans (C.out.mono u.out.size)).trans Z.out.2⟩
    ·have q7:=int_ne h7;cases E:pE ⟨o,a,b⟩ with
     |true=>
      go_upto_region 5 with fail;refine Tl.GH (S:=(fun w'=>w'.cell? ⟨g,d*2,none⟩=some (.map (some m))/\w'.cell? ⟨x,2,none⟩=some (.string b))) (by kernel_rfl) 8 _ rfl rfl rfl (by kernel_rfl) (by first|go_keep|exact⟨g0,X⟩) (fun hHeld=>?_);simp only[List.setIfInBounds_toArray,List.set_cons_zero,List.set_cons_succ,Tl.idle]
      repeat' (first
       |refine Zu 0 29 ?_
       |refine Zu 2 31 ?_
       |refine Zu 3 32 ?_
       |refine Zu 4 33 ?_
       |refine Zu 5 34 ?_
       |refine Zu 6 35 ?_
       |refine Zu 7 36 ?_
       |refine Zv 8 ?_
       |refine Zq [1] ?_
       |refine AllReadyH.cons rfl (fun K hK=>?_) ?_
       |exact AllReadyH.nil
       |(go_simp
         go_at_call 173;refine(HH.out _ (by first|exact Ze|exact Ze.drew)).mono ?_;rintro e w5 ⟨rfl,j5,Q⟩;have C:Hid (Below w3.heap.size w3 w5):=Zh (by first|exact Q▸UG Ze _|exact Q▸UG Ze.drew _);clear Q;refine hK.out _ _ ?_ (fun hHeld=>?_)
         ·exact⟨(u.out.below C.out).place.1.trans (by rw[HM.out]),(G.out.below C.out G.out.lt).c2⟩
         clear hK K;(try simp only[Zs]))
       |(refine wpAnyH_done (by decide +kernel) ?_ _
         intro K hK;obtain⟨s5,V⟩:=(u.out.below C.out).map;obtain⟨au,av,Y⟩:=V.mA;rw[HM.out] at Y;refine yX rfl _ _ _ rfl IV underlying203 (by rw[HM.out] at V;rfl) (by rw[HM.out] at V;exact V) af rfl rfl a9.out (aa.out E) ?_;intro N m7 g7;have P7:=Fr.za (x:=⟨o,a,b⟩) (u.out.below C.out) h7 (by rw[HM.out];exact g7) (by rw[HM.out];exact m7);have J:=Zh P7.1;have L:=Zh ((O.out.trans (C.out.mono u.out.size)).trans P7.2);have N4:Hid (XB N x ⟨o,a,b⟩):=Zh ((g7.block x (G.out.below C.out G.out.lt).lt (fun e=>(kK Y (G.out.below C.out G.out.lt)) (Option.some.inj e).symm)).trans (G.out.below C.out G.out.lt));refine hK _ _ ?_;clear hK K P7 g7 m7 V Y H c1 X g0 u G O;generalize N=t at J L N4|-;have H:=N4.out.c0;simp only at H;have HP:Hid (xH P ⟨o,a,b⟩=BH P ⟨o,a,b⟩):=Zh (iP h1 h2);go_wp2_with fail
         go_end0
         exact⟨rfl,(by rw[HP.out,a0.out];exact Fr.is J.out a2.out a1.out),L.out⟩))
     |false=>
      have J:=Zh (u.out.hU (x:=⟨o,a,b⟩) E h7 |>.mono (Nat.le_succ k));have L:=O;have N4:=G;clear H c1 X g0 u G O;generalize w3=t at J L N4 HH HD|-;have H:=N4.out.c0;simp only at H;have HP:Hid (xH P ⟨o,a,b⟩=BH P ⟨o,a,b⟩):=Zh (iP h1 h2);go_wp2_with fail
      go_end0
      exact⟨rfl,(by rw[HP.out,a0.out];exact Fr.is J.out a2.out a1.out),L.out⟩
end P13
namespace P8
open Go.RowKit Kd P4 P5 P7
theorem zM{w w':World}{B C q:Nat}{y y':Rx}{v:Value}{m:List RR}(hy:Rf w B q y)(k:LB w B q y y' w')(h:kR.Own w C v m):kR.Own w' C v m:=h.but k.but (fun i a e=>by
 subst e;obtain⟨d,b⟩:=h.ty a;exact RA b hy.mA nA rfl)
def x9(w:World)(B C q:Nat)(y:Rx)(r:LC)(e:Ending)(w':World):Prop:=
 ∃(A:jA) (n c:Nat) (y':Rx) (ms:List RR),e= .returned (.tuple #[.slice A n c,aA (if r.err=0 then y.n+1 else 0),aA r.err])/\LB w B q y y' w'/\y'.d=r.d/\kR.Own w' w.heap.size (.slice A n c) ms/\ms.map (·.r)=r.done/\∀a∈ms,JE w' C a
theorem wQ{w w':World}{B q s:Nat}{y y':Rx}{t:TV}(hy:Rf w B q y)(k:LB w B q y y' w')(h:TB w s t):TB w' s t:=(k.but.block s h.lt (fun e=>by subst e;exact RA hy.mA h nA rfl)).trans h
theorem DM{w w5 w8:World}{B q:Nat}{y y5:Rx}{v:Value}{ms:List RR}(h:LB w B q y y5 w5)(ho:kR.Own w5 w.heap.size v ms)(hb:gA (fun i=>v.ownBlock=some i) w5 w8):LB w B q y y5 w8:=by
 refine⟨h.rf.but hb (fun i a e=>?_) (Eo ho),h.but.trans hb (fun i a e=>?_),h.ft⟩
 ·obtain⟨d,b⟩:=ho.ty e;obtain⟨c,t,f,g⟩:=P7.Rf.ty h.rf a;rcases g with rfl|rfl|rfl<;>exact RA b f nA rfl
 ·have:=(ho.lt e).1;omega
def Kb(w:World)(B C q:Nat)(y:Rx)(t:TV)(A12:jA)(n12 c12:Nat)(Ls:List RR)(s13 s14:Value)(wr:World):Prop:=
 ∃(k:Nat) (yk:Rx) (A13:jA) (n13 c13:Nat),k<=n12/\s14 = aA k/\s13= .slice A13 n13 c13/\yk.n<=y.n+k/\Hid (LB w B q y yk wr)/\Hid (WF yk.d)/\Hid (kR.Own wr w.heap.size (.slice A13 n13 c13) (Ls.take k))/\Hid (kR.Own wr w.heap.size (.slice A12 n12 c12) Ls)/\Hid (gE (.slice A13 n13 c13) (.slice A12 n12 c12))/\
  Hid (∀a∈Ls,JE wr C a)/\Hid (kC y.d (Ls.map (·.r))=(⟨(Ls.map (·.r)).take k,0,yk.d⟩:LC).on (kC yk.d ((Ls.map (·.r)).drop k)))/\Hid (TB wr w.heap.size t)
def Lb(w:World)(B C q:Nat)(y:Rx)(t:TV)(d1:D)(head:List Rc)(L:List PT)(n2:Nat)(s13 s16:Value)(wr:World):Prop:=
 ∃(k:Nat) (yk:Rx) (A13:jA) (n13 c13:Nat) (ms:List RR) (dn:List Rc),k<=n2/\s16 = aA k/\s13= .slice A13 n13 c13/\yk.n<=y.n+1+xB (L.take k)/\Hid (LB w B q y yk wr)/\Hid (WF yk.d)/\Hid (kR.Own wr w.heap.size (.slice A13 n13 c13) ms)/\Hid (ms.map (·.r)=head++dn)/\Hid (∀a∈ms,JE wr C a)/\ms.length<=3+3*xB (L.take k)/\
  Hid (yD d1 (y.n+1) L=(⟨dn,0,yk.d⟩:LC).on (yD yk.d (y.n+1) (L.drop k)))/\Hid (TB wr w.heap.size t)
theorem Vd:∀(t:TV) (par rA:Int) (w:World) (B C q:Nat) (y:Rx),C<=B->WF y.d->y.n+countP (er t)<=90000->Rf w B q y->vC w C t->qF (er t)=true->countP (er t)<=300->
 fA 24 #[iA q,aA par,aA rA,.agg #[bA t.tag,bA t.txt,bA t.key,.slice t.sa.A t.sa.n t.sa.c,.slice t.sk.A t.sk.n t.sk.c]] w (x9 w B C q y (TC y.d par rA (er t))):=by
 intro t
 induction t using TV.ind with
 |h tag txt key sa attrs sk kids ih=>
  obtain⟨A,n,c⟩:=sa;obtain⟨F,n2,H⟩:=sk;intro par rA w B C q y aj c4 c6 hy ht bj c1;have al:attrs.length=n:=ht.al;have ac:n<=c:=ht.ac;have az:A=none->c=0:=ht.az;have AH:Hid (kA.pA w C A attrs):=Zh ht.ah;have KL:Hid (kids.length=n2):=Zh ht.kl;have KH:Hid (kT.pA w C F kids):=Zh ht.kh;have KS:Hid (∀k∈kids,vC w C k):=Zh ht.ks;rw[er,qF] at bj;simp only[Bool.and_eq_true,decide_eq_true_eq] at bj;obtain⟨⟨⟨⟨f1,f2⟩,f3⟩,f4⟩,f5⟩:=bj;obtain⟨c3,cy⟩:=PQ f4;have F5:Hid (∀k (hk:k<kids.length),qF (er kids[k])=true):=Zh (fun k hk=>by
   have cz:k<(oA kids).length:=(by rw[IB];simpa using hk);have:=jO cz f5;simpa[IB] using this)
  have CL:Hid (xB (oA kids)<=300/\True):=Zh ⟨by rw[er,countP] at c1;omega,trivial⟩;have CL:Hid (xB (oA kids)<=300):=Zh CL.1;have dd:y.n+1+xB (oA kids)<=90000:=(by rw[er,countP] at c6;simp at c6;omega);have de:n<=20:=cA;have df:n2<=300:=(by have u:=aM (oA kids);rw[IB,List.length_map] at u;have h2:=KL.out;have h3:=CL.out;rw[IB] at h3;omega);have dg:B<=w.heap.size:=(by have:=hy.base;have:=hy.lt (.inl rfl:cD q y q);omega);have dh:1<=y.n:=c4.n0;have m1:tag.size<=maxLen:=wD;have m2:txt.size<=maxLen:=wD;have m3:key.size<=maxLen:=wD;have HY:=Zh hy;have cp:=Zh c4;have IH:=Zh ih;have AL:=Zh al;have AZ:=Zh az;have d0:=Zh c3;have B1:Hid (eA w (w.alloc (.cells #[bA tag,bA txt,bA key,.slice A n c,.slice F n2 H] 59))):=Zh (Zb _ _);have N1:Hid (TB (w.alloc (.cells #[bA tag,bA txt,bA key,.slice A n c,.slice F n2 H] 59)) w.heap.size (.mk tag txt key ⟨A,n,c⟩ attrs ⟨F,n2,H⟩ kids)):=Zh (TB.new w (.mk tag txt key ⟨A,n,c⟩ attrs ⟨F,n2,H⟩ kids));have bz:Hid (∀w9,eA w w9->∀a∈[(⟨fG (y.n+1) (er (.mk tag txt key ⟨A,n,c⟩ attrs ⟨F,n2,H⟩ kids)),⟨none,0,0⟩⟩:RR),⟨dG (y.n+1) par rA,⟨none,0,0⟩⟩],JE w9 C a):=Zh (fun w9 _ a ha=>by
   simp only[List.mem_cons,List.not_mem_nil,or_false] at ha;rcases ha with rfl|rfl
   ·exact⟨rfl,by simp,Zl,fun _=>rfl,fun a h=>absurd h (by simp[fG]),Kind.pA.nil _ _ _,by rw[er];exact m1,by rw[er];exact m2,by rw[er];exact m3⟩
   ·exact⟨rfl,by simp,Zl,fun _=>rfl,fun a h=>absurd h (by simp[dG]),Kind.pA.nil _ _ _,NH,NH,NH⟩)
  have c7:Hid (∀w9,eA w w9->JE w9 C (⟨VH (y.n+1) attrs,⟨A,n,c⟩⟩:RR)):=Zh (fun w9 h=>⟨AL,by show n<=1000;omega,ac,AZ,d0,AH.below h cA,NH,NH,NH⟩);clear hy c4 ih al az c3 ht f4 f5 c1 c6 f1 f2 f3 cy;show fA 24 #[iA q,aA par,aA rA,.agg #[bA tag,bA txt,bA key,.slice A n c,.slice F n2 H]] w _;go_enter func24,ntmps24;go_upto_region 1 with fail;generalize w.alloc (.cells #[bA tag,bA txt,bA key,.slice A n c,.slice F n2 H] 59)=W at B1 N1|-;have H1:=Zh (HY.below B1);have y1:=H1.c1;have a0:W.cell? ⟨w.heap.size,0,none⟩=some (bA tag):=N1.c0;have a1:W.cell? ⟨w.heap.size,1,none⟩=some (bA txt):=N1.c1;have a2:W.cell? ⟨w.heap.size,2,none⟩=some (bA key):=N1.c2;go_upto_region 3 with fail;have B2:Hid (eA w (W.alloc (.cells #[aA 1,aA (y.n+1),aA 0,aA 0,bA tag,bA txt,bA key,vA,aA 2,aA (y.n+1),aA par,aA rA,tA,tA,tA,vA] 87))):=Zh (B1.alloc B1.size _);have N2:Hid (TB (W.alloc (.cells #[aA 1,aA (y.n+1),aA 0,aA 0,bA tag,bA txt,bA key,vA,aA 2,aA (y.n+1),aA par,aA rA,tA,tA,tA,vA] 87)) w.heap.size (.mk tag txt key ⟨A,n,c⟩ attrs ⟨F,n2,H⟩ kids)):=Zh (oB N1);have O2:Hid (kR.Own (W.alloc (.cells #[aA 1,aA (y.n+1),aA 0,aA 0,bA tag,bA txt,bA key,vA,aA 2,aA (y.n+1),aA par,aA rA,tA,tA,tA,vA] 87)) w.heap.size (.slice (some ⟨W.heap.size,0,none⟩) 2 2) [(⟨fG (y.n+1) (er (.mk tag txt key ⟨A,n,c⟩ attrs ⟨F,n2,H⟩ kids)),⟨none,0,0⟩⟩:RR),⟨dG (y.n+1) par rA,⟨none,0,0⟩⟩]):=Zh (Kind.wG (K:=kR) rfl B1.size (heap_alloc_new W _) Zl (by simp[maxLen]) rfl rfl);generalize W.alloc (.cells #[aA 1,aA (y.n+1),aA 0,aA 0,bA tag,bA txt,bA key,vA,aA 2,aA (y.n+1),aA par,aA rA,tA,tA,tA,vA] 87)=W2 at B2 N2 O2|-;generalize W.heap.size=g2 at O2|-;clear y1 a0 a1 a2 B1 N1 H1;have a3:W2.cell? ⟨w.heap.size,3,none⟩=some (.slice A n c):=N2.c3;by_cases cq:n=0
  ·have cr:attrs=[]:=(by have:=AL.out;rw[cq] at this;exact List.length_eq_zero_iff.1 this);have q1:decide ((0:Int)<(n:Int))=false:=AA;have q2:decide (0<n)=false:=AA;have a6:Hid (([(⟨fG (y.n+1) (er (.mk tag txt key ⟨A,n,c⟩ attrs ⟨F,n2,H⟩ kids)),⟨none,0,0⟩⟩:RR),⟨dG (y.n+1) par rA,⟨none,0,0⟩⟩]).map (·.r)=AD (y.n+1) par rA (er (.mk tag txt key ⟨A,n,c⟩ attrs ⟨F,n2,H⟩ kids))):=Zh (by rw[er];unfold AD;rw[show(PT.mk tag txt key attrs (oA kids)).attrs=attrs from rfl,cr];rfl);have bk:Hid (∀a∈[(⟨fG (y.n+1) (er (.mk tag txt key ⟨A,n,c⟩ attrs ⟨F,n2,H⟩ kids)),⟨none,0,0⟩⟩:RR),⟨dG (y.n+1) par rA,⟨none,0,0⟩⟩],JE W2 C a):=Zh (bz W2 B2);have O3:=O2;have B3:=B2;have N3:=N2;generalize Value.slice (some (dA g2 0)) 2 2=di at O3|-;obtain⟨c9,n12,ax,rfl,S,T,U,V,Y⟩:=mG O3;have cs:n12<=3:=(by rw[<-S];simp);clear S T U V Y;obtain⟨Ls,bi⟩:=qA ([(⟨fG (y.n+1) (er (.mk tag txt key ⟨A,n,c⟩ attrs ⟨F,n2,H⟩ kids)),⟨none,0,0⟩⟩:RR),⟨dG (y.n+1) par rA,⟨none,0,0⟩⟩]);rw[bi] at O3 a6 bk;clear bi cr O2 B2 N2 bz c7 cq;go_wp2_with fail;go_loopw [13,14] (fun ay b0 wr=>Kb w B C q y (.mk tag txt key ⟨A,n,c⟩ attrs ⟨F,n2,H⟩ kids) c9 n12 ax Ls ay b0 wr) (fun _ b0 _=>n12-(intOf b0).toNat)
   case atStart=>exact⟨0,y,none,0,0,by omega,rfl,rfl,by omega,Zh (LB.sC HY B3),cp,Zh (Kind.Own.nil _ _ _),O3,Zh (fun i z=>by cases z),bk,Zh (mT _ _),N3⟩
   case round=>
    obtain⟨k,yk,ak,am,an,hk,rfl,rfl,d1,HR,ao,a5,L,b1,ap,M,b2⟩:=hrel;by_cases d2:k<n12
    ·obtain⟨_,_,_,hv,G,_,_,_,N⟩:=mG L;injection hv with e1 e2 e3;subst e1;have a8:k<(Ls).length:=cA;obtain⟨b,o,O,hb,g0,g1,g2,g3,g4,g5,g6,g7⟩:=UJ N a8;subst O;have bl:=Zh (ap _ (List.getElem_mem a8));have b3:k<((Ls).map (·.r)).length:=(by simpa using a8);have bm:((Ls).map (·.r))[k]=(Ls)[k].r:=DA;have RN:=Zh (fun h0=>aU b3 M h0);have a7:=Zh (fun h0=>FU b3 M h0);have TK:Hid ((Ls).take (k+1)=(Ls).take k++[(Ls)[k]]):=Zh (by rw[List.take_add_one,List.getElem?_eq_getElem a8];rfl);rw[bm] at RN a7;clear bm b3 e2 e3 G N;obtain⟨d,hd⟩:=qA ((Ls)[k]);rw[hd] at g0 g1 g2 g3 g4 g5 g6 g7 bl RN a7 TK;have ca:=Zh hd;clear hd;obtain⟨cd,b4⟩:=qA ((VA yk.d d.r).1);rw[b4] at RN a7;have cb:=Zh b4;clear b4;have d3:B<=wr.heap.size:=(uA HR.but.size);go_wp2_with fail;refine(T0 d.r d.va.A d.va.n d.va.c wr cb ao cA (bl.arg cA) HR.rf).mono ?_;rintro e w5 ⟨rfl,y5,d5,I⟩;have R5:=Zh (HR.trans d5);have a9:=Zh (zM HR.rf d5 a5);have b5:=Zh (zM HR.rf d5 L);have T5:=Zh (wQ HR.rf d5 b2);have aa:=d5.AB HR.rf;have ab:Hid (∀a∈Ls,JE w5 C a):=Zh (fun a ha=>(ap a ha).qC aa aj);have ad:=Zh I;have cc:y5.n<=y.n+k+1:=(by have u:=congrArg D.n I;have h2:=(GM yk.d d.r).2;rw[<-u] at h2;have h3:y5.n<=yk.n+1:=h2;omega);have W5:Hid (WF y5.d):=Zh (by rw[I];exact bK ao _);have aq:w.heap.size<=w5.heap.size:=R5.but.size;clear d5 I aa g0 g1 g2 g3 g4 g5 g6 g7 HR a5 L b2 ap M ao;by_cases s:cd=0
     ·subst s;have ce:=Zh (RN rfl);clear RN a7;obtain⟨_,_,_,hv,G,_,_,_,N⟩:=mG b5;injection hv with e1 e2 e3;subst e1;obtain⟨b',o',O,d4,g0,g1,g2,g3,g4,g5,g6,g7⟩:=UJ N a8;injection O with O;injection O with e4 e5;subst e4;subst e5;have bn:=ca.out;rw[bn] at g0 g1 g2 g3 g4 g5 g6 g7;clear bn e2 e3 G N;have ct:((Ls).take k).length<=3:=(by rw[List.length_take];omega);go_wp2_with (at_builtin;refine kR.iC rfl _ _ rfl (v:=.slice ak am an) (l:=(Ls).take k) (m:=[d]) (B:=w.heap.size) (A:=some ⟨w5.heap.size,0,none⟩) (n:=1) (c:=1) rfl (a9.alloc _) rfl rfl RB (Kind.pA.lit (heap_alloc_new _ _) rfl) AA AA ?_;intro v8 w8 f g x;obtain⟨A8,n8,c8,rfl,S,T,U,V,Y⟩:=f.slice;clear S T U V Y;have O8:=Zh f;have G8:=Zh g;have cf:=Zh x;clear f g x g0 g1 g2 g3 g4 g5 g6 g7);have P:=vQ G8;have R8:=Zh (DM R5 a9 P);have T8:=Zh (mL a9 P T5);have E:Below w.heap.size w5 w8:=P.AB (fun i _ z=>(a9.lt z).1) aq;have ae:Hid (∀a∈Ls,JE w8 C a):=Zh (fun a ha=>(ab a ha).qC E cA);have cg:Hid (kR.Own w8 w.heap.size (.slice (some (dA b o)) n12 ax) (Ls)):=Zh (b5.but P (fun i z e=>b1 i e z));have ch:Hid (gE (.slice A8 n8 c8) (.slice (some (dA b o)) n12 ax)):=Zh (fun i z e=>by
       rcases cf with e2|e2
       ·rw[e2] at z;exact b1 i z e
       ·rw[e2] at z;injection z with z;have:=(b5.lt e).2;simp at z;omega)
      clear P E G8;go_roundw
      case rel=>
       refine⟨k+1,y5,A8,n8,c8,by omega,by go_num,rfl,by simp;omega,R8,W5,Zh (by rw[TK.out];exact O8),cg,ch,ae,Zh (by rw[ad.out];exact ce),T8⟩
      case measure=>simp[intOf];omega
     ·have ci:=Zh (a7 s);have af:=Zh s;have qc:(cd != 0)=true:=(by simpa using s);clear RN a7 s;go_wp2_with fail;go_ret3;have e:TC y.d par rA (er (.mk tag txt key ⟨A,n,c⟩ attrs ⟨F,n2,H⟩ kids))=⟨((Ls).map (·.r)).take k,cd,(VA yk.d d.r).2⟩:=by
       have u:=ci.out;rw[a6.out] at u;rw[LK,show y.d.n=y.n from rfl,u,if_neg af.out,a6.out]
      rw[e];exact⟨ak,am,an,y5,(Ls).take k,by rw[if_neg af.out];rfl,R5,ad,a9,by rw[List.map_take],fun a ha=>ab a (List.mem_of_mem_take ha)⟩
    ·obtain rfl:n12=k:=cA
     have G:(Ls).length=n12:=by
      obtain⟨_,_,_,hv,u,_⟩:=mG L;injection hv with e1 e2 e3;rw[u];exact e2.symm
     have RE:=GU (by have u:=M.out;rw[show n12=((Ls).map (·.r)).length by rw[List.length_map,G]] at u;exact u);rw[a6.out] at RE;have ck:=Zh RE;have d6:yk.n<=y.n+1:=by
      have u:=(XQ y.d par rA (er (.mk tag txt key ⟨A,n,c⟩ attrs ⟨F,n2,H⟩ kids))).2;rw[show y.d.n+1=y.n+1 from rfl,RE] at u;exact u
     have OM:Hid (kR.Own wr w.heap.size (.slice ak am an) Ls):=Zh (by have u:=a5.out;rw[List.take_of_length_le cA] at u;exact u);have d7:(Ls).length<=3:=(by have u:=congrArg List.length a6;have h2:=uP (y.n+1) par rA (er (.mk tag txt key ⟨A,n,c⟩ attrs ⟨F,n2,H⟩ kids));simp at u;omega);clear RE M b1 L a5 G;go_wp2_with fail;obtain⟨wo,rfl⟩:∃wo:World,wo=wr:=⟨_,rfl⟩;have BE:Hid (∀X:LC,yD yk.d (y.n+1) (oA kids)=X->TC y.d par rA (er (.mk tag txt key ⟨A,n,c⟩ attrs ⟨F,n2,H⟩ kids))=(⟨AD (y.n+1) par rA (er (.mk tag txt key ⟨A,n,c⟩ attrs ⟨F,n2,H⟩ kids)),0,yk.d⟩:LC).on X):=Zh (fun X hX=>by
      rw[LK,show y.d.n=y.n from rfl,ck.out,if_pos rfl];show(⟨_,0,yk.d⟩:LC).on (yD yk.d (y.n+1) (er (.mk tag txt key ⟨A,n,c⟩ attrs ⟨F,n2,H⟩ kids)).kids)=_;rw[show(er (.mk tag txt key ⟨A,n,c⟩ attrs ⟨F,n2,H⟩ kids)).kids=oA kids by rw[er];rfl,hX])
     go_loopw [13,16] (fun ay b6 wr=>Lb w B C q y (.mk tag txt key ⟨A,n,c⟩ attrs ⟨F,n2,H⟩ kids) yk.d (AD (y.n+1) par rA (er (.mk tag txt key ⟨A,n,c⟩ attrs ⟨F,n2,H⟩ kids))) (oA kids) n2 ay b6 wr) (fun _ b6 _=>n2-(intOf b6).toNat)
     case atStart=>exact⟨0,yk,ak,am,an,Ls,[],by omega,rfl,rfl,by simp[xB];omega,HR,ao,OM,Zh (by rw[a6.out];simp),ap,by omega,Zh (by unfold LC.on;simp),b2⟩
     case round=>
      obtain⟨j,yj,ag,ah,ai,ms,dn,hj,rfl,rfl,d8,J,bo,b7,b9,ba,cu,bb,bc⟩:=hrel;have a4:wr.cell? ⟨w.heap.size,4,none⟩=some (.slice F n2 H):=bc.c4;by_cases d9:j<n2
      ·have Q:j<kids.length:=(uA KL.out);have bd:j<(oA kids).length:=(by rw[IB];simpa using Q);have be:(oA kids)[j]=er kids[j]:=(by simp[IB]);have da:B<=wr.heap.size:=(uA J.but.size);have bf:=J.AB HY;have ar:=dM bd;have db:=mM (oA kids) (j+1);have av:=yP (oA kids)[j];rw[be] at ar av;obtain⟨b,o,cl,hb,g0,g1,g2,g3,g4⟩:=TJ (KH.below bf aj) Q;subst cl;have CK:=Zh (IH kids[j] (List.getElem_mem Q) (y.n+1) 0 wr B C q yj aj bo (uA CL.out) J.rf ((KS _ (List.getElem_mem Q)).qC bf aj) (F5 j Q) (uA CL.out));have KN:=Zh (fun h0=>nT (d:=yj.d) (p:=y.n+1) bd h0);have KB:=Zh (fun h0=>bU (d:=yj.d) (p:=y.n+1) bd h0);have BK:=Zh (tP (er kids[j]) yj.d (y.n+1) 0);have bg:=Zh (GP (er kids[j]) yj.d (y.n+1) 0);rw[be] at KN KB;have dc:xB (oA kids)<=300:=CL;have cm:ms.length<=1000:=(by have u:=mM (oA kids) j;omega);obtain⟨cj,bp⟩:=qA (countP (er kids[j]));rw[bp] at ar av BK bg;have c0:cj<=300:=cA;generalize TC yj.d (y.n+1) 0 (er kids[j])=rj at CK KN KB BK bg;have bq:=Zh ar;clear bp be ar;generalize kids[j]=d at g0 g1 g2 g3 g4 CK;go_wp2_with fail;refine CK.mono ?_;rintro e w5 ⟨A5,n5,c5,y5,Z,rfl,d5,I,o5,bh,br⟩;have R5:=Zh (J.trans d5);have R:=Zh (zM J.rf d5 b7);have T5:=Zh (wQ J.rf d5 bc);have aa:=d5.AB J.rf;have ab:Hid (∀a∈ms,JE w5 C a):=Zh (fun a ha=>(ba a ha).qC aa aj);have bs:=Zh br;have ad:=Zh I;have bt:=Zh bh;have cc:y5.n<=yj.n+cj:=(by have u:=congrArg D.n I;have h2:=BK.2.2.2;rw[<-u] at h2;exact h2);have W5:Hid (WF y5.d):=Zh (by rw[I];exact BK.1 bo);have aq:w.heap.size<=w5.heap.size:=R5.but.size;obtain⟨_,_,_,hv,bu,cv,cw,aw,bv⟩:=mG o5;injection hv with e1 e2 e3;subst e1;subst e2;subst e3;have au:=Zh bu;have bw:=Zh bv;have bx:=Zh (fun e=>(aw e).1);have cx:Z.length<=3*cj:=(by have u:=congrArg List.length bh;have h2:=bg.out;simp at u;omega);clear d5 I aa o5 bh br bu bv aw g0 g1 g2 g3 g4 J b7 bc ba bf;by_cases s:rj.err=0
       ·have cn:=Zh (KN s);have af:=Zh s;have qc:(rj.err != 0)=false:=(by simpa using s);have qi:(if rj.err=0 then yj.n+1 else 0)=yj.n+1:=if_pos s;clear KN KB s;go_wp2_with (at_builtin;refine kR.iC rfl _ _ rfl (v:=.slice ag ah ai) (l:=ms) (m:=Z) (B:=w.heap.size) (A:=A5) (n:=n5) (c:=c5) rfl R rfl au bx bw (uA au.out) cA ?_;intro v8 w8 f g x;obtain⟨A8,n8,c8,rfl,S,T,U,V,Y⟩:=f.slice;clear S T U V Y;have O8:=Zh f;have G8:=Zh g;clear f g x);have P:gA (fun i=>(Value.slice ag ah ai).ownBlock=some i) w5 w8:=gA.sG G8 (fun i z _=>z);have R8:=Zh (DM R5 R P);have T8:=Zh (mL R P T5);have E:Below w.heap.size w5 w8:=P.AB (fun i _ z=>(R.lt z).1) aq;have ae:Hid (∀a∈ms++Z,JE w8 C a):=Zh (fun a ha=>by
         rcases List.mem_append.1 ha with h|h
         ·exact(ab a h).qC E cA
         ·exact(bs a h).qC E cA)
        clear P E G8;go_roundw
        case rel=>
         refine⟨j+1,y5,A8,n8,c8,ms++Z,dn++rj.done,by omega,by go_num,rfl,by rw[bq.out];simp;omega,R8,W5,O8,Zh (by rw[List.map_append,b9.out,bt.out,List.append_assoc]),ae,by rw[bq.out,List.length_append];omega,Zh ?_,T8⟩;rw[bb.out,cn.out,ad.out,<-ZT];rfl
        case measure=>simp[intOf];omega
       ·have co:=Zh (KB s);have af:=Zh s;have qc:(rj.err != 0)=true:=(by simpa using s);have qi:(if rj.err=0 then yj.n+1 else 0)=0:=if_neg s;clear KN KB s;go_wp2_with (at_builtin;refine kR.iC rfl _ _ rfl (v:=.slice ag ah ai) (l:=ms) (m:=Z) (B:=w.heap.size) (A:=A5) (n:=n5) (c:=c5) rfl R rfl au bx bw (uA au.out) cA ?_;intro v8 w8 f g x;obtain⟨A8,n8,c8,rfl,S,T,U,V,Y⟩:=f.slice;clear S T U V Y;have O8:=Zh f;have G8:=Zh g;clear f g x);have P:gA (fun i=>(Value.slice ag ah ai).ownBlock=some i) w5 w8:=gA.sG G8 (fun i z _=>z);have R8:=Zh (DM R5 R P);have T8:=Zh (mL R P T5);have E:Below w.heap.size w5 w8:=P.AB (fun i _ z=>(R.lt z).1) aq;have ae:Hid (∀a∈ms++Z,JE w8 C a):=Zh (fun a ha=>by
         rcases List.mem_append.1 ha with h|h
         ·exact(ab a h).qC E cA
         ·exact(bs a h).qC E cA)
        clear P E G8;go_ret3;rw[BE.out ⟨dn++rj.done,rj.err,rj.d⟩ (by rw[bb.out,co.out];rfl)];exact⟨A8,n8,c8,y5,ms++Z,by first|rfl|(rw[show((⟨AD (y.n+1) par rA _,0,yk.d⟩:LC).on ⟨dn++rj.done,rj.err,rj.d⟩).err=rj.err from rfl,if_neg af.out];rfl),R8,ad,O8,by rw[List.map_append,b9.out,bt.out,List.append_assoc];rfl,ae⟩
      ·obtain rfl:j=n2:=cA
       go_wp2_with fail;go_ret3;have u:=bb.out;rw[List.drop_eq_nil_of_le (by have:=KL.out;rw[IB];simp;omega),yD] at u;rw[BE.out ⟨dn,0,yj.d⟩ (by rw[u];unfold LC.on;simp)];exact⟨ag,ah,ai,yj,ms,by first|rfl|(rw[if_pos (by rfl)];rfl),J,rfl,b7,b9,ba⟩
  ·have q1:decide ((0:Int)<(n:Int))=true:=AA;have q2:decide (0<n)=true:=AA;have a6:Hid (([(⟨fG (y.n+1) (er (.mk tag txt key ⟨A,n,c⟩ attrs ⟨F,n2,H⟩ kids)),⟨none,0,0⟩⟩:RR),⟨dG (y.n+1) par rA,⟨none,0,0⟩⟩]++[(⟨VH (y.n+1) attrs,⟨A,n,c⟩⟩:RR)]:List RR).map (·.r)=AD (y.n+1) par rA (er (.mk tag txt key ⟨A,n,c⟩ attrs ⟨F,n2,H⟩ kids))):=Zh (by
    rw[er];unfold AD;rw[show(PT.mk tag txt key attrs (oA kids)).attrs=attrs from rfl,if_neg (by have:=AL.out;cases attrs<;>simp_all)];rfl)
   go_wp2_with (at_builtin;refine kR.iC rfl _ _ rfl (v:=.slice (some (dA g2 0)) 2 2) (l:=[(⟨fG (y.n+1) (er (.mk tag txt key ⟨A,n,c⟩ attrs ⟨F,n2,H⟩ kids)),⟨none,0,0⟩⟩:RR),⟨dG (y.n+1) par rA,⟨none,0,0⟩⟩]) (m:=[(⟨VH (y.n+1) attrs,⟨A,n,c⟩⟩:RR)]) (B:=w.heap.size) (A:=some ⟨W2.heap.size,0,none⟩) (n:=1) (c:=1) rfl (O2.alloc _) rfl rfl RB (Kind.pA.lit (heap_alloc_new _ _) rfl) DA (by have:=B2.size;simp;omega) ?_;intro v8 w8 f g x;obtain⟨c9,n12,ax,rfl,S,T,U,V,Y⟩:=f.slice;clear S T U V Y;have P:=vQ g;have O3:=Zh f;have B3:Hid (eA w w8):=Zh (B2.trans (P.AB (fun i _ z=>(O2.lt z).1) B2.size));have N3:=Zh (mL O2 P N2);clear f g x P);have bk:Hid (∀a∈([(⟨fG (y.n+1) (er (.mk tag txt key ⟨A,n,c⟩ attrs ⟨F,n2,H⟩ kids)),⟨none,0,0⟩⟩:RR),⟨dG (y.n+1) par rA,⟨none,0,0⟩⟩]++[(⟨VH (y.n+1) attrs,⟨A,n,c⟩⟩:RR)]:List RR),JE w8 C a):=Zh (fun a ha=>by
    rcases List.mem_append.1 ha with h|h
    ·exact bz w8 B3 a h
    ·rw[List.mem_singleton.1 h];exact c7 w8 B3)
   obtain⟨Ls,bi⟩:=qA (([(⟨fG (y.n+1) (er (.mk tag txt key ⟨A,n,c⟩ attrs ⟨F,n2,H⟩ kids)),⟨none,0,0⟩⟩:RR),⟨dG (y.n+1) par rA,⟨none,0,0⟩⟩]++[(⟨VH (y.n+1) attrs,⟨A,n,c⟩⟩:RR)]:List RR));rw[bi] at O3 a6 bk;have cs:n12<=3:=by
    obtain⟨_,_,_,hv,u,_⟩:=mG O3;injection hv with e1 e2 e3;have h2:=congrArg List.length bi;simp at h2;omega
   clear bi O2 B2 N2 bz c7;go_wp2_with fail;go_loopw [13,14] (fun ay b0 wr=>Kb w B C q y (.mk tag txt key ⟨A,n,c⟩ attrs ⟨F,n2,H⟩ kids) c9 n12 ax Ls ay b0 wr) (fun _ b0 _=>n12-(intOf b0).toNat)
   case atStart=>exact⟨0,y,none,0,0,by omega,rfl,rfl,by omega,Zh (LB.sC HY B3),cp,Zh (Kind.Own.nil _ _ _),O3,Zh (fun i z=>by cases z),bk,Zh (mT _ _),N3⟩
   case round=>
    obtain⟨k,yk,ak,am,an,hk,rfl,rfl,d1,HR,ao,a5,L,b1,ap,M,b2⟩:=hrel;by_cases d2:k<n12
    ·obtain⟨_,_,_,hv,G,_,_,_,N⟩:=mG L;injection hv with e1 e2 e3;subst e1;have a8:k<(Ls).length:=cA;obtain⟨b,o,O,hb,g0,g1,g2,g3,g4,g5,g6,g7⟩:=UJ N a8;subst O;have bl:=Zh (ap _ (List.getElem_mem a8));have b3:k<((Ls).map (·.r)).length:=(by simpa using a8);have bm:((Ls).map (·.r))[k]=(Ls)[k].r:=DA;have RN:=Zh (fun h0=>aU b3 M h0);have a7:=Zh (fun h0=>FU b3 M h0);have TK:Hid ((Ls).take (k+1)=(Ls).take k++[(Ls)[k]]):=Zh (by rw[List.take_add_one,List.getElem?_eq_getElem a8];rfl);rw[bm] at RN a7;clear bm b3 e2 e3 G N;obtain⟨d,hd⟩:=qA ((Ls)[k]);rw[hd] at g0 g1 g2 g3 g4 g5 g6 g7 bl RN a7 TK;have ca:=Zh hd;clear hd;obtain⟨cd,b4⟩:=qA ((VA yk.d d.r).1);rw[b4] at RN a7;have cb:=Zh b4;clear b4;have d3:B<=wr.heap.size:=(uA HR.but.size);go_wp2_with fail;refine(T0 d.r d.va.A d.va.n d.va.c wr cb ao cA (bl.arg cA) HR.rf).mono ?_;rintro e w5 ⟨rfl,y5,d5,I⟩;have R5:=Zh (HR.trans d5);have a9:=Zh (zM HR.rf d5 a5);have b5:=Zh (zM HR.rf d5 L);have T5:=Zh (wQ HR.rf d5 b2);have aa:=d5.AB HR.rf;have ab:Hid (∀a∈Ls,JE w5 C a):=Zh (fun a ha=>(ap a ha).qC aa aj);have ad:=Zh I;have cc:y5.n<=y.n+k+1:=(by have u:=congrArg D.n I;have h2:=(GM yk.d d.r).2;rw[<-u] at h2;have h3:y5.n<=yk.n+1:=h2;omega);have W5:Hid (WF y5.d):=Zh (by rw[I];exact bK ao _);have aq:w.heap.size<=w5.heap.size:=R5.but.size;clear d5 I aa g0 g1 g2 g3 g4 g5 g6 g7 HR a5 L b2 ap M ao;by_cases s:cd=0
     ·subst s;have ce:=Zh (RN rfl);clear RN a7;obtain⟨_,_,_,hv,G,_,_,_,N⟩:=mG b5;injection hv with e1 e2 e3;subst e1;obtain⟨b',o',O,d4,g0,g1,g2,g3,g4,g5,g6,g7⟩:=UJ N a8;injection O with O;injection O with e4 e5;subst e4;subst e5;have bn:=ca.out;rw[bn] at g0 g1 g2 g3 g4 g5 g6 g7;clear bn e2 e3 G N;have ct:((Ls).take k).length<=3:=(by rw[List.length_take];omega);go_wp2_with (at_builtin;refine kR.iC rfl _ _ rfl (v:=.slice ak am an) (l:=(Ls).take k) (m:=[d]) (B:=w.heap.size) (A:=some ⟨w5.heap.size,0,none⟩) (n:=1) (c:=1) rfl (a9.alloc _) rfl rfl RB (Kind.pA.lit (heap_alloc_new _ _) rfl) AA AA ?_;intro v8 w8 f g x;obtain⟨A8,n8,c8,rfl,S,T,U,V,Y⟩:=f.slice;clear S T U V Y;have O8:=Zh f;have G8:=Zh g;have cf:=Zh x;clear f g x g0 g1 g2 g3 g4 g5 g6 g7);have P:=vQ G8;have R8:=Zh (DM R5 a9 P);have T8:=Zh (mL a9 P T5);have E:Below w.heap.size w5 w8:=P.AB (fun i _ z=>(a9.lt z).1) aq;have ae:Hid (∀a∈Ls,JE w8 C a):=Zh (fun a ha=>(ab a ha).qC E cA);have cg:Hid (kR.Own w8 w.heap.size (.slice (some (dA b o)) n12 ax) (Ls)):=Zh (b5.but P (fun i z e=>b1 i e z));have ch:Hid (gE (.slice A8 n8 c8) (.slice (some (dA b o)) n12 ax)):=Zh (fun i z e=>by
       rcases cf with e2|e2
       ·rw[e2] at z;exact b1 i z e
       ·rw[e2] at z;injection z with z;have:=(b5.lt e).2;simp at z;omega)
      clear P E G8;go_roundw
      case rel=>
       refine⟨k+1,y5,A8,n8,c8,by omega,by go_num,rfl,by simp;omega,R8,W5,Zh (by rw[TK.out];exact O8),cg,ch,ae,Zh (by rw[ad.out];exact ce),T8⟩
      case measure=>simp[intOf];omega
     ·have ci:=Zh (a7 s);have af:=Zh s;have qc:(cd != 0)=true:=(by simpa using s);clear RN a7 s;go_wp2_with fail;go_ret3;have e:TC y.d par rA (er (.mk tag txt key ⟨A,n,c⟩ attrs ⟨F,n2,H⟩ kids))=⟨((Ls).map (·.r)).take k,cd,(VA yk.d d.r).2⟩:=by
       have u:=ci.out;rw[a6.out] at u;rw[LK,show y.d.n=y.n from rfl,u,if_neg af.out,a6.out]
      rw[e];exact⟨ak,am,an,y5,(Ls).take k,by rw[if_neg af.out];rfl,R5,ad,a9,by rw[List.map_take],fun a ha=>ab a (List.mem_of_mem_take ha)⟩
    ·obtain rfl:n12=k:=cA
     have G:(Ls).length=n12:=by
      obtain⟨_,_,_,hv,u,_⟩:=mG L;injection hv with e1 e2 e3;rw[u];exact e2.symm
     have RE:=GU (by have u:=M.out;rw[show n12=((Ls).map (·.r)).length by rw[List.length_map,G]] at u;exact u);rw[a6.out] at RE;have ck:=Zh RE;have d6:yk.n<=y.n+1:=by
      have u:=(XQ y.d par rA (er (.mk tag txt key ⟨A,n,c⟩ attrs ⟨F,n2,H⟩ kids))).2;rw[show y.d.n+1=y.n+1 from rfl,RE] at u;exact u
     have OM:Hid (kR.Own wr w.heap.size (.slice ak am an) Ls):=Zh (by have u:=a5.out;rw[List.take_of_length_le cA] at u;exact u);have d7:(Ls).length<=3:=(by have u:=congrArg List.length a6;have h2:=uP (y.n+1) par rA (er (.mk tag txt key ⟨A,n,c⟩ attrs ⟨F,n2,H⟩ kids));simp at u;omega);clear RE M b1 L a5 G;go_wp2_with fail;obtain⟨wo,rfl⟩:∃wo:World,wo=wr:=⟨_,rfl⟩;have BE:Hid (∀X:LC,yD yk.d (y.n+1) (oA kids)=X->TC y.d par rA (er (.mk tag txt key ⟨A,n,c⟩ attrs ⟨F,n2,H⟩ kids))=(⟨AD (y.n+1) par rA (er (.mk tag txt key ⟨A,n,c⟩ attrs ⟨F,n2,H⟩ kids)),0,yk.d⟩:LC).on X):=Zh (fun X hX=>by
      rw[LK,show y.d.n=y.n from rfl,ck.out,if_pos rfl];show(⟨_,0,yk.d⟩:LC).on (yD yk.d (y.n+1) (er (.mk tag txt key ⟨A,n,c⟩ attrs ⟨F,n2,H⟩ kids)).kids)=_;rw[show(er (.mk tag txt key ⟨A,n,c⟩ attrs ⟨F,n2,H⟩ kids)).kids=oA kids by rw[er];rfl,hX])
     go_loopw [13,16] (fun ay b6 wr=>Lb w B C q y (.mk tag txt key ⟨A,n,c⟩ attrs ⟨F,n2,H⟩ kids) yk.d (AD (y.n+1) par rA (er (.mk tag txt key ⟨A,n,c⟩ attrs ⟨F,n2,H⟩ kids))) (oA kids) n2 ay b6 wr) (fun _ b6 _=>n2-(intOf b6).toNat)
     case atStart=>exact⟨0,yk,ak,am,an,Ls,[],by omega,rfl,rfl,by simp[xB];omega,HR,ao,OM,Zh (by rw[a6.out];simp),ap,by omega,Zh (by unfold LC.on;simp),b2⟩
     case round=>
      obtain⟨j,yj,ag,ah,ai,ms,dn,hj,rfl,rfl,d8,J,bo,b7,b9,ba,cu,bb,bc⟩:=hrel;have a4:wr.cell? ⟨w.heap.size,4,none⟩=some (.slice F n2 H):=bc.c4;by_cases d9:j<n2
      ·have Q:j<kids.length:=(uA KL.out);have bd:j<(oA kids).length:=(by rw[IB];simpa using Q);have be:(oA kids)[j]=er kids[j]:=(by simp[IB]);have da:B<=wr.heap.size:=(uA J.but.size);have bf:=J.AB HY;have ar:=dM bd;have db:=mM (oA kids) (j+1);have av:=yP (oA kids)[j];rw[be] at ar av;obtain⟨b,o,cl,hb,g0,g1,g2,g3,g4⟩:=TJ (KH.below bf aj) Q;subst cl;have CK:=Zh (IH kids[j] (List.getElem_mem Q) (y.n+1) 0 wr B C q yj aj bo (uA CL.out) J.rf ((KS _ (List.getElem_mem Q)).qC bf aj) (F5 j Q) (uA CL.out));have KN:=Zh (fun h0=>nT (d:=yj.d) (p:=y.n+1) bd h0);have KB:=Zh (fun h0=>bU (d:=yj.d) (p:=y.n+1) bd h0);have BK:=Zh (tP (er kids[j]) yj.d (y.n+1) 0);have bg:=Zh (GP (er kids[j]) yj.d (y.n+1) 0);rw[be] at KN KB;have dc:xB (oA kids)<=300:=CL;have cm:ms.length<=1000:=(by have u:=mM (oA kids) j;omega);obtain⟨cj,bp⟩:=qA (countP (er kids[j]));rw[bp] at ar av BK bg;have c0:cj<=300:=cA;generalize TC yj.d (y.n+1) 0 (er kids[j])=rj at CK KN KB BK bg;have bq:=Zh ar;clear bp be ar;generalize kids[j]=d at g0 g1 g2 g3 g4 CK;go_wp2_with fail;refine CK.mono ?_;rintro e w5 ⟨A5,n5,c5,y5,Z,rfl,d5,I,o5,bh,br⟩;have R5:=Zh (J.trans d5);have R:=Zh (zM J.rf d5 b7);have T5:=Zh (wQ J.rf d5 bc);have aa:=d5.AB J.rf;have ab:Hid (∀a∈ms,JE w5 C a):=Zh (fun a ha=>(ba a ha).qC aa aj);have bs:=Zh br;have ad:=Zh I;have bt:=Zh bh;have cc:y5.n<=yj.n+cj:=(by have u:=congrArg D.n I;have h2:=BK.2.2.2;rw[<-u] at h2;exact h2);have W5:Hid (WF y5.d):=Zh (by rw[I];exact BK.1 bo);have aq:w.heap.size<=w5.heap.size:=R5.but.size;obtain⟨_,_,_,hv,bu,cv,cw,aw,bv⟩:=mG o5;injection hv with e1 e2 e3;subst e1;subst e2;subst e3;have au:=Zh bu;have bw:=Zh bv;have bx:=Zh (fun e=>(aw e).1);have cx:Z.length<=3*cj:=(by have u:=congrArg List.length bh;have h2:=bg.out;simp at u;omega);clear d5 I aa o5 bh br bu bv aw g0 g1 g2 g3 g4 J b7 bc ba bf;by_cases s:rj.err=0
       ·have cn:=Zh (KN s);have af:=Zh s;have qc:(rj.err != 0)=false:=(by simpa using s);have qi:(if rj.err=0 then yj.n+1 else 0)=yj.n+1:=if_pos s;clear KN KB s;go_wp2_with (at_builtin;refine kR.iC rfl _ _ rfl (v:=.slice ag ah ai) (l:=ms) (m:=Z) (B:=w.heap.size) (A:=A5) (n:=n5) (c:=c5) rfl R rfl au bx bw (uA au.out) cA ?_;intro v8 w8 f g x;obtain⟨A8,n8,c8,rfl,S,T,U,V,Y⟩:=f.slice;clear S T U V Y;have O8:=Zh f;have G8:=Zh g;clear f g x);have P:gA (fun i=>(Value.slice ag ah ai).ownBlock=some i) w5 w8:=gA.sG G8 (fun i z _=>z);have R8:=Zh (DM R5 R P);have T8:=Zh (mL R P T5);have E:Below w.heap.size w5 w8:=P.AB (fun i _ z=>(R.lt z).1) aq;have ae:Hid (∀a∈ms++Z,JE w8 C a):=Zh (fun a ha=>by
         rcases List.mem_append.1 ha with h|h
         ·exact(ab a h).qC E cA
         ·exact(bs a h).qC E cA)
        clear P E G8;go_roundw
        case rel=>
         refine⟨j+1,y5,A8,n8,c8,ms++Z,dn++rj.done,by omega,by go_num,rfl,by rw[bq.out];simp;omega,R8,W5,O8,Zh (by rw[List.map_append,b9.out,bt.out,List.append_assoc]),ae,by rw[bq.out,List.length_append];omega,Zh ?_,T8⟩;rw[bb.out,cn.out,ad.out,<-ZT];rfl
        case measure=>simp[intOf];omega
       ·have co:=Zh (KB s);have af:=Zh s;have qc:(rj.err != 0)=true:=(by simpa using s);have qi:(if rj.err=0 then yj.n+1 else 0)=0:=if_neg s;clear KN KB s;go_wp2_with (at_builtin;refine kR.iC rfl _ _ rfl (v:=.slice ag ah ai) (l:=ms) (m:=Z) (B:=w.heap.size) (A:=A5) (n:=n5) (c:=c5) rfl R rfl au bx bw (uA au.out) cA ?_;intro v8 w8 f g x;obtain⟨A8,n8,c8,rfl,S,T,U,V,Y⟩:=f.slice;clear S T U V Y;have O8:=Zh f;have G8:=Zh g;clear f g x);have P:gA (fun i=>(Value.slice ag ah ai).ownBlock=some i) w5 w8:=gA.sG G8 (fun i z _=>z);have R8:=Zh (DM R5 R P);have T8:=Zh (mL R P T5);have E:Below w.heap.size w5 w8:=P.AB (fun i _ z=>(R.lt z).1) aq;have ae:Hid (∀a∈ms++Z,JE w8 C a):=Zh (fun a ha=>by
         rcases List.mem_append.1 ha with h|h
         ·exact(ab a h).qC E cA
         ·exact(bs a h).qC E cA)
        clear P E G8;go_ret3;rw[BE.out ⟨dn++rj.done,rj.err,rj.d⟩ (by rw[bb.out,co.out];rfl)];exact⟨A8,n8,c8,y5,ms++Z,by first|rfl|(rw[show((⟨AD (y.n+1) par rA _,0,yk.d⟩:LC).on ⟨dn++rj.done,rj.err,rj.d⟩).err=rj.err from rfl,if_neg af.out];rfl),R8,ad,O8,by rw[List.map_append,b9.out,bt.out,List.append_assoc];rfl,ae⟩
      ·obtain rfl:j=n2:=cA
       go_wp2_with fail;go_ret3;have u:=bb.out;rw[List.drop_eq_nil_of_le (by have:=KL.out;rw[IB];simp;omega),yD] at u;rw[BE.out ⟨dn,0,yj.d⟩ (by rw[u];unfold LC.on;simp)];exact⟨ag,ah,ai,yj,ms,by first|rfl|(rw[if_pos (by rfl)];rfl),J,rfl,b7,b9,ba⟩
variable{w w1 w2:World}{B g p:Nat}{x x1 x2:Dx}{vd vd1 vd2:Value}{rs rs1 rs2:List RR}
theorem pD.trans(h:pD w B g p x vd x1 vd1 rs1 w1)(k:pD w1 B g p x1 vd1 x2 vd2 rs2 w2):pD w B g p x vd x2 vd2 rs2 w2:=by
 have c:=h.but.size;refine⟨k.dc,k.lg,h.but.trans k.but (fun i b a=>?_),fun i b=>?_,fun i b=>?_⟩
 ·rcases a with a|a|a
  ·rcases h.ft i a with e|e
   ·exact .inl e
   ·omega
  ·exact .inr (.inl a)
  ·rcases h.lf i a with e|e
   ·exact .inr (.inr e)
   ·omega
 ·rcases k.ft i b with e|e
  ·exact h.ft i e
  ·exact .inr cA
 ·rcases k.lf i b with e|e
  ·exact h.lf i e
  ·exact .inr cA
theorem pD.same(h:Dc w B p x)(l:Lg w B g p vd rs)(hb:eA w w1):pD w B g p x vd x vd rs w1:=⟨h.below hb,l.below hb,gA.tB hb _,fun _ a=> .inl a,fun _ a=> .inl a⟩
theorem pD.below(h:pD w B g p x vd x1 vd1 rs1 w1)(hb:eA w1 w2):pD w B g p x vd x1 vd1 rs1 w2:=pD.trans h (pD.same h.dc h.lg hb)
def Changed(w:World)(C:Nat)(L:List Rc)(e:Ending)(w':World):Prop:=
 ∃(A:jA) (n c:Nat) (ls:List RR),e= .returned (.slice A n c)/\kR.Own w' w.heap.size (.slice A n c) ls/\ls.map (·.r)=L/\(∀a∈ls,JE w' C a)/\eA w w'
theorem Wd(t:TV)(i par rA:Int)(w:World)(C:Nat)(hCw:C<=w.heap.size)(ht:vC w C t)(hfew:qF (er t)=true):fA 86 #[aA i,aA par,aA rA,.agg #[bA t.tag,bA t.txt,bA t.key,.slice t.sa.A t.sa.n t.sa.c,.slice t.sk.A t.sk.n t.sk.c]] w (Changed w C (AD i par rA (er t))):=by
 obtain⟨tag,txt,key,⟨A,n,c⟩,attrs,⟨d,f,g⟩,kids⟩:=t;have T:attrs.length=n:=ht.al;have ac:n<=c:=ht.ac;have U:A=none->c=0:=ht.az;have AH:Hid (kA.pA w C A attrs):=Zh ht.ah;rw[er,qF] at hfew;simp only[Bool.and_eq_true,decide_eq_true_eq] at hfew;obtain⟨⟨⟨⟨f1,f2⟩,f3⟩,V⟩,f5⟩:=hfew;obtain⟨k,E⟩:=PQ V;have X:n<=20:=cA;have m1:tag.size<=maxLen:=wD;have m2:txt.size<=maxLen:=wD;have m3:key.size<=maxLen:=wD;have F:=Zh T;have AZ:=Zh U;have G:=Zh k;have u:Hid (eA w (w.alloc (.cells #[bA tag,bA txt,bA key,.slice A n c,.slice d f g] 59))):=Zh (Zb _ _);have q:Hid (TB (w.alloc (.cells #[bA tag,bA txt,bA key,.slice A n c,.slice d f g] 59)) w.heap.size (.mk tag txt key ⟨A,n,c⟩ attrs ⟨d,f,g⟩ kids)):=Zh (TB.new w (.mk tag txt key ⟨A,n,c⟩ attrs ⟨d,f,g⟩ kids));have x:Hid (∀o,eA w o->∀a∈[(⟨fG i (er (.mk tag txt key ⟨A,n,c⟩ attrs ⟨d,f,g⟩ kids)),⟨none,0,0⟩⟩:RR),⟨dG i par rA,⟨none,0,0⟩⟩],JE o C a):=Zh (fun o _ a D=>by
  simp only[List.mem_cons,List.not_mem_nil,or_false] at D;rcases D with rfl|rfl
  ·exact⟨rfl,by simp,Zl,fun _=>rfl,fun a h=>absurd h (by simp[fG]),Kind.pA.nil _ _ _,by rw[er];exact m1,by rw[er];exact m2,by rw[er];exact m3⟩
  ·exact⟨rfl,by simp,Zl,fun _=>rfl,fun a h=>absurd h (by simp[dG]),Kind.pA.nil _ _ _,NH,NH,NH⟩)
 have H:Hid (∀o,eA w o->JE o C (⟨VH i attrs,⟨A,n,c⟩⟩:RR)):=Zh (fun o h=>⟨F,by show n<=1000;omega,ac,AZ,G,AH.below h hCw,NH,NH,NH⟩);clear T U k ht V f5 f1 f2 f3 E;show fA 86 #[aA i,aA par,aA rA,.agg #[bA tag,bA txt,bA key,.slice A n c,.slice d f g]] w _;go_enter func86,ntmps86;go_upto_region 1 with fail;generalize w.alloc (.cells #[bA tag,bA txt,bA key,.slice A n c,.slice d f g] 59)=W at u q|-;have a0:W.cell? ⟨w.heap.size,0,none⟩=some (bA tag):=q.c0;have a1:W.cell? ⟨w.heap.size,1,none⟩=some (bA txt):=q.c1;have a2:W.cell? ⟨w.heap.size,2,none⟩=some (bA key):=q.c2;go_upto_region 2 with fail;have s:Hid (eA w (W.alloc (.cells #[aA 1,aA i,aA 0,aA 0,bA tag,bA txt,bA key,vA,aA 2,aA i,aA par,aA rA,tA,tA,tA,vA] 87))):=Zh (u.alloc u.size _);have Y:Hid (TB (W.alloc (.cells #[aA 1,aA i,aA 0,aA 0,bA tag,bA txt,bA key,vA,aA 2,aA i,aA par,aA rA,tA,tA,tA,vA] 87)) w.heap.size (.mk tag txt key ⟨A,n,c⟩ attrs ⟨d,f,g⟩ kids)):=Zh (oB q);have y:Hid (kR.Own (W.alloc (.cells #[aA 1,aA i,aA 0,aA 0,bA tag,bA txt,bA key,vA,aA 2,aA i,aA par,aA rA,tA,tA,tA,vA] 87)) w.heap.size (.slice (some ⟨W.heap.size,0,none⟩) 2 2) [(⟨fG i (er (.mk tag txt key ⟨A,n,c⟩ attrs ⟨d,f,g⟩ kids)),⟨none,0,0⟩⟩:RR),⟨dG i par rA,⟨none,0,0⟩⟩]):=Zh (Kind.wG (K:=kR) rfl u.size (heap_alloc_new W _) Zl (by simp[maxLen]) rfl rfl);generalize W.alloc (.cells #[aA 1,aA i,aA 0,aA 0,bA tag,bA txt,bA key,vA,aA 2,aA i,aA par,aA rA,tA,tA,tA,vA] 87)=I at s Y y|-;generalize W.heap.size=g2 at y|-;clear a0 a1 a2 u q;have a3:I.cell? ⟨w.heap.size,3,none⟩=some (.slice A n c):=Y.c3;by_cases J:n=0
 ·have L:attrs=[]:=(by have:=F.out;rw[J] at this;exact List.length_eq_zero_iff.1 this);have q1:decide ((0:Int)<(n:Int))=false:=AA;have q2:decide (0<n)=false:=AA;have p:Hid (([(⟨fG i (er (.mk tag txt key ⟨A,n,c⟩ attrs ⟨d,f,g⟩ kids)),⟨none,0,0⟩⟩:RR),⟨dG i par rA,⟨none,0,0⟩⟩]).map (·.r)=AD i par rA (er (.mk tag txt key ⟨A,n,c⟩ attrs ⟨d,f,g⟩ kids))):=Zh (by rw[er];unfold AD;rw[show(PT.mk tag txt key attrs (oA kids)).attrs=attrs from rfl,L];rfl);go_wp2_with fail;go_ret;exact⟨_,_,_,_,rfl,y,p,x I s,s⟩
 ·have q1:decide ((0:Int)<(n:Int))=true:=AA;have q2:decide (0<n)=true:=AA;have p:Hid (([(⟨fG i (er (.mk tag txt key ⟨A,n,c⟩ attrs ⟨d,f,g⟩ kids)),⟨none,0,0⟩⟩:RR),⟨dG i par rA,⟨none,0,0⟩⟩]++[(⟨VH i attrs,⟨A,n,c⟩⟩:RR)]:List RR).map (·.r)=AD i par rA (er (.mk tag txt key ⟨A,n,c⟩ attrs ⟨d,f,g⟩ kids))):=Zh (by
   rw[er];unfold AD;rw[show(PT.mk tag txt key attrs (oA kids)).attrs=attrs from rfl,if_neg (by have:=F.out;cases attrs<;>simp_all)];rfl)
  go_wp2_with (at_builtin;refine kR.iC rfl _ _ rfl (v:=.slice (some (dA g2 0)) 2 2) (l:=[(⟨fG i (er (.mk tag txt key ⟨A,n,c⟩ attrs ⟨d,f,g⟩ kids)),⟨none,0,0⟩⟩:RR),⟨dG i par rA,⟨none,0,0⟩⟩]) (m:=[(⟨VH i attrs,⟨A,n,c⟩⟩:RR)]) (B:=w.heap.size) (A:=some ⟨I.heap.size,0,none⟩) (n:=1) (c:=1) rfl (y.alloc _) rfl rfl RB (Kind.pA.lit (heap_alloc_new _ _) rfl) DA (by have:=s.size;simp;omega) ?_;intro v8 M b j z;obtain⟨a4,a5,a6,rfl,N,O,P,Q,R⟩:=b.slice;clear N O P Q R;have Z:=vQ j;have O3:=Zh b;have S:Hid (eA w M):=Zh (s.trans (Z.AB (fun i _ hi=>(y.lt hi).1) s.size));clear b j z Z);go_ret;exact⟨_,_,_,_,rfl,O3,p,(fun a D=>by
   rcases List.mem_append.1 D with h|h
   ·exact x M S a h
   ·rw[List.mem_singleton.1 h];exact H M S),S⟩
theorem Io{w w':World}{B g p s:Nat}{x x':Dx}{vd vd':Value}{rs rs':List RR}{t:TV}(h:Dc w B p x)(l:Lg w B g p vd rs)(k:pD w B g p x vd x' vd' rs' w')(ht:TB w s t):TB w' s t:=(k.but.block s ht.lt (fun e=>by
 rcases e with e|e
 ·exact h.other ht nA nA nA nA nA e
 ·obtain⟨c,d,a,b⟩:=l.ty e;rcases b with rfl|rfl<;>exact RA a ht nA rfl)).trans ht
def vq(w:World)(B C g p:Nat)(x:Dx)(vd:Value)(rs:List RR)(t:TV)(A12:jA)(n12 c12:Nat)(Ls:List RR)(s28:Value)(wr:World):Prop:=
 ∃(k:Nat) (xk:Dx) (vk:Value) (rk:List RR),k<=n12/\s28 = aA k/\xk.n<=x.n+k/\rk.length<=rs.length+k/\Hid (pD w B g p x vd xk vk rk wr)/\Hid (WF xk.d)/\Hid (kR.Own wr w.heap.size (.slice A12 n12 c12) Ls)/\Hid (gE (.slice A12 n12 c12) vk)/\
  Hid (∀a∈Ls,JE wr C a)/\Hid (kC x.d (Ls.map (·.r))=(⟨(Ls.map (·.r)).take k,0,xk.d⟩:LC).on (kC xk.d ((Ls.map (·.r)).drop k)))/\Hid (rk.map (·.r)=rs.map (·.r)++(Ls.map (·.r)).take k)/\Hid (TB wr w.heap.size t)
def xq(w:World)(B g p:Nat)(x:Dx)(vd:Value)(rs:List RR)(d1:D)(head:List Rc)(L:List PT)(n2:Nat)(s42:Value)(wr:World):Prop:=
 ∃(k:Nat) (xk:Dx) (vk:Value) (rk:List RR) (dn:List Rc),k<=n2/\s42 = aA k/\xk.n<=x.n+1+xB (L.take k)/\rk.length<=rs.length+3+3*xB (L.take k)/\Hid (pD w B g p x vd xk vk rk wr)/\Hid (WF xk.d)/\Hid (rk.map (·.r)=rs.map (·.r)++(head++dn))/\
  Hid (yD d1 (x.n+1) L=(⟨dn,0,xk.d⟩:LC).on (yD xk.d (x.n+1) (L.drop k)))
def Xa(w:World)(B g p:Nat)(x:Dx)(vd:Value)(rs:List RR)(r:LC)(e:Ending)(w':World):Prop:=
 ∃x' vd' rs',e= .returned (.tuple #[aA (if r.err=0 then x.n+1 else 0),UA r.err])/\pD w B g p x vd x' vd' rs' w'/\x'.d=r.d/\rs'.map (·.r)=rs.map (·.r)++r.done
theorem yh:∀(t:TV) (par rA:Int) (w:World) (B C g p:Nat) (x:Dx) (vd:Value) (rs:List RR),C<=B->WF x.d->x.n+countP (er t)<=90000->rs.length+3*countP (er t)<=1000->Dc w B p x->Lg w B g p vd rs->vC w C t->qF (er t)=true->
 fA 52 #[iA g,iA p,aA par,aA rA,.agg #[bA t.tag,bA t.txt,bA t.key,.slice t.sa.A t.sa.n t.sa.c,.slice t.sk.A t.sk.n t.sk.c]] w (Xa w B g p x vd rs (TC x.d par rA (er t))):=by
 intro t
 induction t using TV.ind with
 |h tag txt key sa attrs sk kids ih=>
  obtain⟨A,n,c⟩:=sa;obtain⟨m,n2,s⟩:=sk;intro par rA w B C g p x vd rs O ak al c1 hd hl ht I;have KL:Hid (kids.length=n2):=Zh ht.kl;have KH:Hid (kT.pA w C m kids):=Zh ht.kh;have KS:Hid (∀k∈kids,vC w C k):=Zh ht.ks;have b5:Hid (vC w C (.mk tag txt key ⟨A,n,c⟩ attrs ⟨m,n2,s⟩ kids)):=Zh ht;have b6:Hid (qF (er (.mk tag txt key ⟨A,n,c⟩ attrs ⟨m,n2,s⟩ kids))=true):=Zh I;rw[er,qF] at I;simp only[Bool.and_eq_true,decide_eq_true_eq] at I;obtain⟨⟨⟨⟨f1,f2⟩,f3⟩,f4⟩,f5⟩:=I;have F5:Hid (∀k (hk:k<kids.length),qF (er kids[k])=true):=Zh (fun k hk=>by
   have bh:k<(oA kids).length:=(by rw[IB];simpa using hk);have:=jO bh f5;simpa[IB] using this)
  have b7:countP (er (.mk tag txt key ⟨A,n,c⟩ attrs ⟨m,n2,s⟩ kids))=xB (oA kids)+1:=(by rw[er,countP]);have CL:Hid (rs.length+3+3*xB (oA kids)<=1000):=Zh cA;have bz:x.n+1+xB (oA kids)<=90000:=(by rw[b7] at al;simp at al;omega);have c3:n2<=1000:=(by have u:=aM (oA kids);rw[IB,List.length_map] at u;have h2:=KL.out;have h3:=CL.out;rw[IB] at h3;omega);have c4:B<=w.heap.size:=(by have:=hd.base;have:=hd.lt (.inl rfl:UC p x p);omega);have c5:1<=x.n:=ak.n0;have c6:g<w.heap.size:=hl.lt (.inl rfl);have am:=Zh hd;have an:=Zh hl;have bi:=Zh ak;have IH:=Zh ih;have q1:=FF;have q2:=TF;have B1:Hid (eA w (w.alloc (.cells #[bA tag,bA txt,bA key,.slice A n c,.slice m n2 s] 59))):=Zh (Zb _ _);have N1:Hid (TB (w.alloc (.cells #[bA tag,bA txt,bA key,.slice A n c,.slice m n2 s] 59)) w.heap.size (.mk tag txt key ⟨A,n,c⟩ attrs ⟨m,n2,s⟩ kids)):=Zh (TB.new w (.mk tag txt key ⟨A,n,c⟩ attrs ⟨m,n2,s⟩ kids));clear hd hl ak ih ht f4 f5 f1 f2 f3 al b7;show fA 52 #[iA g,iA p,aA par,aA rA,.agg #[bA tag,bA txt,bA key,.slice A n c,.slice m n2 s]] w _;go_enter func52,ntmps52;go_upto_region 1 with fail;generalize w.alloc (.cells #[bA tag,bA txt,bA key,.slice A n c,.slice m n2 s] 59)=W at B1 N1|-;go_wp2_with fail;refine zA (sH W cA rfl (am.below B1)) ?_;have a0:W.cell? ⟨w.heap.size,0,none⟩=some (bA tag):=N1.c0;have a1:W.cell? ⟨w.heap.size,1,none⟩=some (bA txt):=N1.c1;have a2:W.cell? ⟨w.heap.size,2,none⟩=some (bA key):=N1.c2;have a3:W.cell? ⟨w.heap.size,3,none⟩=some (.slice A n c):=N1.c3;have a4:W.cell? ⟨w.heap.size,4,none⟩=some (.slice m n2 s):=N1.c4;go_wp2_with fail;refine(Wd (.mk tag txt key ⟨A,n,c⟩ attrs ⟨m,n2,s⟩ kids) (x.n+1) par rA W C (uA B1.size) (b5.qC B1 cA) b6).mono ?_;rintro e w3 ⟨ao,q,P,E,rfl,o3,ap,b8,b3⟩;have O3:Hid (kR.Own w3 w.heap.size (.slice ao q P) E):=Zh (o3.dE B1.size);have a8:=Zh ap;have bj:=Zh b8;have B3:=Zh (B1.trans (b3.mono B1.size));have N3:=Zh (N1.below b3 N1.lt);have bk:Hid (pD w B g p x vd x vd rs w3):=Zh (pD.same am an B3);have bl:Hid (gE (.slice ao q P) vd):=Zh (fun i hi e=>by have u:=(O3.lt hi).1;have h2:=(an.lt (.inr e));omega);obtain⟨_,_,_,hv,ag,_,_,_,_⟩:=mG O3;injection hv with e1 e2 e3;have c0:q<=3:=by
   have u:=congrArg List.length ap;have h2:=uP (x.n+1) par rA (er (.mk tag txt key ⟨A,n,c⟩ attrs ⟨m,n2,s⟩ kids));simp at u;omega
  have Q:Hid (E.length=q):=Zh (by rw[ag];exact e2.symm);clear o3 ap b8 b3 e1 e2 e3 ag a0 a1 a2 a3 a4 b6 b5 N1 B1;go_wp2_with fail;go_loopw [28] (fun aq wr=>vq w B C g p x vd rs (.mk tag txt key ⟨A,n,c⟩ attrs ⟨m,n2,s⟩ kids) ao q P E aq wr) (fun aq _=>q-(intOf aq).toNat)
  case atStart=>exact⟨0,x,vd,rs,by omega,rfl,by omega,by omega,bk,bi,O3,bl,bj,Zh (mT _ _),Zh DA,N3⟩
  case round=>
   obtain⟨k,R,vk,rk,hk,rfl,c7,c8,a9,aa,J,ab,ac,F,ar,ad⟩:=hrel;by_cases c9:k<q
   ·obtain⟨_,_,_,hv,_,_,_,_,ah⟩:=mG J;injection hv with e1 e2 e3;subst e1;have au:k<E.length:=(uA Q.out);obtain⟨b,o,b9,hb,g0,g1,g2,g3,g4,g5,g6,g7⟩:=UJ ah au;subst b9;have ba:=Zh (ac _ (List.getElem_mem au));have ae:k<(E.map (·.r)).length:=(by simpa using au);have av:(E.map (·.r))[k]=E[k].r:=DA;have RN:=Zh (fun h0=>aU ae F h0);have K:=Zh (fun h0=>FU ae F h0);have TK:Hid ((E.map (·.r)).take (k+1)=(E.map (·.r)).take k++[E[k].r]):=Zh (by rw[List.take_add_one,List.getElem?_eq_getElem ae,av];rfl);rw[av] at RN K;clear av ae e2 e3 ah;generalize E[k]=d at g0 g1 g2 g3 g4 g5 g6 g7 ba RN K TK;obtain⟨cd,aw⟩:=qA ((VA R.d d.r).1);rw[aw] at RN K;have bm:=Zh aw;clear aw;have ca:B<=wr.heap.size:=(uA a9.but.size);go_upto_region 5 with fail;have z:=Zh (bB.new wr d.r d.va.A d.va.n d.va.c);have L:Hid (eA wr (wr.alloc (.cells (JA d.r d.va.A d.va.n d.va.c) 87))):=Zh (Zb _ _);generalize wr.alloc (.cells (JA d.r d.va.A d.va.n d.va.c) 87)=wa at z L|-;clear g0 g1 g2 g3 g4 g5 g6 g7;have a0:=z.c0;have a1:=z.c1;have a2:=z.c2;have a3:=z.c3;have a4:=z.c4;have a5:=z.c5;have a6:=z.c6;have a7:=z.c7;have l:=Zh (pD.below a9 L);have OA:Hid (kR.Own wa w.heap.size (.slice (some (dA b o)) q P) E):=Zh (J.below L Zl);have TA:=Zh (ad.below L ad.lt);have bb:Hid (∀a∈E,JE wa C a):=Zh (fun a ha=>(ac a ha).qC L cA);have ai:Hid (∀w9,Below B wa w9->XI w9 d.va.A d.va.n d.va.c d.r):=Zh (fun w9 h9=>((ba.qC L cA).qC h9 O).arg (by have:=h9.size;have:=L.size;omega));go_wp2_with fail;refine(uq d.r d.va.A d.va.n d.va.c wa bm aa cA ai (uA CL.out) l.dc l.lg).mono ?_;rintro e w5 ⟨rfl,x5,S,M,v,y,N,bn⟩;have T:=Zh (pD.trans l v);have O5:Hid (kR.Own w5 w.heap.size (.slice (some (dA b o)) q P) E):=Zh (v.own l.dc l.lg OA ab);have bo:=Zh (v.apart OA ab);have T5:=Zh (Io l.dc l.lg v TA);have bc:=v.AB l.dc l.lg;have bp:Hid (∀a∈E,JE w5 C a):=Zh (fun a ha=>(bb a ha).qC bc O);have U:=Zh y;have V:=Zh N;have bq:x5.n<=x.n+k+1:=(by have u:=congrArg D.n y;have h2:=(GM R.d d.r).2;rw[<-u] at h2;have h3:x5.n<=R.n+1:=h2;omega);have W5:Hid (WF x5.d):=Zh (by rw[y];exact bK aa _);clear v y N bc a0 a1 a2 a3 a4 a5 a6 a7 a9 J ad ac F aa l OA TA bb ai z L ab;by_cases f:cd=0
    ·subst f;have br:=Zh (RN rfl);clear RN K;rw[mK];go_wp2_with fail;go_roundw
     case rel=>
      exact⟨k+1,x5,S,M,by omega,by go_num,by simp;omega,by omega,T,W5,O5,bo,bp,Zh (by rw[U.out];exact br),Zh (by rw[V.out,if_pos True.intro,ar.out,TK.out,List.append_assoc]),T5⟩
     case measure=>simp[intOf];omega
    ·have bs:=Zh (K f);have Y:=Zh f;have he:UA cd= .iface 56 (aA cd):=(by unfold UA;rw[if_neg f]);rw[he];clear RN K f;go_wp2_with fail;go_ret2;have e:TC x.d par rA (er (.mk tag txt key ⟨A,n,c⟩ attrs ⟨m,n2,s⟩ kids))=⟨(E.map (·.r)).take k,cd,(VA R.d d.r).2⟩:=by
      have u:=bs.out;rw[a8.out] at u;rw[LK,show x.d.n=x.n from rfl,u,if_neg Y.out,a8.out]
     rw[e];exact⟨x5,S,M,by rw[if_neg Y.out,he];rfl,T,U,by rw[V.out,if_neg Y.out,ar.out]⟩
   ·obtain rfl:q=k:=cA
    have RE:=GU (by have u:=F.out;rw[show q=(E.map (·.r)).length by rw[List.length_map,Q.out]] at u;exact u);rw[a8.out] at RE;have bt:=Zh RE;have cb:R.n<=x.n+1:=by
     have u:=(XQ x.d par rA (er (.mk tag txt key ⟨A,n,c⟩ attrs ⟨m,n2,s⟩ kids))).2;rw[show x.d.n+1=x.n+1 from rfl,RE] at u;exact u
    have bu:Hid (rk.map (·.r)=rs.map (·.r)++(AD (x.n+1) par rA (er (.mk tag txt key ⟨A,n,c⟩ attrs ⟨m,n2,s⟩ kids))++[])):=Zh (by rw[ar.out,List.take_of_length_le (by rw[List.length_map];have:=Q.out;omega),a8.out,List.append_nil]);have a4:wr.cell? ⟨w.heap.size,4,none⟩=some (.slice m n2 s):=ad.c4;clear RE F ab J ac;have BE:Hid (∀X:LC,yD R.d (x.n+1) (oA kids)=X->TC x.d par rA (er (.mk tag txt key ⟨A,n,c⟩ attrs ⟨m,n2,s⟩ kids))=(⟨AD (x.n+1) par rA (er (.mk tag txt key ⟨A,n,c⟩ attrs ⟨m,n2,s⟩ kids)),0,R.d⟩:LC).on X):=Zh (fun X hX=>by
     rw[LK,show x.d.n=x.n from rfl,bt.out,if_pos rfl];show(⟨_,0,R.d⟩:LC).on (yD R.d (x.n+1) (er (.mk tag txt key ⟨A,n,c⟩ attrs ⟨m,n2,s⟩ kids)).kids)=_;rw[show(er (.mk tag txt key ⟨A,n,c⟩ attrs ⟨m,n2,s⟩ kids)).kids=oA kids by rw[er];rfl,hX])
    go_wp2_with fail;obtain⟨wo,rfl⟩:∃wo:World,wo=wr:=⟨_,rfl⟩;go_loopw [42] (fun ax wr=>xq w B g p x vd rs R.d (AD (x.n+1) par rA (er (.mk tag txt key ⟨A,n,c⟩ attrs ⟨m,n2,s⟩ kids))) (oA kids) n2 ax wr) (fun ax _=>n2-(intOf ax).toNat)
    case atStart=>exact⟨0,R,vk,rk,[],by omega,rfl,by simp[xB];omega,by omega,a9,aa,bu,Zh (by unfold LC.on;simp)⟩
    case round=>
     obtain⟨j,Z,vj,rj,dn,hj,rfl,cc,ce,H,bd,ay,az⟩:=hrel;by_cases cf:j<n2
     ·have G:j<kids.length:=(uA KL.out);have b0:j<(oA kids).length:=(by rw[IB];simpa using G);have b1:(oA kids)[j]=er kids[j]:=(by simp[IB]);have cg:w.heap.size<=wr.heap.size:=H.but.size;have b2:=H.AB am an;have af:=dM b0;have ch:=mM (oA kids) (j+1);have aj:=yP (oA kids)[j];rw[b1] at af aj;obtain⟨b,o,bv,hb,g0,g1,g2,g3,g4⟩:=TJ (KH.below b2 O) G;subst bv;have CK:Hid (∀wz,eA wr wz->fA 52 #[iA g,iA p,aA (x.n+1),aA 0,.agg #[bA kids[j].tag,bA kids[j].txt,bA kids[j].key,.slice kids[j].sa.A kids[j].sa.n kids[j].sa.c,.slice kids[j].sk.A kids[j].sk.n kids[j].sk.c]] wz (Xa wz B g p Z vj rj (TC Z.d (x.n+1) 0 (er kids[j])))):=Zh (fun wz hz=>IH kids[j] (List.getElem_mem G) (x.n+1) 0 wz B C g p Z vj rj O bd cA (uA CL.out) (H.dc.below hz) (H.lg.below hz) (((KS _ (List.getElem_mem G)).qC b2 O).qC hz cA) (F5 j G));have KN:=Zh (fun h0=>nT (d:=Z.d) (p:=x.n+1) b0 h0);have KB:=Zh (fun h0=>bU (d:=Z.d) (p:=x.n+1) b0 h0);have BK:=Zh (tP (er kids[j]) Z.d (x.n+1) 0);have b4:=Zh (GP (er kids[j]) Z.d (x.n+1) 0);rw[b1] at KN KB;obtain⟨cj,be⟩:=qA (countP (er kids[j]));rw[be] at af aj BK b4;generalize TC Z.d (x.n+1) 0 (er kids[j])=rn at CK KN KB BK b4;have bf:=Zh af;have bg:cj<=1000:=(uA CL.out);clear be b1 af;generalize kids[j]=d at g0 g1 g2 g3 g4 CK;go_upto_region 12 with fail;have z:Hid (TB (wr.alloc (.cells #[bA d.tag,bA d.txt,bA d.key,.slice d.sa.A d.sa.n d.sa.c,.slice d.sk.A d.sk.n d.sk.c] 59)) wr.heap.size d):=Zh (TB.new wr d);have L:Hid (eA wr (wr.alloc (.cells #[bA d.tag,bA d.txt,bA d.key,.slice d.sa.A d.sa.n d.sa.c,.slice d.sk.A d.sk.n d.sk.c] 59))):=Zh (Zb _ _);generalize wr.alloc (.cells #[bA d.tag,bA d.txt,bA d.key,.slice d.sa.A d.sa.n d.sa.c,.slice d.sk.A d.sk.n d.sk.c] 59)=wa at z L|-;clear g0 g1 g2 g3 g4 b2;have a0:=z.c0;have a1:=z.c1;have a2:=z.c2;have a3:=z.c3;have a4:=z.c4;have l:=Zh (pD.below H L);go_wp2_with fail;refine(CK wa L).mono ?_;rintro e w5 ⟨x5,S,M,rfl,v,y,N⟩;have T:=Zh (pD.trans l v);have U:=Zh y;have V:=Zh N;have bq:x5.n<=Z.n+cj:=(by have u:=congrArg D.n y;have h2:=BK.2.2.2;rw[<-u] at h2;exact h2);have W5:Hid (WF x5.d):=Zh (by rw[y];exact BK.1 bd);have bn:M.length<=rj.length+3*cj:=(by have u:=congrArg List.length N;have h2:=b4.out;simp at u;omega);clear v y N a0 a1 a2 a3 a4 H l z L;by_cases f:rn.err=0
      ·have bw:=Zh (KN f);have he:UA rn.err= .nilIface:=(by rw[f];exact mK);rw[he,if_pos f];clear KN KB;go_wp2_with fail;go_roundw
       case rel=>
        refine⟨j+1,x5,S,M,dn++rn.done,by omega,by go_num,by rw[bf.out];simp;omega,by rw[bf.out];omega,T,W5,Zh (by rw[V.out,ay.out];simp[List.append_assoc]),Zh ?_⟩;rw[az.out,bw.out,U.out,<-ZT];rfl
       case measure=>simp[intOf];omega
      ·have bx:=Zh (KB f);have Y:=Zh f;have he:UA rn.err= .iface 56 (aA rn.err):=(by unfold UA;rw[if_neg f]);rw[he,if_neg f];clear KN KB f;go_wp2_with fail;go_ret2;rw[BE.out ⟨dn++rn.done,rn.err,rn.d⟩ (by rw[az.out,bx.out];rfl)];exact⟨x5,S,M,by unfold LC.on;rw[if_neg Y.out,he];rfl,T,U,by rw[V.out,ay.out];simp[LC.on,List.append_assoc]⟩
     ·obtain rfl:j=n2:=cA
      go_wp2_with fail;go_ret2;have u:=az.out;rw[List.drop_eq_nil_of_le (by have:=KL.out;rw[IB];simp;omega),yD] at u;rw[BE.out ⟨dn,0,Z.d⟩ (by rw[u];unfold LC.on;simp)];exact⟨Z,vj,rj,by unfold LC.on;rw[if_pos rfl,mK];rfl,H,rfl,ay⟩
def Mb(w:World)(B g p:Nat)(x:Dx)(vd:Value)(rs:List RR)(par rA:Int)(t:PT)(e:Ending)(w':World):Prop:=
 (rE t=false/\e= .returned (.tuple #[aA 0,.iface 56 (aA 1)])/\eA w w')\/
 (rE t=true/\∃x' vd' rs',e= .returned (.tuple #[aA (OV x.d par rA t),UA (TC x.d par rA t).err])/\pD w B g p x vd x' vd' rs' w'/\x'.d=(TC x.d par rA t).d/\rs'.map (·.r)=rs.map (·.r)++(TC x.d par rA t).done)
theorem Bf(t:TV)(w:World)(B C g p:Nat)(x:Dx)(vd:Value)(rs:List RR)(par rA:Int)(hCB:C<=B)(hwf:WF x.d)(hxn:x.n<=50000)(hrs:rs.length+3*countP (er t)<=900)(hd:Dc w B p x)(hl:Lg w B g p vd rs)(ht:vC w C t)(hfew:qF (er t)=true):
 fA 22 #[iA g,iA p,aA par,aA rA,.agg #[bA t.tag,bA t.txt,bA t.key,.slice t.sa.A t.sa.n t.sa.c,.slice t.sk.A t.sk.n t.sk.c]] w (Mb w B g p x vd rs par rA (er t)):=by
 have M:B<=w.heap.size:=(by have:=hd.base;have:=hd.lt (.inl rfl:UC p x p);omega);have c:vC w w.heap.size t:=ht.more cA;have N:countP (er t)<=300:=cA;have j:=Zh hd;have k:=Zh hl;have u:=Zh hwf;have O:=Zh ht;have P:=Zh hfew;have Q:=Zh c;have l:Hid (eA w (w.alloc (.cells #[bA t.tag,bA t.txt,bA t.key,.slice t.sa.A t.sa.n t.sa.c,.slice t.sk.A t.sk.n t.sk.c] 59))):=Zh (Zb _ _);have a:Hid (TB (w.alloc (.cells #[bA t.tag,bA t.txt,bA t.key,.slice t.sa.A t.sa.n t.sa.c,.slice t.sk.A t.sk.n t.sk.c] 59)) w.heap.size t):=Zh (TB.new w t);obtain⟨L,d⟩:=qA (rE (er t));have m:=Zh d;have R:Hid (∀i,eA w i->fA 51 #[.agg #[bA t.tag,bA t.txt,bA t.key,.slice t.sa.A t.sa.n t.sa.c,.slice t.sk.A t.sk.n t.sk.c]] i fun e w'=>e= .returned (.bool L)/\eA i w'):=Zh (fun i S=>by have:=may_c t i (c.on S) hfew cA;rw[d] at this;exact this);clear hd hl hwf ht hfew c d;go_enter func22,ntmps22;go_upto_region 1 with fail;generalize w.alloc (.cells #[bA t.tag,bA t.txt,bA t.key,.slice t.sa.A t.sa.n t.sa.c,.slice t.sk.A t.sk.n t.sk.c] 59)=W at l a|-;have v:=a.c0;have y:=a.c1;have z:=a.c2;have A:=a.c3;have D:=a.c4;go_wp2_with fail;refine(R W l).mono ?_;rintro e T ⟨rfl,E⟩;have n:=Zh (l.trans (E.mono l.size));have o:=Zh (a.below E a.lt);clear E v y z A D l a;cases L with
 |false=>
  go_wp2_with fail;go_ret2;exact .inl ⟨m,rfl,n⟩
 |true=>
  have v:=o.c0;have y:=o.c1;have z:=o.c2;have A:=o.c3;have D:=o.c4;go_wp2_with fail;refine(yh t par rA T B C g p x vd rs hCB u cA cA (j.below n) (k.below n) (O.qC n cA) P).mono ?_;rintro e X ⟨U,F,G,rfl,q,r,s⟩;have H:=Zh (pD.trans (pD.same j k n) q);have I:=Zh r;have J:=Zh s;clear q r s v y z A D;have V:Hid ((if(TC x.d par rA (er t)).err=0 then x.n+1 else 0)=OV x.d par rA (er t)):=Zh rfl;rw[V.out];obtain⟨ev,f⟩:=qA (UA (TC x.d par rA (er t)).err);have K:=Zh f;rw[f];clear f;go_wp2_with fail;go_ret2;exact .inr ⟨m,U,F,G,by rw[K.out];rfl,H,I,J⟩
end P8
namespace P13
open Go.RowKit Kd P4 P5 P11 P12 Mv
theorem Ei{l:List In}{i c:Nat}(hn:l.length<=120)(hi:i<l.length)(hf:aD l i=0)(hw:VD l i=c)(hc:¬c=0):bD l=c:=by
 have a:aD l l.length=c:=(by rw[iY hf (by rw[hw];exact hc) hi,hw]);rw[bD,if_neg cA,if_neg (by rw[a];exact hc),a]
theorem Fi{l:List In}{d:Nat}(hn:l.length<=120)(hf:aD l l.length=0)(hp:(mE l l.length).length=d+1):bD l=if 0<d then 8 else 0:=by
 have a:=(RQ Zl hf).len;have e:(zE l l.length).2=d:=(by rw[iM];omega);rw[bD,if_neg cA,if_pos hf,e]
theorem jr{w w1:World}{m:Nat}(hm:w.heap.size<=m)(M:uC prog 9 w1 m 0 0 (fun _=>none))(hb:eA w w1):
 aJ ((w1.alloc (.cells #[.map (some m),.bool false] 205)).alloc (.cells #[.slice (some ⟨w1.heap.size,0,none⟩) 1 1,.bool false,vA] 210)) w.heap.size (w1.heap.size+1) 0 [[]] none:=by
 have a:=hb.size;have b:(w1.alloc (.cells #[.map (some m),.bool false] 205)).heap[w1.heap.size]? = some (.cells #[.map (some m),.bool false] 205 (0,0)):=heap_alloc_new w1 _;have c:(w1.alloc (.cells #[.map (some m),.bool false] 205)).heap.size=w1.heap.size+1:=DA;refine⟨w1.heap.size,1,0,[⟨m,false⟩],none,0,0,[],by omega,rfl,by omega,?_,?_,Kind.Own.nil _ _ _,rfl,by simp,fun i h d=>?_,rfl,rfl,Zl⟩
 ·rw[<-c];exact heap_alloc_new _ _
 ·exact Kind.wG rfl a (oB b) Zl wD rfl rfl
 ·obtain rfl:i=0:=by simpa using h
  refine⟨hm,rfl,0,?_⟩;show uC _ _ _ m 0 0 (gG []);rw[bZ];exact(M.alloc _).alloc _
theorem Mp:zq:=by
 intro l A n c w hh hn a1 v hl y;have q3:=FF;have q5:=TF;have KH:=Zh hh;have B:=Zh hn;have T:=Zh y;have a0:c<=9223372036854775807:=(by unfold maxLen at v;omega);clear hh hn v y;by_cases C:120<n
 ·have j:Hid (bD l=13):=Zh (by rw[bD,if_pos (by rw[B.out];exact C)]);have i1:(120:Int)<(n:Int):=cA;rw[j.out];go_enter func126,ntmps126;go_wp2_with fail;go_ret;exact⟨rfl,Ze⟩
 have i1:¬(120:Int)<(n:Int):=cA;go_enter func126,ntmps126;go_wp2_with fail;refine(YR w).mono ?_;rintro e D ⟨m,rfl,hm,M,E⟩;have N:=Zh (jr hm M E);have U:Hid (eA w ((D.alloc (.cells #[.map (some m),.bool false] 205)).alloc (.cells #[.slice (some ⟨D.heap.size,0,none⟩) 1 1,.bool false,vA] 210))):=Zh ((E.alloc E.size _).alloc (by have:=E.size;simp;omega) _);clear hm M E;go_upto_region 4 with fail;generalize (D.alloc (.cells #[.map (some m),.bool false] 205)).alloc (.cells #[.slice (some ⟨D.heap.size,0,none⟩) 1 1,.bool false,vA] 210)=W at N U|-;generalize D.heap.size+1=p at N|-;go_wp2_with fail;go_loopw [16] (fun s wr=>∃i:Nat,i<=n/\s = aA i/\Hid (aJ wr w.heap.size p i (mE l i) (yG l i))/\Hid (aD l i=0)/\Hid (eA w wr)) (fun s _=>n-(intOf s).toNat)
 case atStart=>exact⟨0,by omega,rfl,N,Zh rfl,U⟩
 case round=>
  obtain⟨i,hi,rfl,HF,O,t⟩:=hrel;clear N U;by_cases a2:i<n
  ·have f:i<l.length:=(uA B.out);obtain⟨b,o,rfl,hb,g0,g1,g2⟩:=TG (KH.on t) f;have G:=T _ (List.getElem_mem f);have P:=Zh (gW f O);have PS:=Zh (fW f);have NS:=Zh (fP f);have V:=Zh f;generalize l[i]=d at g0 g1 g2 G P PS NS;obtain⟨k,a,q⟩:=d;simp only at g0 g1 g2;obtain⟨Q,u⟩:=qA (RI (mE l i) (yG l i) ⟨k,a,q⟩);have R:Hid (eA wr (wr.alloc (.cells #[aA k,bA a,bA q] 110))):=Zh (Zb _ _);have r:Hid (XB (wr.alloc (.cells #[aA k,bA a,bA q] 110)) wr.heap.size ⟨k,a,q⟩):=Zh (XB.new wr ⟨k,a,q⟩);have FB:Hid (∀X,eA wr X->aJ X w.heap.size p i (mE l i) (yG l i)):=Zh (fun X h9=>by
    obtain⟨_,_,_,_,_,_,_,_,F,ht⟩:=HF.fr;exact(F.below h9).is rfl ht)
   rw[u] at P;have H:=Zh u;clear u f;go_upto_region 7 with fail;generalize wr.alloc (.cells #[aA k,bA a,bA q] 110)=W1 at R r|-;generalize wr.heap.size=x at r|-;have I:=r.c0;have J:=r.c1;have K:=r.c2;simp only at I J K;have Y:=Zh (Ci (FB _ R) cA ⟨k,a,q⟩ G.1 G.2);rw[H.out] at Y;go_wp2_with fail;refine Y.mono ?_;rintro e w2 ⟨rfl,Z⟩;have B2:=Zh (R.trans (Z.mono R.size));have N2:=Zh (r.below Z r.lt);clear Z Y I J K r;by_cases L:Q=0
   ·subst L;have S:UA ((0:Nat):Int)= .nilIface:=rfl;rw[S];have I:=N2.c0;have J:=N2.c1;have K:=N2.c2;simp only at I J K;have CT:=Zh (eU (FB _ B2) cA ⟨k,a,q⟩ G.1 G.2 H);have BX:=Zh (t.trans (B2.mono t.size));go_wp2_with fail;refine CT.mono ?_;rintro e w3 ⟨rfl,f3,b3⟩;rw[<-PS.out,<-NS.out] at f3;have F3:=Zh f3;have B3:=Zh (BX.trans b3);clear f3 b3 CT I J K;go_wp2_with fail;go_roundw
    case rel=>exact⟨i+1,by omega,by go_num,F3,Zh (by rw[aD,if_pos O.out,P.out]),B3⟩
    case measure=>simp[intOf];omega
   ·have S:UA (Q:Int)= .iface 56 (aA Q):=(by unfold UA;rw[if_neg cA]);have j:Hid (bD l=Q):=Zh (Ei (uA B.out) V O P L);rw[S];go_wp2_with fail;go_ret;exact⟨by rw[j.out,S];rfl,t.trans (B2.mono t.size)⟩
  ·obtain rfl:i=n:=cA
   obtain⟨g,cc,d,_,_,_,_,_,F,_⟩:=HF.fr;have j:Hid (bD l=if 0<d then 8 else 0):=Zh (by
    have h1:=O.out;have h2:=F.len;rw[<-B.out] at h1 h2;exact Fi (uA B.out) h1 h2)
   have HD:=Zh (NP p d cc _ wr F.c0 (uA F.d8));clear F;by_cases L:0<d
   ·have i2:(0:Int)<(d:Int):=cA;rw[if_pos L] at j;go_wp2_with fail;refine zA HD ?_;go_wp2_with fail;go_ret;exact⟨by rw[j.out];rfl,t⟩
   ·have i2:¬(0:Int)<(d:Int):=cA;rw[if_neg L] at j;go_wp2_with fail;refine zA HD ?_;go_wp2_with fail;go_ret;exact⟨by rw[j.out];rfl,t⟩
end P13
namespace P14
open Go.RowKit Kd P4 P5 P11 P12 P13
end P14
namespace P7
open Go.RowKit Kd P4 P5
theorem Jo(r:Rc)(A A':jA)(n c n' c':Nat)(w:World)(hn:r.attrs.length=n)(hn':r.attrs.length=n')(hl:n<=1000000)(h1:kA.pA w w.heap.size A r.attrs)(h2:kA.pA w w.heap.size A' r.attrs):
 fA 34 #[.agg (JA r A n c),.agg (JA r A' n' c')] w fun e w'=>e= .returned (.bool true)/\eA w w':=by
 obtain rfl:n'=n:=cA
 have d:Hid (eA w ((w.alloc (.cells (JA r A n' c) 87)).alloc (.cells (JA r A' n' c') 87))):=Zh ((Zb _ _).alloc DA _);have f:Hid (bB ((w.alloc (.cells (JA r A n' c) 87)).alloc (.cells (JA r A' n' c') 87)) w.heap.size r A n' c):=Zh (oB (bB.new w r A n' c));have g:Hid (bB ((w.alloc (.cells (JA r A n' c) 87)).alloc (.cells (JA r A' n' c') 87)) (w.heap.size+1) r A' n' c'):=Zh (lD DA);have m:=Zh h1;have o:=Zh h2;have j:=Zh hn;clear h1 h2 hn hn';go_enter func34,ntmps34;go_upto_region 1 with fail;generalize (w.alloc (.cells (JA r A n' c) 87)).alloc (.cells (JA r A' n' c') 87)=W at d f g|-;have k:=f.c7;have l:=g.c7;go_wp2_with fail;refine(P3.lM r.attrs r.attrs A A' n' n' c c' W j j cA cA (UE (m.on d)) (UE (o.on d))).mono ?_;rintro e q ⟨rfl,i⟩;rw[BS];have p:=Zh (d.trans (i.mono d.size));have a:=Zh (f.below i f.lt);have b:=Zh (g.below i g.lt);clear i k l f g;have s:=a.c0;have t:=a.c1;have u:=a.c2;have v:=a.c3;have x:=a.c4;have y:=a.c5;have z:=a.c6;have k:=a.c7;have B:=b.c0;have C:=b.c1;have D:=b.c2;have i:=b.c3;have E:=b.c4;have F:=b.c5;have G:=b.c6;have l:=b.c7;go_wp2_with fail;go_ret;exact⟨rfl,p⟩
theorem Rk(l m:List RR)(A A':jA)(n c c':Nat)(w:World)(hl:l.length=n)(hm:l.map (·.r)=m.map (·.r))(hn:n<=1000000)(h1:kR.pA w w.heap.size A l)(h2:kR.pA w w.heap.size A' m)
 (ha:∀a∈l,a.r.attrs.length=a.va.n/\a.va.n<=1000000/\kA.pA w w.heap.size a.va.A a.r.attrs) (hb:∀a∈m,a.r.attrs.length=a.va.n/\kA.pA w w.heap.size a.va.A a.r.attrs):
 fA 13 #[.slice A n c,.slice A' n c'] w fun e w'=>e= .returned (.bool true)/\eA w w':=by
 have B:m.length=n:=(by rw[<-hl];have:=congrArg List.length hm;simpa using this.symm);have HL:=Zh hl;have HM:=Zh B;have HE:=Zh hm;have H1:=Zh h1;have H2:=Zh h2;have HA:=Zh ha;have HB:=Zh hb;clear hl hm B h1 h2 ha hb;go_enter func13,ntmps13;go_wp2_with fail;go_loopw [5] (fun s wr=>∃j:Nat,j<=n/\s = aA j/\Hid (eA w wr)) (fun s _=>n-(intOf s).toNat)
 case atStart=>exact⟨0,by omega,rfl,Zh Ze⟩
 case round=>
  obtain⟨j,hj,rfl,t⟩:=hrel;by_cases a4:j<n
  ·have u:j<l.length:=(uA HL.out);have v:j<m.length:=(uA HM.out);obtain⟨b,o,rfl,q,P,Q,R,S,T,U,V,W⟩:=UJ (H1.on t) u;obtain⟨i,k,rfl,g,F,G,H,I,J,K,L,M⟩:=UJ (H2.on t) v;obtain⟨N,X,O⟩:=HA _ (List.getElem_mem u);obtain⟨y,z⟩:=HB _ (List.getElem_mem v);have e:l[j].r=m[j].r:=by
    have:=HE.out;have h1:(l.map (·.r))[j]'(by simpa using u)=(m.map (·.r))[j]'(by simpa using v):=(by congr 1);simpa using h1
   rw[<-e] at F G H I J K L y z;generalize m[j].va=Y at M y z;clear e;generalize l[j]=d at P Q R S T U V W F G H I J K L M N X O y z;obtain⟨r,A,Z,c0⟩:=d;obtain⟨A',n1,c1⟩:=Y;simp only at P Q R S T U V W F G H I J K L M N X O y z;have A1:=Zh N;have A3:=Zh O;have B1:=Zh y;have B2:=Zh z;clear N O y z;have x:Hid (∀w',eA wr w'->(w'.cell? ⟨b,o+j*8,none⟩=some (aA r.op)/\w'.cell? ⟨b,o+j*8+1,none⟩=some (aA r.id)/\w'.cell? ⟨b,o+j*8+2,none⟩=some (aA r.par)/\w'.cell? ⟨b,o+j*8+3,none⟩=some (aA r.rA)/\w'.cell? ⟨b,o+j*8+4,none⟩=some (bA r.tag)/\w'.cell? ⟨b,o+j*8+5,none⟩=some (bA r.txt)/\w'.cell? ⟨b,o+j*8+6,none⟩=some (bA r.key)/\w'.cell? ⟨b,o+j*8+7,none⟩=some (.slice A Z c0)/\w'.cell? ⟨i,k+j*8,none⟩=some (aA r.op)/\w'.cell? ⟨i,k+j*8+1,none⟩=some (aA r.id)/\w'.cell? ⟨i,k+j*8+2,none⟩=some (aA r.par)/\w'.cell? ⟨i,k+j*8+3,none⟩=some (aA r.rA)/\w'.cell? ⟨i,k+j*8+4,none⟩=some (bA r.tag)/\w'.cell? ⟨i,k+j*8+5,none⟩=some (bA r.txt)/\w'.cell? ⟨i,k+j*8+6,none⟩=some (bA r.key)/\w'.cell? ⟨i,k+j*8+7,none⟩=some (.slice A' n1 c1))):=Zh (fun w' f=>⟨(f.cell (p:=⟨b,o+j*8,none⟩) q).trans P,(f.cell (p:=⟨b,o+j*8+1,none⟩) q).trans Q,(f.cell (p:=⟨b,o+j*8+2,none⟩) q).trans R,(f.cell (p:=⟨b,o+j*8+3,none⟩) q).trans S,(f.cell (p:=⟨b,o+j*8+4,none⟩) q).trans T,(f.cell (p:=⟨b,o+j*8+5,none⟩) q).trans U,(f.cell (p:=⟨b,o+j*8+6,none⟩) q).trans V,(f.cell (p:=⟨b,o+j*8+7,none⟩) q).trans W,(f.cell (p:=⟨i,k+j*8,none⟩) g).trans F,(f.cell (p:=⟨i,k+j*8+1,none⟩) g).trans G,(f.cell (p:=⟨i,k+j*8+2,none⟩) g).trans H,(f.cell (p:=⟨i,k+j*8+3,none⟩) g).trans I,(f.cell (p:=⟨i,k+j*8+4,none⟩) g).trans J,(f.cell (p:=⟨i,k+j*8+5,none⟩) g).trans K,(f.cell (p:=⟨i,k+j*8+6,none⟩) g).trans L,(f.cell (p:=⟨i,k+j*8+7,none⟩) g).trans M⟩);go_wp2_with fail;go_region_held3 (fun w'=>w'.cell? ⟨b,o+j*8,none⟩=some (aA r.op)/\w'.cell? ⟨b,o+j*8+1,none⟩=some (aA r.id)/\w'.cell? ⟨b,o+j*8+2,none⟩=some (aA r.par)/\w'.cell? ⟨b,o+j*8+3,none⟩=some (aA r.rA)/\w'.cell? ⟨b,o+j*8+4,none⟩=some (bA r.tag)/\w'.cell? ⟨b,o+j*8+5,none⟩=some (bA r.txt)/\w'.cell? ⟨b,o+j*8+6,none⟩=some (bA r.key)/\w'.cell? ⟨b,o+j*8+7,none⟩=some (.slice A Z c0)/\w'.cell? ⟨i,k+j*8,none⟩=some (aA r.op)/\w'.cell? ⟨i,k+j*8+1,none⟩=some (aA r.id)/\w'.cell? ⟨i,k+j*8+2,none⟩=some (aA r.par)/\w'.cell? ⟨i,k+j*8+3,none⟩=some (aA r.rA)/\w'.cell? ⟨i,k+j*8+4,none⟩=some (bA r.tag)/\w'.cell? ⟨i,k+j*8+5,none⟩=some (bA r.txt)/\w'.cell? ⟨i,k+j*8+6,none⟩=some (bA r.key)/\w'.cell? ⟨i,k+j*8+7,none⟩=some (.slice A' n1 c1))
    (first|go_keep|exact SK) ((first
    |(go_at_call 34;refine(Jo r A A' Z c0 n1 c1 _ A1 B1 X (by exact(A3.on t).drewN _) (by exact(B2.on t).drewN _)).mono ?_;rintro e C ⟨rfl,D⟩;have E:Hid (eA wr C):=Zh ((PA (Below.refl _ wr) _).trans D);have SK:=x C E;clear D)
    |fail))
   have a0:=Zh (t.trans (E.mono t.size));go_wp2_with fail;go_roundw
   case rel=>exact⟨j+1,by omega,by go_num,a0⟩
   case measure=>simp[intOf];omega
  ·go_wp2_with fail;go_ret;exact⟨rfl,t⟩
end P7
namespace P22
open Go.RowKit Kd P4 P5 P11 P12 P13 P14
theorem Bs:Dt:=by
 intro l A n c w p q a b r v;have s:=Zh (Mp l A n c w p q a b r v);have N:=FF;have O:=TF;have E:Hid (Rs w w.heap.size A n c l):=Zh ⟨q,a,b,r,p⟩;by_cases d:bD l=0
 ·have u:=Zh d;have C:=Zh (EN d);have F:Hid (∀g:World,eA w g->fA 127 #[.slice A n c] g (FV g w.heap.size (QB l) [])):=Zh (fun g d=>Xf (QB l) [] A n c w.heap.size g C.2 (fun x hx=>by cases hx) (by rw[C.out.1,List.append_nil];exact E.below d Zl) d.size);have e0:UA ((bD l:Nat):Int)= .nilIface:=(by rw[d];rfl);rw[e0] at s;clear p q a b r v d e0;go_enter func102,ntmps102;go_wp2_with fail;refine s.mono ?_;rintro e y ⟨rfl,i⟩;have f:=Zh i;clear i;go_wp2_with fail;refine(F y f).mono ?_;rintro e P ⟨G,H,I,J,Q,R,S,rfl,j,k,m,_,D⟩;have z:=Zh j;have K:=Zh (f.trans (D.mono f.size));have L:=Zh k;have M:=Zh m;have o:=f.size;clear j k m D;go_wp2_with fail;go_ret2;exact⟨G,H,I,J,by rw[u.out];rfl,by rw[z.out,if_pos u.out],L.dE o,fun t B=>(M t B).mono (fun _ _ h=>Nat.le_trans o h.1),K⟩
 ·have u:=Zh d;have e0:UA ((bD l:Nat):Int)= .iface 56 (aA ((bD l:Nat):Int)):=(by unfold UA;rw[if_neg cA]);have z:=Zh e0;rw[e0] at s;clear p q a b r v d e0;go_enter func102,ntmps102;go_wp2_with fail;refine s.mono ?_;rintro e y ⟨rfl,i⟩;have f:=Zh i;clear i;go_wp2_with fail;go_ret2;exact⟨none,0,0,[],by rw[z.out];rfl,by rw[if_neg u.out];rfl,Kind.Own.nil kW y _,(fun t B=>by cases B),f⟩
end P22
namespace P7
open Go.RowKit Kd P4 P5
theorem Rf.dE{w:World}{B B' q:Nat}{y:Rx}(h:Rf w B q y)(hB:B'<=B):Rf w B' q y:=⟨h.mA,Nat.le_trans hB h.base,h.own.dE hB,fun r a=>⟨(h.nodes r a).mB,(h.nodes r a).kids.dE hB⟩⟩
end P7
end Go.Proofs.YtngnkmeaaneklaaGreat
