/- A part of what the claimed theorem hangs on. No condition but those stated. -/
import Derived.Test.YtaklfomaibchnaaGreatM1
import Derived.Test.YtaklfomaibchnaaGreatM13
import Derived.Test.YtaklfomaibchnaaGreatM19
set_option linter.unusedVariables false
set_option linter.unusedSimpArgs false
set_option maxRecDepth 100000
set_option maxHeartbeats 40000000
namespace Go.Proofs.YtaklfomaibchnaaGreat
namespace P19
open Go.RowKit Kd P4 P5 P7 P14 P16
variable{w wx w':World}{B g p q:Nat}{x:Dx}{vd v:Value}{Z:Nat→Prop}{s:Sg}{par beh:Int}{left:List Int}
def LayV(w:World)(B g p:Nat)(x:Dx)(vd:Value)(Z:Nat→Prop)(q:Nat)(par beh:Int)(r:Sg×List Int)(ok:Prop)(wx:World)(e:Ending)(w':World):Prop:=
 ∃(c:Int) (v':Value) (left':List Int) (s':Sg),e = .returned (errV c)∧Pl w B g p x vd Z q par beh v' left' s' w'∧Kept Z wx w'∧(c=0→(s',left')=r)∧(ok→c=0)
theorem pl_cut{gb k r c:Nat}{w5:World}(h:Pl w B g p x vd Z q par beh (.slice (some ⟨gb,0,none⟩) (k+1+r) c) left s wx)(ho:kI.Own w5 w.heap.size (.slice (some ⟨gb,0,none⟩) (k+r) c) (left.eraseIdx k))(hb:But (fun i=>i=gb) wx w5):
 Pl w B g p x vd Z q par beh (.slice (some ⟨gb,0,none⟩) (k+r) c) (left.eraseIdx k) s (w5.setCell ⟨q,3,none⟩ (.slice (some ⟨gb,0,none⟩) (k+r) c))∧Kept Z wx (w5.setCell ⟨q,3,none⟩ (.slice (some ⟨gb,0,none⟩) (k+r) c)):=by
 have hgb:gb≠q:=by
  rintro rfl;obtain⟨d,hd⟩:=h.own.ty (g:=gb) rfl;have hq:=h.blk;unfold PlB at hq;exact heap_ne hd hq (by decide) rfl
 have hq5:w5.heap[q]? = wx.heap[q]?:=hb.block q h.blk.lt (fun e=>hgb e.symm);have hB:But (fun i=>i=gb∨i=q) wx (w5.setCell ⟨q,3,none⟩ (.slice (some ⟨gb,0,none⟩) (k+r) c)):=But.setCell (S:=fun i=>i=gb∨i=q) (p:=⟨q,3,none⟩) (hb.mono (fun _ _ e=> .inl e)) (fun _=> .inr rfl) _;have hA:NoA wx (fun i=>i=gb∨i=q):=fun i cur fr hi hc=>by
  rcases hi with rfl|rfl
  ·obtain⟨d,hd⟩:=h.own.ty (g:=i) rfl;exact heap_ne hd hc (by decide) rfl
  ·have hq:=h.blk;unfold PlB at hq;exact heap_ne hq hc (by decide) rfl
 have hge:=(h.own.lt (g:=gb) rfl).1;refine⟨⟨?_,?_,?_,h.qn,h.qz,fun i hi=>h.vz i hi⟩,⟨_,hB,fun i hi e=>?_,hA⟩⟩
 ·refine(h.pw.turn hB (fun i hi=>?_) (fun i hi _=>?_) hA).less (fun i hi=>hi)
  ·rcases hi with rfl|rfl
   ·exact hge
   ·exact h.qn
  ·rcases hi with rfl|rfl
   ·exact .inr (.inr rfl)
   ·exact .inr (.inl rfl)
 ·have hq:=h.blk;unfold PlB at hq⊢;exact heap_set (hq5.trans hq) 3 _
 ·exact ho.keep (fun i hi=>Below.heap_setCell _ _ _ _ (by
   have:gb=i:=(by injection hi);subst this;exact hgb))
 ·rcases e with rfl|rfl
  ·exact h.vz i rfl hi
  ·exact h.qz hi
theorem idxA_is{l:List Int}{a:Int}(h:a∈l):idxA l a=l.idxOf a:=by
 have hlt:=List.idxOf_lt_length_iff.2 h;refine idxA_of hlt (List.getElem_idxOf hlt) (fun j hj hjk e=>?_);have:=List.not_of_lt_findIdx (p:=(· == a)) hjk;simp at this;exact this e
theorem erase_idx{l:List Int}{k:Nat}:l.eraseIdx k=l.take k++l.drop (k+1):=List.eraseIdx_eq_take_drop_succ l k
theorem wtake_any(t:WV)(hk:PPatchC t.kids)(f:Nat)(hf:dW (er t)≤f)(h4:t.kind≠4)(h:Pl w B g p x vd Z q par beh v left s wx)(hwf:WF s.1)(hr:∀w',But (pfoot p x g vd) w w'→WOk kW w' w'.heap.size t)(hw:WfW (er t))(hc:wtW (er t)≤1000)(hn:s.1.n+(szW (er t):Nat)≤90000)(hl:s.2.length+2000*szW (er t)+2000≤800000)
 {id:Int} (hid:id∈left) (few:left.length≤250) (hmw:WF (moveP s par left beh id (left.idxOf id)).1.1) (hmh:hasL (moveP s par left beh id (left.idxOf id)).1.1.l id=true):
 Calls Tryz.prog 116 #[.pointer (some ⟨q,0,none⟩),.agg #[.int .i64 t.kind,.string t.tag,.string t.key,.string t.txt,.slice t.sa.A t.sa.n t.sa.c,.slice t.sk.A t.sk.n t.sk.c],.int .i64 id] wx
  (LayV w B g p x vd Z q par beh (if t.kind=3 then moveP s par left beh id (left.idxOf id) else(takenP (recF f) (er t) id (moveP s par left beh id (left.idxOf id)).1,(moveP s par left beh id (left.idxOf id)).2))
   (MoveOk s par left beh id (left.idxOf id)∧(t.kind≠3→TakenOk (okF f) (er t) id (moveP s par left beh id (left.idxOf id)).1)) wx):=by
 have q1:=err_neq_nil;have q2:=nil_neq_nil;have hm1:=move_len (par:=par) hwf left beh id (left.idxOf id);have hsz:1≤szW (er t):=(by rw[szW_kids];omega);have hm2:(moveP s par left beh id (left.idxOf id)).2=left.eraseIdx (left.idxOf id):=(by rw[erase_idx];rfl);have hlt:=List.idxOf_lt_length_iff.2 hid;have hgi:=List.getElem_idxOf hlt;have IX:=Zh (idxA_is hid);generalize left.idxOf id=k at hm1 hm2 hlt hgi IX hmw hmh⊢;obtain⟨r,hr0⟩:∃r,left.length=k+1+r:=⟨left.length-(k+1),by omega⟩;rcases h.own.form with⟨hv,e⟩|⟨gb,c,cur,rfl,hob,y1,y2,y3,hnc,hcm,y4,y5⟩
 ·subst e;exact absurd hid (by simp)
 clear y1 y2 y3 y4 y5 cur;rw[hr0] at h hnc;have hkr:k+1+r≤250:=(by omega);have WB0:Hid (WtB (wx.alloc (.cells #[.int .i64 t.kind,.string t.tag,.string t.key,.string t.txt,.slice t.sa.A t.sa.n t.sa.c,.slice t.sk.A t.sk.n t.sk.c] 69)) wx.heap.size t):=Zh (WtB.new wx t);have BX:Hid (Below wx.heap.size wx (wx.alloc (.cells #[.int .i64 t.kind,.string t.tag,.string t.key,.string t.txt,.slice t.sa.A t.sa.n t.sa.c,.slice t.sk.A t.sk.n t.sk.c] 69))):=Zh (Zb _ _);have H:=Zh h;have HWF:=Zh hwf;have HR:=Zh hr;have HW:=Zh hw;have HK:=Zh hk;have LL:=Zh hr0;have HF:=Zh hf;have HC:=Zh hc;have HID:=Zh hid;have HGI:Hid (∀h:k<left.length,left[k]=id):=Zh (fun _=>hgi);have KL:=Zh hlt;have SZ:=Zh (szw_of hw);have MW:=Zh hmw;have MH:=Zh hmh;have M2:=Zh hm2;obtain⟨m,hmm⟩:∃m,moveP s par left beh id k=m:=⟨_,rfl⟩;rw[hmm] at hm1 MW MH M2⊢;have HMM:=Zh hmm;have hmn:=hm1.1;have hml:=hm1.2;have hml2:m.2=left.eraseIdx k:=M2.out;clear h hwf hr hw hk hob hf hc hid hgi hlt hmw hmh hm1 hm2 hmm hr0 hml2;obtain⟨res,hres⟩:∃res,(if t.kind=3 then m else(takenP (recF f) (er t) id m.1,m.2))=res:=⟨_,rfl⟩;rw[hres];obtain⟨okp,hokp⟩:∃okp:Prop,(MoveOk s par left beh id k∧(t.kind≠3→TakenOk (okF f) (er t) id m.1))=okp:=⟨_,rfl⟩;rw[hokp];have HRES:=Zh hres;have HOKP:Hid (okp→MoveOk s par left beh id k∧(t.kind≠3→TakenOk (okF f) (er t) id m.1)):=Zh (fun e=>by rw[hokp];exact e);clear hres hokp;have KD:Hid ((er t).kind=t.kind):=Zh (by rw[er_parts];rfl);go_enter Tryz.func116,Tryz.ntmps116;go_upto_region 1 with fail;generalize wx.alloc (.cells #[.int .i64 t.kind,.string t.tag,.string t.key,.string t.txt,.slice t.sa.A t.sa.n t.sa.c,.slice t.sk.A t.sk.n t.sk.c] 69)=w1 at WB0 BX⊢;obtain⟨gw,hgw⟩:∃k,wx.heap.size=k:=⟨_,rfl⟩;have GE:Hid (wx.heap.size≤gw):=Zh (by omega);have GL:Hid (gw<w1.heap.size):=Zh (by rw[←hgw];exact WB0.out.lt);rw[hgw] at WB0⊢;clear hgw;have H1:Hid (Pl w B g p x vd (fun k=>Z k∨k=gw) q par beh (.slice (some ⟨gb,0,none⟩) (k+1+r) c) left s w1):=Zh (H.out.box BX.out (fun k hk=>hk.imp (fun e=>e) (fun e=>by subst e;exact⟨GE.out,GL.out⟩)));have K1:Hid (Kept Z wx w1):=Zh (Kept.of_below BX.out);have GZ:Hid (plZ (fun k=>Z k∨k=gw) q (.slice (some ⟨gb,0,none⟩) (k+1+r) c) gw):=Zh (.inl (.inr rfl));have LZ:Hid (∀k,Z k→(fun k=>Z k∨k=gw) k):=Zh (fun k hk=> .inl hk);have OL:=Zh (own_all' H1.out.own);have CX:=Zh (index_any left id (some ⟨gb,0,none⟩) (k+1+r) c w1 LL.out (by omega) HID.out OL.out.2.2.2.2);rw[IX.out] at CX;have p3:=H1.out.blk.c3;have CA:=Zh (wadv_any H1.out KL.out (HGI.out _) (by rw[LL.out];exact hkr) HWF.out (by omega) (by omega));rw[HMM.out] at CA;clear BX GL GE H OL;go_upto_region 2 with(go_at_call 74;refine CX.out.mono ?_;rintro e w2 ⟨rfl,rfl⟩);clear p3 CX;go_upto_region 3 with(go_at_call 142;refine CA.out.mono ?_;rintro e w2 ⟨m1,s1,rfl,p2,k2,hs2,ho2⟩);have H2:=Zh (H1.out.kept p2 k2);have K2:Hid (Kept Z wx w2):=Zh (K1.out.trans (k2.less (fun k hk=> .inl (.inl hk))));have WB2:=Zh (WB0.out.kept k2 GZ.out);have HO2:=Zh ho2;have HS2:=Zh hs2;clear CA p2 k2 ho2 hs2 H1 K1 WB0;by_cases hm0:m1=0
 ·subst hm0;rw[show errV 0 = .nilIface from rfl];obtain rfl:s1=m.1:=HS2.out rfl;clear HS2 HO2;have p3:=H2.out.blk.c3;have hwrap:IntKind.i64.wrap ((k:Int)+1)=(k:Int)+1:=by
   simp[IntKind.wrap,IntKind.bits,IntKind.signed];omega
  have CD:=Zh (deleteInt_any gb k r c (B:=w.heap.size) (l:=left) w2 LL.out (by omega) H2.out.own);have f3:∀w5,But (fun i=>i=gb) w2 w5→w5.frozen? ⟨q,3,none⟩=false∧w5.cell? ⟨q,3,none⟩=some (.slice (some ⟨gb,0,none⟩) (k+1+r) c):=fun w5 hb=>by
   have hgb:gb≠q:=by
    rintro rfl;obtain⟨d,hd⟩:=H2.out.own.ty (g:=gb) rfl;have hq:=H2.out.blk;unfold PlB at hq;exact heap_ne hd hq (by decide) rfl
   have hq:PlB w5 q g p par beh (.slice (some ⟨gb,0,none⟩) (k+1+r) c):=(hb.block q H2.out.blk.lt (fun e=>hgb e.symm)).trans H2.out.blk;exact⟨hq.fr 3,hq.c3⟩
  have F3:=Zh f3;clear f3;go_upto_region 6 with(go_at_call 143;refine CD.out.mono ?_;rintro e w5 ⟨rfl,o5,b5⟩;have PC:=Zh (pl_cut H2.out o5 b5);obtain⟨g3,g4⟩:=F3.out w5 b5;have WB5:Hid (WtB w5 gw t):=Zh ((b5.block gw WB2.out.lt (fun e=>by
   subst e;obtain⟨d,hd⟩:=H2.out.own.ty (g:=gw) rfl;have hq:=WB2.out;unfold WtB at hq;exact heap_ne hd hq (by decide) rfl)).trans WB2.out);clear o5 b5)
  clear CD F3 g3 g4 p3 hwrap;have WB6:Hid (WtB (w5.setCell ⟨q,3,none⟩ (.slice (some ⟨gb,0,none⟩) (k+r) c)) gw t):=Zh (by
   have hne:gw≠q:=by
    rintro rfl;have hq:=H2.out.blk;unfold PlB at hq;have hq2:=WB2.out;unfold WtB at hq2;exact heap_ne hq hq2 (by decide) rfl
   exact(Below.heap_setCell _ _ _ _ hne).trans WB5.out)
  generalize w5.setCell ⟨q,3,none⟩ (.slice (some ⟨gb,0,none⟩) (k+r) c)=w6 at PC WB6⊢;rw[←M2.out] at PC;have H6:=Zh PC.out.1;have K6:Hid (Kept Z wx w6):=Zh (K2.out.trans (PC.out.2.less (fun k hk=> .inl hk)));clear PC WB5 WB2 H2 K2 GZ;have CN:=Zh (pw_node id H6.out.pw MW.out);have p1:=H6.out.blk.c1;go_upto_region 7 with(go_at_call 54;refine CN.out.mono ?_;rintro e w7 ⟨nd,AV,nV,cV,AK,nK,cK,rfl,hn1,hn2,hn3,hn4,hn5,hn6⟩);have FD:Hid (find m.1.1.l id=some nd):=Zh (hn1 MH.out);have B7:Hid (Below w6.heap.size w6 (w7.alloc (.cells #[.int .i64 nd.id,.int .i64 nd.par,.string nd.tag,.string nd.txt,.string nd.key,.slice AV nV cV,.slice AK nK cK,.int .i64 nd.note] 48))):=Zh (hn6.alloc hn6.size _);have NB:Hid (NdB (w7.alloc (.cells #[.int .i64 nd.id,.int .i64 nd.par,.string nd.tag,.string nd.txt,.string nd.key,.slice AV nV cV,.slice AK nK cK,.int .i64 nd.note] 48)) w7.heap.size nd AV nV cV AK nK cK):=Zh (NdB.new w7 nd AV nV cV AK nK cK);have AT:=Zh (hn4.below (Ze.alloc (Zl) (.cells #[.int .i64 nd.id,.int .i64 nd.par,.string nd.tag,.string nd.txt,.string nd.key,.slice AV nV cV,.slice AK nK cK,.int .i64 nd.note] 48)));have OK7:=Zh (hn5.alloc (.cells #[.int .i64 nd.id,.int .i64 nd.par,.string nd.tag,.string nd.txt,.string nd.key,.slice AV nV cV,.slice AK nK cK,.int .i64 nd.note] 48));have SZ7:=hn6.size;clear CN p1 hn1 hn2 hn3 hn4 hn5 hn6;obtain⟨gn,hgn⟩:∃k,w7.heap.size=k:=⟨_,rfl⟩;rw[hgn] at NB SZ7⊢;have GN:Hid (w6.heap.size≤gn):=Zh SZ7;generalize w7.alloc (.cells #[.int .i64 nd.id,.int .i64 nd.par,.string nd.tag,.string nd.txt,.string nd.key,.slice AV nV cV,.slice AK nK cK,.int .i64 nd.note] 48)=w8 at B7 NB AT OK7⊢;clear hgn SZ7;have WB8:=Zh (WB6.out.below B7.out);have H8:Hid (Pl w B g p x vd (fun i=>Z i∨i=gw∨i=gn∨(Value.slice AK nK cK).ownBlock=some i) q par beh (.slice (some ⟨gb,0,none⟩) (k+r) c) m.2 m.1 w8):=Zh (H6.out.box B7.out (fun i hi=>by
   rcases hi with hi|hi|hi|hi
   ·exact .inl (.inl hi)
   ·exact .inl (.inr hi)
   ·subst hi;exact .inr ⟨GN.out,NB.out.lt⟩
   ·exact .inr (OK7.out.lt hi)))
  have K8:Hid (Kept Z wx w8):=Zh (K6.out.trans (Kept.of_below B7.out));have LZ8:Hid (∀k,Z k→(fun i=>Z i∨i=gw∨i=gn∨(Value.slice AK nK cK).ownBlock=some i) k):=Zh (fun k hk=> .inl hk);have EID:Hid (nd.id=id):=Zh (find_some FD.out).2;clear WB6 H6 K6 B7 GN LZ;have e0:=WB8.out.c0;by_cases h1:t.kind=1
  ·have e1:=WB8.out.c1;have e2:=WB8.out.c2;have e3:=WB8.out.c3;have e4:=WB8.out.c4;have e5:=WB8.out.c5;have d0:=NB.out.c0;have d1:=NB.out.c1;have d2:=NB.out.c2;have d3:=NB.out.c3;have d4:=NB.out.c4;have d5:=NB.out.c5;have d6:=NB.out.c6;have d7:=NB.out.c7;have hq:(t.kind==1)=true:=(by rw[h1];rfl);have CU:=Zh (wupd_any t HK.out f HF.out h1 H8.out MW.out HR.out HW.out HC.out (by rw[hmn];exact hn) (by omega) (nd:=nd) (AV:=AV) (AK:=AK) (nV:=nV) (cV:=cV) (nK:=nK) (cK:=cK) (by rw[EID.out];exact FD.out) AT.out OK7.out (fun i hi=> .inr (.inr (.inr hi))));have RS:Hid (res=(takenP (recF f) (er t) nd.id m.1,m.2)):=Zh (by rw[←HRES.out,if_neg (by omega),EID.out]);have RO:Hid (okp→TakenOk (okF f) (er t) nd.id m.1):=Zh (fun e=>by rw[EID.out];exact(HOKP.out e).2 (by omega));clear h1;go_wp2_with fail;refine CU.out.mono ?_;rintro e w9 ⟨m9,s9,rfl,d9⟩;have D9:=Zh d9;clear d9;obtain⟨ev,hev⟩:∃ev,errV m9=ev:=⟨_,rfl⟩;rw[hev];go_wp2_with fail;go_ret;rw[←hev,RS.out];obtain⟨x1,x2,x3,x4⟩:=D9.out;exact⟨m9,_,m.2,s9,rfl,(H8.out.kept x1 x2).unbox LZ8.out,K8.out.trans (x2.less (fun k hk=> .inl (LZ8.out k hk))),fun e=>by rw[x3 e],fun ok=>x4 (RO.out ok)⟩
  ·have hq:(t.kind==1)=false:=beq_eq_false_iff_ne.2 h1;by_cases h2:t.kind=2
   ·have hq2:(t.kind==2)=true:=(by rw[h2];rfl);have e3:=WB8.out.c3;have d3:=NB.out.c3;have NDO:Hid ((ndOf m.1.1.l id).txt=nd.txt):=Zh (by unfold ndOf;rw[FD.out];rfl);have ET:Hid ((er t).txt=t.txt):=Zh (er_txt t);have TK:=Zh (taken_text (rec:=recF f) (id:=id) (s:=m.1) (x:=er t) (by rw[KD.out];exact h2));rw[NDO.out,ET.out] at TK;by_cases ht:nd.txt.toList=t.txt.toList
    ·have hq3:(nd.txt.toList==t.txt.toList)=true:=beq_iff_eq.2 ht;rw[if_neg (by rw[ht];simp)] at TK;have RS:Hid (res=(m.1,m.2)):=Zh (by rw[←HRES.out,if_neg (by omega),TK.out]);clear ht h1 h2;go_wp2_with fail;go_ret;rw[RS.out];exact⟨0,_,m.2,m.1,rfl,H8.out.unbox LZ8.out,K8.out,fun _=>rfl,fun _=>rfl⟩
    ·have hq3:(nd.txt.toList==t.txt.toList)=false:=beq_eq_false_iff_ne.2 ht;rw[if_pos ht] at TK;have RS:Hid (res=(doP m.1 (recText id t.txt),m.2)):=Zh (by rw[←HRES.out,if_neg (by omega),TK.out]);have RO:Hid (okp→OkD m.1 (recText id t.txt)):=Zh (fun e=>by
      have:=((HOKP.out e).2 (by omega)).1 (by rw[KD.out];exact h2) (by rw[NDO.out,ET.out];exact ht);rwa[ET.out] at this)
     have CT:Hid (∀wz,Below w8.heap.size w8 wz→Calls Tryz.prog 119 _ wz (PwV w B g p x vd (plZ (fun i=>Z i∨i=gw∨i=gn∨(Value.slice AK nK cK).ownBlock=some i) q (.slice (some ⟨gb,0,none⟩) (k+r) c)) m.1 (recText id t.txt) w8)):=Zh (fun wz hb=>(pw_text id t.txt (H8.out.pw.on hb) MW.out (by omega) (by omega) SZ.out.txt).mono (fun e w' d=>d.on hb));have p0:=H8.out.blk.c0;obtain⟨m3,hm3⟩:∃k,(applyD m.1.1 (recText id t.txt)).1=k:=⟨_,rfl⟩;have HM3:=Zh hm3;clear hm3 ht h1 h2;go_upto_region 10 with fail;go_region_held3 (fun w'=>w'.cell? ⟨q,0,none⟩=some (.pointer (some ⟨g,0,none⟩))∧w'.cell? ⟨gw,3,none⟩=some (.string t.txt)) (first|go_keep|exact K9) ((first
      |(go_at_call 119;refine(CT.out _ (by first|exact Below_drewN Ze _|exact Ze.drew|exact Ze)).mono ?_;rintro e w9 ⟨rfl,p9,k9⟩;rw[HM3.out];have H9:=Zh (H8.out.kept p9 k9);have KK9:Hid (Kept Z wx w9):=Zh (K8.out.trans (k9.less (fun k hk=> .inl (LZ8.out k hk))));have K9:=And.intro H9.out.blk.c0 (WB8.out.kept k9 (.inl (.inr (.inl rfl)))).c3;clear p9 k9;obtain⟨ev,hev⟩:∃ev,errV m3=ev:=⟨_,rfl⟩;rw[hev])
      |fail))
     all_goals
      go_wp2_with fail;go_ret;rw[←hev,RS.out];exact⟨m3,_,m.2,_,rfl,H9.out.unbox LZ8.out,KK9.out,fun _=>rfl,fun ok=>HM3.out.symm.trans (RO.out ok)⟩
   ·have hq2:(t.kind==2)=false:=beq_eq_false_iff_ne.2 h2;have RS:Hid (res=m):=Zh (by
     rw[←HRES.out];by_cases h3:t.kind=3
     ·rw[if_pos h3]
     ·rw[if_neg h3,taken_no (by rw[KD.out];exact h1) (by rw[KD.out];exact h2)])
    clear h1 h2;go_wp2_with fail;go_ret;rw[RS.out];exact⟨0,_,m.2,m.1,rfl,H8.out.unbox LZ8.out,K8.out,fun _=>rfl,fun _=>rfl⟩
 ·rw[err_ne hm0];go_wp2_with fail;go_ret;exact⟨m1,_,left,s1,by rw[err_ne hm0];rfl,H2.out.unbox LZ.out,K2.out,fun e=>absurd e hm0,fun ok=>HO2.out (HOKP.out ok).1⟩
variable{w wx w':World}{B g p q:Nat}{x:Dx}{vd v:Value}{Z:Nat→Prop}{s:Sg}{par beh:Int}{left:List Int}
theorem waddE_any(t:WV)(hk:PPatchC t.kids)(f:Nat)(hf:dW (er t)≤f)(h1:t.kind=1)(h:Pl w B g p x vd Z q par beh v left s wx)(hwf:WF s.1)(hr:∀w',But (pfoot p x g vd) w w'→WOk kW w' w'.heap.size t)(hw:WfW (er t))(hc:wtW (er t)≤1000)(hn:s.1.n+(szW (er t):Nat)≤90000)(hl:s.2.length+2000*szW (er t)+2000≤800000):
 Calls Tryz.prog 117 #[.pointer (some ⟨q,0,none⟩),.agg #[.int .i64 t.kind,.string t.tag,.string t.key,.string t.txt,.slice t.sa.A t.sa.n t.sa.c,.slice t.sk.A t.sk.n t.sk.c]] wx
  (DoneV w B g p x vd (plZ Z q v) (newP (recF f) par (nextP left beh) (er t) s) (NewOk (okF f) par (nextP left beh) (er t) s) wx):=by
 have q1:=err_neq_nil;have q2:=nil_neq_nil;have WB0:Hid (WtB (wx.alloc (.cells #[.int .i64 t.kind,.string t.tag,.string t.key,.string t.txt,.slice t.sa.A t.sa.n t.sa.c,.slice t.sk.A t.sk.n t.sk.c] 69)) wx.heap.size t):=Zh (WtB.new wx t);have BX:Hid (Below wx.heap.size wx (wx.alloc (.cells #[.int .i64 t.kind,.string t.tag,.string t.key,.string t.txt,.slice t.sa.A t.sa.n t.sa.c,.slice t.sk.A t.sk.n t.sk.c] 69))):=Zh (Zb _ _);have H:=Zh h;have HWF:=Zh hwf;have HR:=Zh hr;have HW:=Zh hw;have HK:=Zh hk;have SZ:=szw_of hw;have z1:=SZ.tag;have z2:=SZ.key;have z4:t.attrs.length≤1000∧wtL (erL t.kids)≤1000:=by
  rw[er_parts,wtW] at hc;omega
 have HA:=Zh (newA_wf SZ.att);have SZK:szW (er t)=1+szL (erL t.kids):=(by rw[szW_kids,er_kids]);obtain⟨zk,hzk⟩:∃zk,szL (erL t.kids)=zk:=⟨_,rfl⟩;rw[SZK,hzk] at hn hl;have HZK:=Zh hzk;have HC:=Zh z4.2;have z5:=z4.1;obtain⟨f2,hf2⟩:∃f2,f=f2+1:=⟨f-1,by rw[dW_kids] at hf;omega⟩;have HF2:Hid (dL (erL t.kids)≤f2):=Zh (by rw[dW_kids,er_kids] at hf;omega);have HTX:Hid (t.txt=⟨#[]⟩):=Zh (by have:=el_txt hw (by rw[er_parts];exact h1);rw[er_parts] at this;exact this);have KD:Hid ((er t).kind=1):=Zh (by rw[er_parts];exact h1);clear h hwf hr hw hk SZ hc SZK hzk z4 hf h1;go_enter Tryz.func117,Tryz.ntmps117;go_upto_region 1 with fail;generalize wx.alloc (.cells #[.int .i64 t.kind,.string t.tag,.string t.key,.string t.txt,.slice t.sa.A t.sa.n t.sa.c,.slice t.sk.A t.sk.n t.sk.c] 69)=w1 at WB0 BX⊢;obtain⟨gw,hgw⟩:∃k,wx.heap.size=k:=⟨_,rfl⟩;have GE:Hid (wx.heap.size≤gw):=Zh (by omega);have GL:Hid (gw<w1.heap.size):=Zh (by rw[←hgw];exact WB0.out.lt);rw[hgw] at WB0⊢;clear hgw;have H1:Hid (Pl w B g p x vd (fun k=>Z k∨k=gw) q par beh v left s w1):=Zh (H.out.box BX.out (fun k hk=>hk.imp id (fun e=>by subst e;exact⟨GE.out,GL.out⟩)));have K1:Hid (Kept (plZ Z q v) wx w1):=Zh (Kept.of_below BX.out);have GZ:Hid (plZ (fun k=>Z k∨k=gw) q v gw):=Zh (.inl (.inr rfl));have LZ:Hid (∀k,Z k→(fun k=>Z k∨k=gw) k):=Zh (fun k hk=> .inl hk);have CN:=Zh (pw_next H1.out.pw (by omega));have p1:=H1.out.blk.c1;have e1:=WB0.out.c1;have e2:=WB0.out.c2;have CA:=Zh (wadd_any t.tag ⟨#[]⟩ t.key H1.out HWF.out (by omega) (by omega) z1 z0_small z2);clear BX GL GE H;go_upto_region 2 with(go_at_call 51;refine CN.out.mono ?_;rintro e w' ⟨rfl,rfl⟩);go_upto_region 3 with(go_at_call 118;refine CA.out.mono ?_;rintro e w2 ⟨m,s2,rfl,p2,k2,hs2,ho2⟩);have H2:=Zh (H1.out.kept p2 k2);have K2:Hid (Kept (plZ Z q v) wx w2):=Zh (K1.out.trans (k2.less (plZ_less LZ.out)));have WB2:=Zh (WB0.out.kept k2 GZ.out);have HO2:=Zh ho2;have HS2:=Zh hs2;clear CN CA p1 e1 e2 p2 k2 ho2 hs2 H1 K1 WB0;by_cases hm0:m=0
 ·subst hm0;rw[show errV 0 = .nilIface from rfl];have E2:Hid (s2=new2 par (nextP left beh) (er t) s):=Zh (by rw[new2_er,HTX.out];exact(HS2.out rfl));have W2:Hid (WF s2.1):=Zh (by rw[HS2.out rfl];exact doP_wf (doP_wf HWF.out _) _);have n2:s2.1.n≤s.1.n+1:=by
   rw[HS2.out rfl,doP_n2 _ (show(2:Int)≠1 by decide)];exact doP_n _ _
  have l2:s2.2.length≤s.2.length+2:=by
   rw[HS2.out rfl];have a:=doP_len s (recMake (s.1.n+1) t.tag ⟨#[]⟩ t.key);have b:=doP_len (doP s (recMake (s.1.n+1) t.tag ⟨#[]⟩ t.key)) (recPut (s.1.n+1) par (nextP left beh));omega
  have WT:=Zh (H2.out.pw.read HR.out);have CW:=Zh (P3.new_any t.attrs t.sa.A t.sa.n t.sa.c w2 WT.out.al (by have:=WT.out.al;omega) (p3holds WT.out.ah));have e4:=WB2.out.c4;go_upto_region 6 with(go_at_call 145;refine CW.out.mono ?_;intro e w3 hg3;obtain⟨A3,n3,c3,rfl,ha3,b3⟩:=gives_aok hg3);have AT:=Zh ha3;have HLN:(P3.newA t.attrs).length=n3:=ha3.len;have hn3:n3≤1000000:=(by have:=P3.newA_len t.attrs;omega);have H3:=Zh (H2.out.below b3);have K3:Hid (Kept (plZ Z q v) wx w3):=Zh (K2.out.trans (Kept.of_below b3));have WB3:=Zh (WB2.out.below b3);clear CW e4 ha3 b3 H2 K2 WB2 HO2 HS2 WT;obtain⟨sE,hsE⟩:∃sE,new3 par (nextP left beh) (er t) s=sE:=⟨_,rfl⟩;have HSE:=Zh hsE;by_cases hz:P3.newA t.attrs=[]
  ·have h0:n3=0:=(by rw[←HLN,hz];rfl);subst h0;have EE:Hid (sE=s2):=Zh (by rw[←hsE,new3_no hz,E2.out]);have HE:Hid (Pl w B g p x vd (fun k=>Z k∨k=gw) q par beh v left sE w3):=Zh (by rw[EE.out];exact H3.out);have WE:Hid (WF sE.1):=Zh (by rw[EE.out];exact W2.out);have nE:sE.1.n≤s.1.n+1:=(by rw[EE.out];exact n2);have lE:sE.2.length≤s.2.length+3:=(by rw[EE.out];omega);clear H3 W2 n2 l2 hsE HLN hz;have PP:Hid (∀wz,Below w3.heap.size w3 wz→PPre w B g p x vd (plZ (fun k=>Z k∨k=gw) q v) sE wz (s.1.n+1) [] none 0 0 t.sk.A t.sk.n t.sk.c t.kids):=Zh (fun wz hb=>{
    pw:=(HE.out.below hb).pw
    wf:=WE.out
    p0:=.inl (by have:=HWF.out.n0;omega)
    kids:=fun _ h=>by cases h
    nod:=List.nodup_nil
    len:=rfl
    cap:=Zl
    cm:=Nat.zero_le _
    nil:=fun _=>rfl
    few:=by omega
    ids:=fun _ _=>Kind.Holds.nil _ _ _
    want:=fun w' hb'=>by
     have:=HR.out w' hb';exact⟨this.kl,this.kc,this.kz,this.kh,this.ks⟩
    wfw:=fun k hk=>wfw_kids HW.out _ (by rw[er_kids];exact er_mem hk)
    cnt:=HC.out
    num:=by rw[HZK.out];omega
    log:=by rw[HZK.out];omega})
   have CPT:Hid (∀wz,Below w3.heap.size w3 wz→Calls Tryz.prog 32 #[.pointer (some ⟨g,0,none⟩),.pointer (some ⟨p,0,none⟩),.int .i64 (s.1.n+1),.slice none 0 0,.int .i64 0,.slice t.sk.A t.sk.n t.sk.c] wz (DoneV w B g p x vd (plZ (fun k=>Z k∨k=gw) q v) (newP (recF f) par (nextP left beh) (er t) s) (NewOk (okF f) par (nextP left beh) (er t) s) w3)):=Zh (fun wz hb=>by
    have e1:newP (recF f) par (nextP left beh) (er t) s=patchP (f2+1) sE (s.1.n+1) [] 0 (erL t.kids):=by
     rw[new_kid KD.out,kids_new3 HWF.out,HSE.out,hf2,er_kids];rfl
    have e2:NewOk (okF f) par (nextP left beh) (er t) s→PatchOk (f2+1) sE (s.1.n+1) [] 0 (erL t.kids):=fun ok=>by
     have:=ok.2.2.2 KD.out;rw[kids_new3 HWF.out,HSE.out,hf2,er_kids] at this;exact this
    rw[e1];refine(HK.out f2 HF2.out _ _ _ _ _ _ _ _ _ _ _ _ _ _ 0 _ _ _ (PP.out wz hb)).mono ?_;intro e w' d;exact(d.from_ (Kept.of_below hb)).and_ e2)
   have p0:=HE.out.blk.c0;have p1:=HE.out.blk.c1;have e5:=WB3.out.c5;go_upto_region 10 with fail;go_region_held3 (fun w'=>w'.cell? ⟨q,0,none⟩=some (.pointer (some ⟨g,0,none⟩))∧w'.cell? ⟨q,1,none⟩=some (.pointer (some ⟨p,0,none⟩))∧w'.cell? ⟨gw,5,none⟩=some (.slice t.sk.A t.sk.n t.sk.c)) (first|go_keep|exact K9) ((first
    |(go_at_call 32;refine(CPT.out _ (by first|exact Below_drewN Ze _|exact Ze.drew|exact Ze)).mono ?_;rintro e w6 ⟨m6,s6,rfl,d6⟩;have D6:=Zh d6;clear d6;have K9:w6.cell? ⟨q,0,none⟩=some (.pointer (some ⟨g,0,none⟩))∧w6.cell? ⟨q,1,none⟩=some (.pointer (some ⟨p,0,none⟩))∧w6.cell? ⟨gw,5,none⟩=some (.slice t.sk.A t.sk.n t.sk.c):=⟨(HE.out.blk.kept D6.out.2.1 (.inr (.inl rfl))).c0,(HE.out.blk.kept D6.out.2.1 (.inr (.inl rfl))).c1,(WB3.out.kept D6.out.2.1 GZ.out).c5⟩;obtain⟨ev,hev⟩:∃ev,errV m6=ev:=⟨_,rfl⟩;rw[hev])
    |fail))
   all_goals
    go_wp2_with fail;go_ret;rw[←hev];exact DoneV.unbox (wz:=w3) ⟨m6,s6,rfl,D6.out⟩ K3.out LZ.out
  ·have h0:¬n3=0:=fun e=>hz (List.length_eq_zero_iff.1 (HLN.trans e))
   have q3:((n3:Int)>0):=(by omega);have q4:(0:Int)<(n3:Int):=(by omega);have EE:Hid (sE=doP s2 (recAttr (s.1.n+1) (P3.newA t.attrs))):=Zh (by rw[←hsE,new3_at hz,E2.out]);have CT:=Zh (pw_attr (s.1.n+1) (P3.newA t.attrs) A3 n3 c3 H3.out.pw W2.out (by omega) (by omega) AT.out HA.out hn3);have p0:=H3.out.blk.c0;obtain⟨m3,hm3⟩:∃k,(applyD s2.1 (recAttr (s.1.n+1) (P3.newA t.attrs))).1=k:=⟨_,rfl⟩;have HM3:=Zh hm3;have HZ:=Zh hz;clear h0 HLN hm3 hsE hz;go_upto_region 8 with(go_at_call 119;refine CT.out.mono ?_;rintro e w4 ⟨rfl,p4,k4⟩;rw[HM3.out]);have H4:=Zh (H3.out.kept p4 k4);have K4:Hid (Kept (plZ Z q v) wx w4):=Zh (K3.out.trans (k4.less (plZ_less LZ.out)));have WB4:=Zh (WB3.out.kept k4 GZ.out);clear CT p0 p4 k4 H3 K3 WB3;by_cases hm0:m3=0
   ·subst hm0;rw[show errV 0 = .nilIface from rfl];have HE:Hid (Pl w B g p x vd (fun k=>Z k∨k=gw) q par beh v left sE w4):=Zh (by rw[EE.out];exact H4.out);have WE:Hid (WF sE.1):=Zh (by rw[EE.out];exact doP_wf W2.out _);have nE:sE.1.n≤s.1.n+1:=(by rw[EE.out,doP_n2 _ (show(4:Int)≠1 by decide)];exact n2);have lE:sE.2.length≤s.2.length+3:=(by rw[EE.out];have:=doP_len s2 (recAttr (s.1.n+1) (P3.newA t.attrs));omega);clear H4 W2 n2 l2;have PP:Hid (∀wz,Below w4.heap.size w4 wz→PPre w B g p x vd (plZ (fun k=>Z k∨k=gw) q v) sE wz (s.1.n+1) [] none 0 0 t.sk.A t.sk.n t.sk.c t.kids):=Zh (fun wz hb=>{
     pw:=(HE.out.below hb).pw
     wf:=WE.out
     p0:=.inl (by have:=HWF.out.n0;omega)
     kids:=fun _ h=>by cases h
     nod:=List.nodup_nil
     len:=rfl
     cap:=Zl
     cm:=Nat.zero_le _
     nil:=fun _=>rfl
     few:=by omega
     ids:=fun _ _=>Kind.Holds.nil _ _ _
     want:=fun w' hb'=>by
      have:=HR.out w' hb';exact⟨this.kl,this.kc,this.kz,this.kh,this.ks⟩
     wfw:=fun k hk=>wfw_kids HW.out _ (by rw[er_kids];exact er_mem hk)
     cnt:=HC.out
     num:=by rw[HZK.out];omega
     log:=by rw[HZK.out];omega})
    have CPT:Hid (∀wz,Below w4.heap.size w4 wz→Calls Tryz.prog 32 #[.pointer (some ⟨g,0,none⟩),.pointer (some ⟨p,0,none⟩),.int .i64 (s.1.n+1),.slice none 0 0,.int .i64 0,.slice t.sk.A t.sk.n t.sk.c] wz (DoneV w B g p x vd (plZ (fun k=>Z k∨k=gw) q v) (newP (recF f) par (nextP left beh) (er t) s) (NewOk (okF f) par (nextP left beh) (er t) s) w4)):=Zh (fun wz hb=>by
     have e1:newP (recF f) par (nextP left beh) (er t) s=patchP (f2+1) sE (s.1.n+1) [] 0 (erL t.kids):=by
      rw[new_kid KD.out,kids_new3 HWF.out,HSE.out,hf2,er_kids];rfl
     have e2:NewOk (okF f) par (nextP left beh) (er t) s→PatchOk (f2+1) sE (s.1.n+1) [] 0 (erL t.kids):=fun ok=>by
      have:=ok.2.2.2 KD.out;rw[kids_new3 HWF.out,HSE.out,hf2,er_kids] at this;exact this
     rw[e1];refine(HK.out f2 HF2.out _ _ _ _ _ _ _ _ _ _ _ _ _ _ 0 _ _ _ (PP.out wz hb)).mono ?_;intro e w' d;exact(d.from_ (Kept.of_below hb)).and_ e2)
    have p0:=HE.out.blk.c0;have p1:=HE.out.blk.c1;have e5:=WB4.out.c5;go_upto_region 10 with fail;go_region_held3 (fun w'=>w'.cell? ⟨q,0,none⟩=some (.pointer (some ⟨g,0,none⟩))∧w'.cell? ⟨q,1,none⟩=some (.pointer (some ⟨p,0,none⟩))∧w'.cell? ⟨gw,5,none⟩=some (.slice t.sk.A t.sk.n t.sk.c)) (first|go_keep|exact K9) ((first
     |(go_at_call 32;refine(CPT.out _ (by first|exact Below_drewN Ze _|exact Ze.drew|exact Ze)).mono ?_;rintro e w6 ⟨m6,s6,rfl,d6⟩;have D6:=Zh d6;clear d6;have K9:w6.cell? ⟨q,0,none⟩=some (.pointer (some ⟨g,0,none⟩))∧w6.cell? ⟨q,1,none⟩=some (.pointer (some ⟨p,0,none⟩))∧w6.cell? ⟨gw,5,none⟩=some (.slice t.sk.A t.sk.n t.sk.c):=⟨(HE.out.blk.kept D6.out.2.1 (.inr (.inl rfl))).c0,(HE.out.blk.kept D6.out.2.1 (.inr (.inl rfl))).c1,(WB4.out.kept D6.out.2.1 GZ.out).c5⟩;obtain⟨ev,hev⟩:∃ev,errV m6=ev:=⟨_,rfl⟩;rw[hev])
     |fail))
    all_goals
     go_wp2_with fail;go_ret;rw[←hev];exact DoneV.unbox (wz:=w4) ⟨m6,s6,rfl,D6.out⟩ K4.out LZ.out
   ·rw[err_ne hm0];go_wp2_with fail;go_ret;have:=DoneV.no (s1:=newP (recF f) par (nextP left beh) (er t) s) (ok:=NewOk (okF f) par (nextP left beh) (er t) s) hm0 (H4.out.unbox LZ.out).pw K4.out (fun ok=>by
     obtain⟨_,_,o3,_⟩:=ok;have:=o3 (by rw[er_attrs];exact HZ.out);rw[er_attrs] at this;rw[←E2.out] at this;exact apply_if HM3.out hm0 this)
    rwa[err_ne hm0] at this
 ·rw[err_ne hm0];go_wp2_with fail;go_ret;have:=DoneV.no (s1:=newP (recF f) par (nextP left beh) (er t) s) (ok:=NewOk (okF f) par (nextP left beh) (er t) s) hm0 (H2.out.unbox LZ.out).pw K2.out (fun ok=>hm0 (HO2.out (by
   obtain⟨o1,o2,_,_⟩:=ok;have e1:(er t).tag=t.tag∧(er t).txt=t.txt∧(er t).key=t.key:=(by rw[er_parts];exact⟨rfl,rfl,rfl⟩);rw[e1.1,e1.2.1,e1.2.2] at o1 o2;rw[HTX.out] at o1 o2;exact⟨o1,o2⟩)))
  rwa[err_ne hm0] at this
variable{w wx w':World}{B g p q:Nat}{x:Dx}{vd v:Value}{Z:Nat→Prop}{s:Sg}{par beh:Int}{left:List Int}
theorem LayV.unbox{Z':Nat→Prop}{r:Sg×List Int}{ok:Prop}{e:Ending}{wz:World}(d:LayV w B g p x vd Z' q par beh r ok wz e w')(k:Kept Z wx wz)(hZ:∀k,Z k→Z' k):LayV w B g p x vd Z q par beh r ok wx e w':=by
 obtain⟨c,v',left',s',h1,h2,h3,h4,h5⟩:=d;exact⟨c,v',left',s',h1,h2.unbox hZ,k.trans (h3.less hZ),h4,h5⟩
theorem LayV.and_{r:Sg×List Int}{ok ok':Prop}{e:Ending}(d:LayV w B g p x vd Z q par beh r ok wx e w')(h:ok'→ok):LayV w B g p x vd Z q par beh r ok' wx e w':=by
 obtain⟨c,v',left',s',h1,h2,h3,h4,h5⟩:=d;exact⟨c,v',left',s',h1,h2,h3,h4,fun h6=>h5 (h h6)⟩
theorem LayV.done{s1:Sg}{ok:Prop}{e:Ending}{wz:World}(h:Pl w B g p x vd Z q par beh v left s wz)(d:DoneV w B g p x vd (plZ Z q v) s1 ok wz e w'):LayV w B g p x vd Z q par beh (s1,left) ok wz e w':=by
 obtain⟨c,s',h1,h2,h3,h4,h5⟩:=d;exact⟨c,v,left,s',h1,h.kept h2 h3,h3.out,fun e=>by rw[h4 e],h5⟩
theorem pl_none(h:Pl w B g p x vd Z q par beh v left s wx):Pl w B g p x vd Z q par beh (.slice none 0 0) [] s (wx.setCell ⟨q,3,none⟩ (.slice none 0 0))∧Kept Z wx (wx.setCell ⟨q,3,none⟩ (.slice none 0 0)):=by
 have hq:=h.blk;unfold PlB at hq;have hB:But (fun i=>i=q) wx (wx.setCell ⟨q,3,none⟩ (.slice none 0 0)):=But.setCell (S:=fun i=>i=q) (p:=⟨q,3,none⟩) (But.refl _ _) (fun _=>rfl) _;have hA:NoA wx (fun i=>i=q):=fun i cur fr hi hc=>by
  subst hi;exact heap_ne hq hc (by decide) rfl
 refine⟨⟨(h.pw.turn hB (fun i hi=>by subst hi;exact h.qn) (fun i hi _=>by subst hi;exact .inr (.inl rfl)) hA).less (fun i hi=>?_),?_,Kind.Own.nil kI _ _,h.qn,h.qz,fun k hk=>by cases hk⟩,⟨_,hB,fun i hi e=>by subst e;exact h.qz hi,hA⟩⟩
 ·rcases hi with hi|hi|hi
  ·exact .inl hi
  ·exact .inr (.inl hi)
  ·cases hi
 ·unfold PlB;exact heap_set hq 3 _
theorem wlay_yes(t:WV)(hk:PPatchC t.kids)(f:Nat)(hf:dW (er t)≤f)(h4:t.kind≠4)(h:Pl w B g p x vd Z q par beh v left s wx)(hwf:WF s.1)(hr:∀w',But (pfoot p x g vd) w w'→WOk kW w' w'.heap.size t)(hw:WfW (er t))(hc:wtW (er t)≤1000)(hn:s.1.n+(szW (er t):Nat)≤90000)(hl:s.2.length+2000*szW (er t)+2000≤800000)
 {id:Int} (h0:id≠0) (hid:id∈left) (few:left.length≤250) (hmw:WF (moveP s par left beh id (left.idxOf id)).1.1) (hmh:hasL (moveP s par left beh id (left.idxOf id)).1.1.l id=true)
 {res:Sg×List Int} {okp:Prop} (hres:(if t.kind=3 then moveP s par left beh id (left.idxOf id) else(takenP (recF f) (er t) id (moveP s par left beh id (left.idxOf id)).1,(moveP s par left beh id (left.idxOf id)).2))=res)
 (hokp:okp→(MoveOk s par left beh id (left.idxOf id)∧(t.kind≠3→TakenOk (okF f) (er t) id (moveP s par left beh id (left.idxOf id)).1))):
 Calls Tryz.prog 79 #[.pointer (some ⟨q,0,none⟩),.agg #[.int .i64 t.kind,.string t.tag,.string t.key,.string t.txt,.slice t.sa.A t.sa.n t.sa.c,.slice t.sk.A t.sk.n t.sk.c],.int .i64 id] wx (LayV w B g p x vd Z q par beh res okp wx):=by
 have WB0:Hid (WtB (wx.alloc (.cells #[.int .i64 t.kind,.string t.tag,.string t.key,.string t.txt,.slice t.sa.A t.sa.n t.sa.c,.slice t.sk.A t.sk.n t.sk.c] 69)) wx.heap.size t):=Zh (WtB.new wx t);have BX:Hid (Below wx.heap.size wx (wx.alloc (.cells #[.int .i64 t.kind,.string t.tag,.string t.key,.string t.txt,.slice t.sa.A t.sa.n t.sa.c,.slice t.sk.A t.sk.n t.sk.c] 69))):=Zh (Zb _ _);have H:=Zh h;have CT:Hid (∀(Z':Nat→Prop) (w1:World),Pl w B g p x vd Z' q par beh v left s w1→Calls Tryz.prog 116 #[.pointer (some ⟨q,0,none⟩),.agg #[.int .i64 t.kind,.string t.tag,.string t.key,.string t.txt,.slice t.sa.A t.sa.n t.sa.c,.slice t.sk.A t.sk.n t.sk.c],.int .i64 id] w1 (LayV w B g p x vd Z' q par beh res okp w1)):=Zh (fun Z' w1 h'=>by
  have:=wtake_any t hk f hf h4 h' hwf hr hw hc hn hl hid few hmw hmh;rw[hres] at this;exact this.mono (fun e w' d=>d.and_ hokp))
 have q0:(id != 0)=true:=(by simpa using h0);clear h hk hf h4 hwf hr hw hc hn hl hid few hmw hmh hres hokp h0;go_enter Tryz.func79,Tryz.ntmps79;go_upto_region 1 with fail;generalize wx.alloc (.cells #[.int .i64 t.kind,.string t.tag,.string t.key,.string t.txt,.slice t.sa.A t.sa.n t.sa.c,.slice t.sk.A t.sk.n t.sk.c] 69)=w1 at WB0 BX⊢;obtain⟨gw,hgw⟩:∃k,wx.heap.size=k:=⟨_,rfl⟩;have GE:Hid (wx.heap.size≤gw):=Zh (by omega);have GL:Hid (gw<w1.heap.size):=Zh (by rw[←hgw];exact WB0.out.lt);rw[hgw] at WB0⊢;clear hgw;have H1:Hid (Pl w B g p x vd (fun k=>Z k∨k=gw) q par beh v left s w1):=Zh (H.out.box BX.out (fun k hk=>hk.imp (fun e=>e) (fun e=>by subst e;exact⟨GE.out,GL.out⟩)));have K1:Hid (Kept Z wx w1):=Zh (Kept.of_below BX.out);have KP1:Hid (Kept (plZ Z q v) wx w1):=Zh (Kept.of_below BX.out);have LZ:Hid (∀k,Z k→(fun k=>Z k∨k=gw) k):=Zh (fun k hk=> .inl hk);have e0:=WB0.out.c0;clear BX GL GE H;have e1:=WB0.out.c1;have e2:=WB0.out.c2;have e3:=WB0.out.c3;have e4:=WB0.out.c4;have e5:=WB0.out.c5;have CU:=Zh (CT.out _ _ H1.out);clear CT;go_wp2_with fail;refine CU.out.mono ?_;rintro e w9 ⟨m9,v9,l9,s9,rfl,d9⟩;have D9:=Zh d9;clear d9 CU;obtain⟨ev,hev⟩:∃ev,errV m9=ev:=⟨_,rfl⟩;rw[hev];go_wp2_with fail;go_ret;rw[←hev];exact LayV.unbox (wz:=w1) ⟨m9,v9,l9,s9,rfl,D9.out⟩ K1.out LZ.out
theorem wlay_no(t:WV)(hk:PPatchC t.kids)(f:Nat)(hf:dW (er t)≤f)(h:Pl w B g p x vd Z q par beh v left s wx)(hwf:WF s.1)(hr:∀w',But (pfoot p x g vd) w w'→WOk kW w' w'.heap.size t)(hw:WfW (er t))(hc:wtW (er t)≤1000)(hn:s.1.n+(szW (er t):Nat)≤90000)(hl:s.2.length+2000*szW (er t)+2000≤800000)
 {res:Sg×List Int} {okp:Prop} (hres:(if t.kind=4 then(s,[]) else if t.kind=3 then(s,left) else(newP (recF f) par (nextP left beh) (er t) s,left))=res)
 (hokp:okp→t.kind≠4→t.kind≠3→NewOk (okF f) par (nextP left beh) (er t) s):
 Calls Tryz.prog 79 #[.pointer (some ⟨q,0,none⟩),.agg #[.int .i64 t.kind,.string t.tag,.string t.key,.string t.txt,.slice t.sa.A t.sa.n t.sa.c,.slice t.sk.A t.sk.n t.sk.c],.int .i64 0] wx (LayV w B g p x vd Z q par beh res okp wx):=by
 have WB0:Hid (WtB (wx.alloc (.cells #[.int .i64 t.kind,.string t.tag,.string t.key,.string t.txt,.slice t.sa.A t.sa.n t.sa.c,.slice t.sk.A t.sk.n t.sk.c] 69)) wx.heap.size t):=Zh (WtB.new wx t);have BX:Hid (Below wx.heap.size wx (wx.alloc (.cells #[.int .i64 t.kind,.string t.tag,.string t.key,.string t.txt,.slice t.sa.A t.sa.n t.sa.c,.slice t.sk.A t.sk.n t.sk.c] 69))):=Zh (Zb _ _);have H:=Zh h;have hkd:(er t).kind=t.kind:=(by rw[er_parts];rfl);have hsz:1≤szW (er t):=(by rw[szW_kids];omega);rcases wfw_kind hw with e1|e1|e1|e1
 ·rw[hkd] at e1;have hres':(newP (recF f) par (nextP left beh) (er t) s,left)=res:=(by rw[←hres,if_neg (by omega),if_neg (by omega)]);have CT:Hid (∀(Z':Nat→Prop) (w1:World),Pl w B g p x vd Z' q par beh v left s w1→Calls Tryz.prog 117 #[.pointer (some ⟨q,0,none⟩),.agg #[.int .i64 t.kind,.string t.tag,.string t.key,.string t.txt,.slice t.sa.A t.sa.n t.sa.c,.slice t.sk.A t.sk.n t.sk.c]] w1 (LayV w B g p x vd Z' q par beh res okp w1)):=Zh (fun Z' w1 h'=>by
   have:=waddE_any t hk f hf e1 h' hwf hr hw hc hn hl;rw[←hres'];exact this.mono (fun e w' d=>(LayV.done h' d).and_ (fun e=>hokp e (by omega) (by omega))))
  have q0:(t.kind==1)=true:=(by rw[e1];rfl);clear h hk hf hwf hr hw hc hn hl hres hres' hokp hkd hsz e1;go_enter Tryz.func79,Tryz.ntmps79;go_upto_region 1 with fail;generalize wx.alloc (.cells #[.int .i64 t.kind,.string t.tag,.string t.key,.string t.txt,.slice t.sa.A t.sa.n t.sa.c,.slice t.sk.A t.sk.n t.sk.c] 69)=w1 at WB0 BX⊢;obtain⟨gw,hgw⟩:∃k,wx.heap.size=k:=⟨_,rfl⟩;have GE:Hid (wx.heap.size≤gw):=Zh (by omega);have GL:Hid (gw<w1.heap.size):=Zh (by rw[←hgw];exact WB0.out.lt);rw[hgw] at WB0⊢;clear hgw;have H1:Hid (Pl w B g p x vd (fun k=>Z k∨k=gw) q par beh v left s w1):=Zh (H.out.box BX.out (fun k hk=>hk.imp (fun e=>e) (fun e=>by subst e;exact⟨GE.out,GL.out⟩)));have K1:Hid (Kept Z wx w1):=Zh (Kept.of_below BX.out);have KP1:Hid (Kept (plZ Z q v) wx w1):=Zh (Kept.of_below BX.out);have LZ:Hid (∀k,Z k→(fun k=>Z k∨k=gw) k):=Zh (fun k hk=> .inl hk);have e0:=WB0.out.c0;clear BX GL GE H;have e1:=WB0.out.c1;have e2:=WB0.out.c2;have e3:=WB0.out.c3;have e4:=WB0.out.c4;have e5:=WB0.out.c5;have CU:=Zh (CT.out _ _ H1.out);clear CT;go_wp2_with fail;refine CU.out.mono ?_;rintro e w9 ⟨m9,v9,l9,s9,rfl,d9⟩;have D9:=Zh d9;clear d9 CU;obtain⟨ev,hev⟩:∃ev,errV m9=ev:=⟨_,rfl⟩;rw[hev];go_wp2_with fail;go_ret;rw[←hev];exact LayV.unbox (wz:=w1) ⟨m9,v9,l9,s9,rfl,D9.out⟩ K1.out LZ.out
 ·rw[hkd] at e1;have hres':(newP (recF f) par (nextP left beh) (er t) s,left)=res:=(by rw[←hres,if_neg (by omega),if_neg (by omega)]);have htx:=tx_parts hw (by rw[hkd];exact e1);have htk:t.tag=⟨#[]⟩∧t.key=⟨#[]⟩:=by
   have:=tx_names hw (by rw[hkd];exact e1);rw[er_parts] at this;exact this
  have hat:P3.newA t.attrs=[]:=by
   have:=htx.2.2;rw[er_attrs] at this;rw[this];rfl
  have hnew:newP (recF f) par (nextP left beh) (er t) s=doP (doP s (recMake (s.1.n+1) ⟨#[]⟩ t.txt ⟨#[]⟩)) (recPut (s.1.n+1) par (nextP left beh)):=by
   rw[new_no (by rw[hkd];omega),new3_no hat,new2_er,htk.1,htk.2]
  have hsm:=(szw_of hw).txt;have CT:Hid (∀(Z':Nat→Prop) (w1:World),Pl w B g p x vd Z' q par beh v left s w1→Calls Tryz.prog 118 #[.pointer (some ⟨q,0,none⟩),.agg #[.int .i64 0,.int .i64 0,.int .i64 0,.int .i64 0,.string ⟨#[]⟩,.string t.txt,.string ⟨#[]⟩,.slice none 0 0]] w1 (LayV w B g p x vd Z' q par beh res okp w1)):=Zh (fun Z' w1 h'=>by
   have:=wadd_any ⟨#[]⟩ t.txt ⟨#[]⟩ h' hwf (by omega) (by omega) z0_small hsm z0_small;rw[←hres',hnew];exact this.mono (fun e w' d=>(LayV.done h' d).and_ (fun e=>by
    obtain⟨o1,o2,_,_⟩:=hokp e (by omega) (by omega);rw[er_parts] at o1 o2;simp only[PW.tag,PW.txt,PW.key] at o1 o2;rw[htk.1,htk.2] at o1 o2;exact⟨o1,o2⟩)))
  have q0:(t.kind==1)=false:=(by rw[e1];rfl);have q1:(t.kind==2)=true:=(by rw[e1];rfl);clear h hk hf hwf hr hw hc hn hl hres hres' hokp hkd hsz e1 htx htk hat hnew hsm;go_enter Tryz.func79,Tryz.ntmps79;go_upto_region 1 with fail;generalize wx.alloc (.cells #[.int .i64 t.kind,.string t.tag,.string t.key,.string t.txt,.slice t.sa.A t.sa.n t.sa.c,.slice t.sk.A t.sk.n t.sk.c] 69)=w1 at WB0 BX⊢;obtain⟨gw,hgw⟩:∃k,wx.heap.size=k:=⟨_,rfl⟩;have GE:Hid (wx.heap.size≤gw):=Zh (by omega);have GL:Hid (gw<w1.heap.size):=Zh (by rw[←hgw];exact WB0.out.lt);rw[hgw] at WB0⊢;clear hgw;have H1:Hid (Pl w B g p x vd (fun k=>Z k∨k=gw) q par beh v left s w1):=Zh (H.out.box BX.out (fun k hk=>hk.imp (fun e=>e) (fun e=>by subst e;exact⟨GE.out,GL.out⟩)));have K1:Hid (Kept Z wx w1):=Zh (Kept.of_below BX.out);have KP1:Hid (Kept (plZ Z q v) wx w1):=Zh (Kept.of_below BX.out);have LZ:Hid (∀k,Z k→(fun k=>Z k∨k=gw) k):=Zh (fun k hk=> .inl hk);have e0:=WB0.out.c0;clear BX GL GE H;have e3:=WB0.out.c3;have CU:=Zh (CT.out _ _ H1.out);clear CT;go_wp2_with fail;refine CU.out.mono ?_;rintro e w9 ⟨m9,v9,l9,s9,rfl,d9⟩;have D9:=Zh d9;clear d9 CU;obtain⟨ev,hev⟩:∃ev,errV m9=ev:=⟨_,rfl⟩;rw[hev];go_wp2_with fail;go_ret;rw[←hev];exact LayV.unbox (wz:=w1) ⟨m9,v9,l9,s9,rfl,D9.out⟩ K1.out LZ.out
 ·rw[hkd] at e1;have hres':(s,left)=res:=(by rw[←hres,if_neg (by omega),if_pos (by omega)]);have HRES:=Zh hres';have q0:(t.kind==1)=false:=(by rw[e1];rfl);have q1:(t.kind==2)=false:=(by rw[e1];rfl);have q2:(t.kind==4)=false:=(by rw[e1];rfl);clear h hk hf hwf hr hw hc hn hl hres hres' hokp hkd hsz e1;go_enter Tryz.func79,Tryz.ntmps79;go_upto_region 1 with fail;generalize wx.alloc (.cells #[.int .i64 t.kind,.string t.tag,.string t.key,.string t.txt,.slice t.sa.A t.sa.n t.sa.c,.slice t.sk.A t.sk.n t.sk.c] 69)=w1 at WB0 BX⊢;obtain⟨gw,hgw⟩:∃k,wx.heap.size=k:=⟨_,rfl⟩;have GE:Hid (wx.heap.size≤gw):=Zh (by omega);have GL:Hid (gw<w1.heap.size):=Zh (by rw[←hgw];exact WB0.out.lt);rw[hgw] at WB0⊢;clear hgw;have H1:Hid (Pl w B g p x vd (fun k=>Z k∨k=gw) q par beh v left s w1):=Zh (H.out.box BX.out (fun k hk=>hk.imp (fun e=>e) (fun e=>by subst e;exact⟨GE.out,GL.out⟩)));have K1:Hid (Kept Z wx w1):=Zh (Kept.of_below BX.out);have KP1:Hid (Kept (plZ Z q v) wx w1):=Zh (Kept.of_below BX.out);have LZ:Hid (∀k,Z k→(fun k=>Z k∨k=gw) k):=Zh (fun k hk=> .inl hk);have e0:=WB0.out.c0;clear BX GL GE H;go_wp2_with fail;go_ret;exact LayV.unbox (wz:=w1) ⟨0,v,left,s,rfl,H1.out,Kept.refl _ _,fun _=>HRES.out,fun _=>rfl⟩ K1.out LZ.out
 ·rw[hkd] at e1;have hres':(s,[])=res:=(by rw[←hres,if_pos (by omega)]);have HRES:=Zh hres';have q0:(t.kind==1)=false:=(by rw[e1];rfl);have q1:(t.kind==2)=false:=(by rw[e1];rfl);have q2:(t.kind==4)=true:=(by rw[e1];rfl);clear h hk hf hwf hr hw hc hn hl hres hres' hokp hkd hsz e1;go_enter Tryz.func79,Tryz.ntmps79;go_upto_region 1 with fail;generalize wx.alloc (.cells #[.int .i64 t.kind,.string t.tag,.string t.key,.string t.txt,.slice t.sa.A t.sa.n t.sa.c,.slice t.sk.A t.sk.n t.sk.c] 69)=w1 at WB0 BX⊢;obtain⟨gw,hgw⟩:∃k,wx.heap.size=k:=⟨_,rfl⟩;have GE:Hid (wx.heap.size≤gw):=Zh (by omega);have GL:Hid (gw<w1.heap.size):=Zh (by rw[←hgw];exact WB0.out.lt);rw[hgw] at WB0⊢;clear hgw;have H1:Hid (Pl w B g p x vd (fun k=>Z k∨k=gw) q par beh v left s w1):=Zh (H.out.box BX.out (fun k hk=>hk.imp (fun e=>e) (fun e=>by subst e;exact⟨GE.out,GL.out⟩)));have K1:Hid (Kept Z wx w1):=Zh (Kept.of_below BX.out);have KP1:Hid (Kept (plZ Z q v) wx w1):=Zh (Kept.of_below BX.out);have LZ:Hid (∀k,Z k→(fun k=>Z k∨k=gw) k):=Zh (fun k hk=> .inl hk);have e0:=WB0.out.c0;clear BX GL GE H;have f3:=H1.out.blk.fr 3;have c3:=H1.out.blk.c3;have PN:=Zh (pl_none H1.out);go_wp2_with fail;go_ret;exact LayV.unbox (wz:=w1) ⟨0,_,[],s,rfl,PN.out.1,PN.out.2,fun _=>HRES.out,fun _=>rfl⟩ K1.out LZ.out
def OlR(w:World)(l:List Nd)(ids:List Int)(n:Nat)(s5 s12:Value)(wr:World):Prop:=∃(k:Nat) (A1:Option Addr) (n1 c1:Nat),k≤n∧s12 = .int .i64 k∧s5 = .slice A1 n1 c1∧Hid (kO.Own wr w.heap.size (.slice A1 n1 c1) ((ids.take k).map (oldOf l)))∧Hid (Below w.heap.size w wr)
theorem olds_take{l:List Nd}{ids:List Int}{k:Nat}(hk:k<ids.length):(ids.take (k+1)).map (oldOf l)=(ids.take k).map (oldOf l)++[oldOf l ids[k]]:=by
 rw[List.take_succ_eq_append_getElem hk,List.map_append];rfl
theorem old_nd{l:List Nd}{i:Int}{nd:Nd}(h1:hasL l i=true→find l i=some nd)(h2:hasL l i=false→nd=⟨0,0,⟨#[]⟩,⟨#[]⟩,⟨#[]⟩,[],[],0⟩):oldOf l i=⟨nd.tag,nd.key⟩:=by
 unfold oldOf;cases hh:hasL l i with
 |true=>rw[h1 hh]
 |false=>
  rw[h2 hh];unfold hasL at hh;cases hf:find l i with
  |none=>rfl
  |some z=>rw[hf] at hh;cases hh
theorem wolds_any(ids:List Int)(A:Option Addr)(n c:Nat)(h:Pw w B g p x vd Z s wx)(hwf:WF s.1)(hh:kI.Holds wx wx.heap.size A ids)(hn:ids.length=n)(few:n≤300):
 Calls Tryz.prog 78 #[.pointer (some ⟨p,0,none⟩),.slice A n c] wx fun e w'=>∃A1 n1 c1,e = .returned (.slice A1 n1 c1)∧kO.Own w' wx.heap.size (.slice A1 n1 c1) (ids.map (oldOf s.1.l))∧Below wx.heap.size wx w':=by
 have H:=Zh h;have HH:=Zh hh;have LI:=Zh hn;have HWF:=Zh hwf;clear h hh hn hwf;go_enter Tryz.func78,Tryz.ntmps78;go_wp2_with fail;go_loopw [5,12] (fun s5 s12 wr=>OlR wx s.1.l ids n s5 s12 wr) (fun _ s12 _=>n-(intOf s12).toNat)
 case atStart=>exact⟨0,none,0,0,by omega,rfl,rfl,Zh (Kind.Own.nil kO wx _),Zh Ze⟩
 case round=>
  obtain⟨k,A1,n1,c1,hk,rfl,rfl,HO,HB⟩:=hrel;by_cases hkn:k<n
  ·have hkl:k<ids.length:=(by rw[LI.out];exact hkn);obtain⟨b,o,rfl,hb,g0⟩:=cell_int (HH.out.on HB.out) hkl;have MT:=Zh (olds_take (l:=s.1.l) hkl);have CN:=Zh (pw_node ids[k] (H.out.on HB.out) HWF.out);have NL:Hid (((ids.take k).map (oldOf s.1.l)).length≤300):=Zh (by rw[List.length_map,List.length_take];omega);have hbw:=HB.out.size;clear hb;generalize ids[k]=i at g0 CN MT;clear hkl;go_upto_region 6 with(go_at_call 54;refine CN.out.mono ?_;rintro e w7 ⟨nd,AV,nV,cV,AK,nK,cK,rfl,hn1,hn2,hn3,hn4,hn5,hn6⟩);have EO:=old_nd hn1 hn2;rw[EO] at MT;have B2:Hid (Below wx.heap.size wx (w7.alloc (.cells #[.int .i64 nd.id,.int .i64 nd.par,.string nd.tag,.string nd.txt,.string nd.key,.slice AV nV cV,.slice AK nK cK,.int .i64 nd.note] 48))):=Zh ((HB.out.trans (hn6.mono HB.out.size)).alloc (HB.out.trans (hn6.mono HB.out.size)).size _);have NB:Hid (NdB (w7.alloc (.cells #[.int .i64 nd.id,.int .i64 nd.par,.string nd.tag,.string nd.txt,.string nd.key,.slice AV nV cV,.slice AK nK cK,.int .i64 nd.note] 48)) w7.heap.size nd AV nV cV AK nK cK):=Zh (NdB.new w7 nd AV nV cV AK nK cK);have O2:=Zh ((HO.out.below hn6 (Zl)).alloc (.cells #[.int .i64 nd.id,.int .i64 nd.par,.string nd.tag,.string nd.txt,.string nd.key,.slice AV nV cV,.slice AK nK cK,.int .i64 nd.note] 48));clear CN HO hn1 hn2 hn3 hn4 hn5 hn6 EO HB hbw g0;generalize w7.heap.size=gn at NB⊢;generalize w7.alloc (.cells #[.int .i64 nd.id,.int .i64 nd.par,.string nd.tag,.string nd.txt,.string nd.key,.slice AV nV cV,.slice AK nK cK,.int .i64 nd.note] 48)=w2 at B2 NB O2⊢;have d2:=NB.out.c2;have d4:=NB.out.c4;have hb2:=B2.out.size;clear NB;go_wp2_with (at_builtin;refine kO.wp_app rfl _ _ rfl (v:=.slice A1 n1 c1) (l:=(ids.take k).map (oldOf s.1.l)) (m:=[⟨nd.tag,nd.key⟩]) (B:=wx.heap.size) rfl (O2.out.alloc _) rfl rfl (fun e=>by cases e) (Kind.Holds.lit (heap_alloc_new _ _) rfl) (by have:=NL.out;simp;omega) (by simp;omega) ?_;intro v' w5 hown' hgrow hat;obtain⟨A5,n5,c5,rfl,e1,e2,e3,e4,e5⟩:=hown'.slice;have B5:Hid (Below wx.heap.size wx w5):=Zh ((B2.out.alloc hb2 _).grown hgrow (by simp;omega) (fun k hk=>(O2.out.lt hk).1));have O5:Hid (kO.Own w5 wx.heap.size (.slice A5 n5 c5) ((ids.take (k+1)).map (oldOf s.1.l))):=Zh (by rw[MT.out];exact hown');clear hown' hgrow hat e1 e2 e3 e4 e5);go_roundw
   case rel=>exact⟨k+1,A5,n5,c5,by omega,by go_num,rfl,O5,B5⟩
   case measure=>simp[intOf];omega
  ·obtain rfl:k=n:=by omega
   have OU:Hid (kO.Own wr wx.heap.size (.slice A1 n1 c1) (ids.map (oldOf s.1.l))):=Zh (by have:=HO.out;rwa[List.take_of_length_le (by rw[LI.out];exact Zl)] at this);clear HO;go_wp2_with fail;go_ret;exact⟨A1,n1,c1,rfl,OU.out,HB.out⟩
def paw(f:Nat)(par beh:Int)(ids:List Int)(s:Sg)(ts:List WV)(i:Nat):Sg×List Int:=atW (recF f) par beh ids (ids.map (oldOf s.1.l)) (erL ts) s i
def ptk(ids:List Int)(s:Sg)(ts:List WV):List Int:=(foldM (ids.map (oldOf s.1.l)) (erL ts)).take
theorem ptk_len(ids:List Int)(s:Sg)(ts:List WV):(ptk ids s ts).length=ts.length:=by
 unfold ptk;rw[take_len,erL_len]
section
variable{w wx w1:World}{B g p q:Nat}{x:Dx}{vd v:Value}{Z Z':Nat→Prop}{s:Sg}{par beh:Int}{ids:List Int}{A A':Option Addr}{n c n' c':Nat}{ts:List WV}{f i:Nat}
theorem paw_succ(hi:i<ts.length):paw f par beh ids s ts (i+1)=stepW (recF f) par beh ids (er ts[i]) ((ptk ids s ts)[i]'(by rw[ptk_len];exact hi)) (paw f par beh ids s ts i):=by
 unfold paw;rw[atW_succ (by rw[erL_len];exact hi),er_at hi];rfl
structure PaF(s:Sg)(par:Int)(ids:List Int)(r:Sg×List Int)(t:WV):Prop where
 lv:Lv s par ids r.1
 sub:∀c∈r.2,c∈ids
 len:r.2.length≤200
 num:r.1.1.n+(szW (er t):Nat)≤90000
 log:r.1.2.length+2000*szW (er t)+2000≤800000
theorem pa_facts(beh:Int)(pre:PPre w B g p x vd Z s wx par ids A n c A' n' c' ts)(hi:i<ts.length):PaF s par ids (paw f par beh ids s ts i) ts[i]:=by
 have hie:i<(erL ts).length:=(by rw[erL_len];exact hi);have few:ids.length≤200:=(by rw[pre.len];exact pre.few);have h:=at_all2 (want:=erL ts) (beh:=beh) (old:=ids.map (oldOf s.1.l)) (rec_ok f) pre.wf pre.p0 pre.kids pre.nod (by simp) i (by omega);have hl:=at_len2 (want:=erL ts) (beh:=beh) (old:=ids.map (oldOf s.1.l)) (rec_ok f) (rec_len_ok f) pre.wf pre.p0 pre.kids pre.nod few (by simp) i (by omega);have hs:=szL_mem hie;rw[er_at hi] at hs;have hleft:(paw f par beh ids s ts i).2=selF ids (foldM (ids.map (oldOf s.1.l)) ((erL ts).take i)).left:=h.left;refine⟨h.lv,fun c hc=>?_,?_,?_,?_⟩
 ·rw[hleft] at hc;exact(selF_sub _ _).subset hc
 ·rw[hleft];exact Nat.le_trans (selF_sub _ _).length_le few
 ·exact num_n hl.1 hs pre.num
 ·exact num_log hl.2 hs pre.log
theorem pa_last(beh:Int)(pre:PPre w B g p x vd Z s wx par ids A n c A' n' c' ts):WF (paw f par beh ids s ts ts.length).1.1∧(paw f par beh ids s ts ts.length).1.1.n≤90000∧(paw f par beh ids s ts ts.length).1.2.length≤800000∧(paw f par beh ids s ts ts.length).2.length≤200:=by
 have few:ids.length≤200:=(by rw[pre.len];exact pre.few);have h:=at_all2 (want:=erL ts) (beh:=beh) (old:=ids.map (oldOf s.1.l)) (rec_ok f) pre.wf pre.p0 pre.kids pre.nod (by simp) ts.length (by rw[erL_len];exact Zl);have hl:=at_len2 (want:=erL ts) (beh:=beh) (old:=ids.map (oldOf s.1.l)) (rec_ok f) (rec_len_ok f) pre.wf pre.p0 pre.kids pre.nod few (by simp) ts.length (by rw[erL_len];exact Zl);have hleft:(paw f par beh ids s ts ts.length).2=selF ids (foldM (ids.map (oldOf s.1.l)) ((erL ts).take ts.length)).left:=h.left;have ht:(erL ts).take ts.length=erL ts:=(by rw[←erL_len,List.take_length]);rw[ht] at hl;have a1:(paw f par beh ids s ts ts.length).1.1.n≤s.1.n+(szL (erL ts):Nat):=hl.1;refine⟨h.lv.wf,by have:=pre.num;omega,num_end hl.2 pre.log,?_⟩;rw[hleft];exact Nat.le_trans (selF_sub _ _).length_le few
theorem pa_taken(beh:Int)(pre:PPre w B g p x vd Z s wx par ids A n c A' n' c' ts)(hi:i<ts.length)(h0:0≤(ptk ids s ts)[i]'(by rw[ptk_len];exact hi)):
 ∃(j:Nat) (a:Int),(ptk ids s ts)[i]'(by rw[ptk_len];exact hi)=(j:Int)∧ids[j]? = some a∧a∈(paw f par beh ids s ts i).2∧a∈ids∧ts[i].kind≠4:=by
 have hie:i<(erL ts).length:=(by rw[erL_len];exact hi);have h:=at_all2 (want:=erL ts) (beh:=beh) (old:=ids.map (oldOf s.1.l)) (rec_ok f) pre.wf pre.p0 pre.kids pre.nod (by simp) i (by omega);obtain⟨j,a,e1,e2,e3,e4⟩:=taken_at (old:=ids.map (oldOf s.1.l)) (ids:=ids) (by simp) hie h0;refine⟨j,a,e1,e2,?_,List.mem_of_getElem? e2,?_⟩
 ·have hleft:(paw f par beh ids s ts i).2=selF ids (foldM (ids.map (oldOf s.1.l)) ((erL ts).take i)).left:=h.left;rw[hleft];exact selF_mem e3 e2
 ·have e5:=er_at hi;rw[e5,er_parts] at e4;exact e4
theorem pa_end:gonesP (paw f par beh ids s ts ts.length).2 (paw f par beh ids s ts ts.length).1=patchP (f+1) s par ids beh (erL ts):=by
 rw[patch_succ,erL_len];rfl
theorem pa_ok(h:PatchOk (f+1) s par ids beh (erL ts))(hi:i<ts.length):StepOk (okF f) (recF f) par beh ids (er ts[i]) ((ptk ids s ts)[i]'(by rw[ptk_len];exact hi)) (paw f par beh ids s ts i):=by
 have:=h.1 i (by rw[erL_len];exact hi);rw[er_at hi] at this;exact this
theorem pa_okg(h:PatchOk (f+1) s par ids beh (erL ts)):GonesOk (paw f par beh ids s ts ts.length).2 (paw f par beh ids s ts ts.length).1:=by
 have:=h.2;rw[erL_len] at this;exact this
def pid(ids:List Int)(t:Int):Int:=if 0≤t then ids.getD t.toNat 0 else 0
theorem pa_at{wz:World}(t:Int)(ht:0≤t→t.toNat<ids.length)(hh:kI.Holds wz wz.heap.size A ids)(hn:ids.length=n):Calls Tryz.prog 80 #[.slice A n c,.int .i64 t] wz fun e w'=>e = .returned (.int .i64 (pid ids t))∧wz=w':=by
 by_cases h0:0≤t
 ·have hk:=ht h0;have e1:t=((t.toNat:Nat):Int):=(by omega);have e2:pid ids t=ids[t.toNat]:=by
   unfold pid;rw[if_pos h0];simp[List.getD,List.getElem?_eq_getElem hk]
  rw[e2];have:=at_yes19 ids A n c t.toNat wz hk hh hn;rwa[←e1] at this
 ·have e2:pid ids t=0:=(by unfold pid;rw[if_neg h0]);rw[e2];exact at_no ids A n c t wz (by omega)
theorem pa_lay(beh:Int)(hk:∀t∈ts,PPatchC t.kids)(hf:dL (erL ts)≤f)(pre:PPre w B g p x vd Z s wx par ids A n c A' n' c' ts)(hi:i<ts.length)(h:Pl w B g p x vd Z' q par beh v (paw f par beh ids s ts i).2 (paw f par beh ids s ts i).1 w1):
 Calls Tryz.prog 79 #[.pointer (some ⟨q,0,none⟩),.agg #[.int .i64 ts[i].kind,.string ts[i].tag,.string ts[i].key,.string ts[i].txt,.slice ts[i].sa.A ts[i].sa.n ts[i].sa.c,.slice ts[i].sk.A ts[i].sk.n ts[i].sk.c],.int .i64 (pid ids ((ptk ids s ts)[i]'(by rw[ptk_len];exact hi)))] w1
  (LayV w B g p x vd Z' q par beh (paw f par beh ids s ts (i+1)) (PatchOk (f+1) s par ids beh (erL ts)) w1):=by
 have F:=pa_facts (f:=f) beh pre hi;have hmem:ts[i]∈ts:=List.getElem_mem hi;have hw:=pre.wfw _ hmem;have hr:∀w',But (pfoot p x g vd) w w'→WOk kW w' w'.heap.size ts[i]:=fun w' hb=>(pre.want w' hb).ok _ hmem
 have hd:dW (er ts[i])≤f:=Nat.le_trans (dL_at (er_mem hmem)) hf;have hc:wtW (er ts[i])≤1000:=Nat.le_trans (wtL_mem (er_mem hmem)) pre.cnt;have hkd:(er ts[i]).kind=ts[i].kind:=(by rw[er_parts];rfl);have hok:PatchOk (f+1) s par ids beh (erL ts)→StepOk (okF f) (recF f) par beh ids (er ts[i]) ((ptk ids s ts)[i]'(by rw[ptk_len];exact hi)) (paw f par beh ids s ts i):=fun e=>pa_ok e hi
 have hst:=paw_succ (f:=f) (par:=par) (beh:=beh) (s:=s) (ids:=ids) hi;have hlen:=F.len;by_cases h0:0≤(ptk ids s ts)[i]'(by rw[ptk_len];exact hi)
 ·obtain⟨j,a,e1,e2,e3,e4,e5⟩:=pa_taken (f:=f) beh pre hi h0;have ep:pid ids ((ptk ids s ts)[i]'(by rw[ptk_len];exact hi))=a:=by
   unfold pid;rw[if_pos h0,getD_at e1 e2]
  rw[ep];have hp:par≠0:=by
   rcases pre.p0 with e|e
   ·exact e
   ·rw[e] at e4;cases e4
  have hm:=F.lv.move pre.wf F.sub beh a ((paw f par beh ids s ts i).2.idxOf a) e4;refine wlay_yes ts[i] (hk _ hmem) f hd e5 h F.lv.wf hr hw hc F.num F.log (F.lv.wf.tr.ne0 (F.lv.kid a e4).1) e3 (by omega) hm.wf (hm.kid a e4).1 ?_ ?_
  ·rw[hst];by_cases h3:ts[i].kind=3
   ·rw[if_pos h3,step_stay (by rw[hkd];exact h3) e1 e2]
   ·rw[if_neg h3,step_taken (by rw[hkd];exact e5) (by rw[hkd];exact h3) e1 e2]
  ·intro ok;have:=(hok ok (by rw[hkd];exact e5)).1 h0;rw[getD_at e1 e2,hkd] at this;exact this
 ·have ep:pid ids ((ptk ids s ts)[i]'(by rw[ptk_len];exact hi))=0:=by
   unfold pid;rw[if_neg h0]
  rw[ep];refine wlay_no ts[i] (hk _ hmem) f hd h F.lv.wf hr hw hc F.num F.log ?_ ?_
  ·rw[hst];by_cases h4:ts[i].kind=4
   ·rw[if_pos h4,step_four (by rw[hkd];exact h4)]
   ·rw[if_neg h4];by_cases h3:ts[i].kind=3
    ·rw[if_pos h3,step_skip (by rw[hkd];exact h3) h0]
    ·rw[if_neg h3,step_new (by rw[hkd];exact h4) (by rw[hkd];exact h3) h0]
  ·intro ok h4 h3;exact(hok ok (by rw[hkd];exact h4)).2 h0 (by rw[hkd];exact h3)
theorem old_size{d:D}(hw:WF d)(ids:List Int):∀o∈ids.map (oldOf d.l),o.tag.size≤maxLen∧o.key.size≤maxLen:=by
 intro o ho;obtain⟨i,_,rfl⟩:=List.mem_map.1 ho;unfold oldOf;cases hf:find d.l i with
 |none=>exact⟨by decide,by decide⟩
 |some z=>
  obtain⟨_,h2,h3⟩:=hw.keyt z (find_some hf).1;exact⟨by show z.tag.size≤_;unfold maxLen;omega,by show z.key.size≤_;unfold maxLen;omega⟩
end
structure PaR(w:World)(B g p:Nat)(x:Dx)(vd:Value)(Z Z':Nat→Prop)(wx:World)(q:Nat)(par beh:Int)(f:Nat)(ids:List Int)(s:Sg)(ts:List WV)(fb:Nat)(RS:Array Value)(TV:Value)(i:Nat)(v:Value)(wr:World):Prop where
 pl:Pl w B g p x vd Z' q par beh v (paw f par beh ids s ts i).2 (paw f par beh ids s ts i).1 wr
 kept:Kept Z wx wr
 res:wr.heap[fb]? = some (.cells RS 147 (0,0))
 tk:kI.Own wr 0 TV (ptk ids s ts)
theorem wpatch_of(ts:List WV)(hk:∀t∈ts,PPatchC t.kids):PPatchC ts:=by
 intro f hf w B g p x vd Z s wx par ids A n c beh A' n' c' pre;have q1:=err_neq_nil;have q2:=nil_neq_nil;have PRE:=Zh pre;have HKD:=Zh hk;have HFU:=Zh hf;have LI:=Zh pre.len;have LQ:Hid (ts.length=n'):=Zh (pre.want wx pre.pw.but_).len;have hn:=pre.few;have hnq:n'≤1000:=by
  have h1:=wtL_len (erL ts);have h2:=pre.cnt;have h3:=LQ.out;rw[erL_len] at h1;omega
 have CCL:=Zh (cloneInt_any ids A n c wx pre.len (by omega) (fun e=>⟨pre.nil e,by have:=pre.nil e;have:=pre.cap;omega⟩) (pre.ids wx (Kept.refl _ _)));clear hk hf pre;go_enter Tryz.func32,Tryz.ntmps32;go_upto_region 2 with(go_at_call 76;refine CCL.out.mono ?_;rintro e w1 ⟨A1,n1,c1,rfl,o1,b1⟩);have B2:Hid (Below wx.heap.size wx (w1.alloc (.cells #[.pointer (some ⟨g,0,none⟩),.pointer (some ⟨p,0,none⟩),.int .i64 par,.slice A1 n1 c1,.int .i64 beh] 145))):=Zh (b1.alloc b1.size _);have PB2:Hid (PlB (w1.alloc (.cells #[.pointer (some ⟨g,0,none⟩),.pointer (some ⟨p,0,none⟩),.int .i64 par,.slice A1 n1 c1,.int .i64 beh] 145)) w1.heap.size g p par beh (.slice A1 n1 c1)):=Zh (heap_alloc_new w1 _);have O2:=Zh (o1.alloc (.cells #[.pointer (some ⟨g,0,none⟩),.pointer (some ⟨p,0,none⟩),.int .i64 par,.slice A1 n1 c1,.int .i64 beh] 145));have hq1:=b1.size;clear CCL o1 b1;obtain⟨q,hq⟩:∃k,w1.heap.size=k:=⟨_,rfl⟩;rw[hq] at PB2 hq1⊢;clear hq;generalize w1.alloc (.cells #[.pointer (some ⟨g,0,none⟩),.pointer (some ⟨p,0,none⟩),.int .i64 par,.slice A1 n1 c1,.int .i64 beh] 145)=w2 at B2 PB2 O2⊢;have H2:Hid (Pl w B g p x vd Z q par beh (.slice A1 n1 c1) ids s w2):=Zh (by
  obtain⟨x',vd',rs',k1,_,k3⟩:=PRE.out.pw;have hsz:=k1.but.size;refine⟨PRE.out.pw.below B2.out (fun k hk=>?_),PB2.out,O2.out.base_le hsz,by omega,fun e=>?_,fun k hk e=>?_⟩
  ·rcases hk with e|e|e
   ·exact .inl e
   ·subst e;exact .inr ⟨hq1,PB2.out.lt⟩
   ·exact .inr (O2.out.lt e)
  ·have:=(k3 q e).1;omega
  ·have:=(k3 k e).1;have:=(O2.out.lt hk).1;omega)
 have K2:Hid (Kept Z wx w2):=Zh (Kept.of_below B2.out);clear B2 PB2 O2 hq1;have CO:=Zh (wolds_any ids A n c H2.out.pw PRE.out.wf (PRE.out.ids w2 K2.out) LI.out (by omega));have CMM:Hid (∀(w3:World) (A3:Option Addr) (n3 c3:Nat),Below w2.heap.size w2 w3→kO.Own w3 w2.heap.size (.slice A3 n3 c3) (ids.map (oldOf s.1.l))→Calls Tryz.prog 77 #[.slice A3 n3 c3,.slice A' n' c'] w3 (MOfO w3 (foldM (ids.map (oldOf s.1.l)) (erL ts)) (ids.map (oldOf s.1.l)).length)):=Zh (fun w3 A3 n3 c3 hb ho=>by
  have OA:=own_all' ho;refine match_o _ A3 n3 c3 ts A' n' c' w3 OA.2.2.2.2 (old_size PRE.out.wf ids) OA.1 (by have:=OA.1;rw[List.length_map,LI.out] at this;omega) (PRE.out.want w3 (H2.out.pw.on hb).but_) (fun t ht=>?_) PRE.out.cnt;rw[erL_map] at ht;obtain⟨t',ht',rfl⟩:=List.mem_map.1 ht;exact PRE.out.wfw t' ht')
 go_upto_region 3 with(first
  |(go_at_call 78;refine CO.out.mono ?_;rintro e w3 ⟨A3,n3,c3,rfl,o3,b3⟩)
  |(go_at_call 77;refine(CMM.out _ _ _ _ b3 o3).mono ?_;rintro e w4 ⟨T1,t1,d1,T2,t2,d2,T3,t3,d3,rfl,_,b4,o4⟩))
 have BR:Hid (Below w2.heap.size w2 (w4.alloc (.cells #[.slice T1 t1 d1,.slice T2 t2 d2,.slice T3 t3 d3] 147))):=Zh ((b3.trans (b4.mono b3.size)).alloc (Nat.le_trans b3.size b4.size) _);have FB:Hid ((w4.alloc (.cells #[.slice T1 t1 d1,.slice T2 t2 d2,.slice T3 t3 d3] 147)).heap[w4.heap.size]? = some (.cells #[.slice T1 t1 d1,.slice T2 t2 d2,.slice T3 t3 d3] 147 (0,0))):=Zh (heap_alloc_new w4 _);have TO:=Zh (o4.alloc (.cells #[.slice T1 t1 d1,.slice T2 t2 d2,.slice T3 t3 d3] 147));have hs3:=b3.size;have hs4:=b4.size;clear CO CMM o3 b3 b4 o4;obtain⟨fb,hfb⟩:∃k,w4.heap.size=k:=⟨_,rfl⟩;rw[hfb] at FB hs4⊢;clear hfb;generalize w4.alloc (.cells #[.slice T1 t1 d1,.slice T2 t2 d2,.slice T3 t3 d3] 147)=w5 at BR FB TO⊢;have H5:Hid (Pl w B g p x vd (fun k=>Z k∨k=fb∨(Value.slice T1 t1 d1).ownBlock=some k) q par beh (.slice A1 n1 c1) ids s w5):=Zh (H2.out.box BR.out (fun k hk=>by
  rcases hk with e|e|e
  ·exact .inl e
  ·subst e;exact .inr ⟨by omega,heap_lt FB.out⟩
  ·have:=TO.out.lt e;exact .inr ⟨by omega,this.2⟩))
 have K5:Hid (Kept Z wx w5):=Zh (K2.out.trans (Kept.of_below BR.out));have TK5:Hid (kI.Own w5 0 (.slice T1 t1 d1) (ptk ids s ts)):=Zh (TO.out.base_le (Nat.zero_le _));have TL:Hid (ts.length=t1):=Zh (by rw[←ptk_len ids s ts];exact(own_all' TK5.out).1);have ST:Hid (PaR w B g p x vd Z (fun k=>Z k∨k=fb∨(Value.slice T1 t1 d1).ownBlock=some k) wx q par beh f ids s ts fb #[.slice T1 t1 d1,.slice T2 t2 d2,.slice T3 t3 d3] (.slice T1 t1 d1) 0 (.slice A1 n1 c1) w5):=Zh ⟨H5.out,K5.out,FB.out,TK5.out⟩;have LZ:Hid (∀k,Z k→(fun k=>Z k∨k=fb∨(Value.slice T1 t1 d1).ownBlock=some k) k):=Zh (fun k hk=> .inl hk);clear BR FB TO hs3 hs4 H5 K5 TK5 H2 K2;go_wp2_with fail;go_loopw [33] (fun s33 wr=>∃(i:Nat) (v:Value),i≤n'∧s33 = .int .i64 i∧Hid (PaR w B g p x vd Z (fun k=>Z k∨k=fb∨(Value.slice T1 t1 d1).ownBlock=some k) wx q par beh f ids s ts fb #[.slice T1 t1 d1,.slice T2 t2 d2,.slice T3 t3 d3] (.slice T1 t1 d1) i v wr)) (fun s33 _=>n'-(intOf s33).toNat)
 case atStart=>exact⟨0,_,by omega,rfl,ST⟩
 case round=>
  clear ST;obtain⟨i,vl,hi,rfl,HR⟩:=hrel;by_cases hin:i<n'
  ·have hit:i<ts.length:=(by rw[LQ.out];exact hin);have q5:=(PRE.out.want wr HR.out.pl.pw.but_).holds;obtain⟨bq,oq,rfl,hbq,y0,y1,y2,y3,y4,y5⟩:=cell_of_w q5 hit;have CL:Hid (∀(Z9:Nat→Prop) (wz:World),Pl w B g p x vd Z9 q par beh vl (paw f par beh ids s ts i).2 (paw f par beh ids s ts i).1 wz→Calls Tryz.prog 79 _ wz (LayV w B g p x vd Z9 q par beh (paw f par beh ids s ts (i+1)) (PatchOk (f+1) s par ids beh (erL ts)) wz)):=Zh (fun Z9 wz hz=>pa_lay beh HKD.out HFU.out PRE.out hit hz);have hitk:i<(ptk ids s ts).length:=(by rw[ptk_len];exact hit);have TN:Hid (∀wz,kI.Holds wz wz.heap.size A ids→Calls Tryz.prog 80 #[.slice A n c,.int .i64 ((ptk ids s ts)[i]'hitk)] wz fun e w'=>e = .returned (.int .i64 (pid ids ((ptk ids s ts)[i]'hitk)))∧wz=w'):=Zh (fun wz hz=>pa_at _ (fun h0=>by
    obtain⟨j,a,e1,e2,_⟩:=pa_taken (f:=f) beh PRE.out hit h0;rw[e1];have:=(List.getElem?_eq_some_iff.1 e2).1;simpa using this) hz LI.out)
   obtain⟨bt,dt,curt,hT1,hob,hTc⟩:∃(bt dt:Nat) (cur:Array Value),(Value.slice T1 t1 d1) = .slice (some ⟨bt,0,none⟩) t1 d1∧(Value.slice T1 t1 d1).ownBlock=some bt∧wr.cell? ⟨bt,i,none⟩=some (.int .i64 ((ptk ids s ts)[i]'hitk)):=by
    obtain⟨b',o',e1,_,e3⟩:=cell_int (own_all' HR.out.tk).2.2.2.2 hitk;rcases HR.out.tk.form with⟨hv,e⟩|⟨gb,cc,cur,hv,hob,_⟩
    ·rw[e] at hitk;simp at hitk
    ·injection hv with v1 v2 v3;rw[v1] at e1;injection e1 with e1;injection e1 with u1 u2;subst u1;subst u2;exact⟨gb,0,#[],by rw[v1],hob,by simpa using e3⟩
   clear dt curt;injection hT1 with hT1;subst hT1;have HT1:Hid (i<t1):=Zh (by rw[←TL.out];exact hit);have PAR:=Zh (Nat.le_refl i);generalize ts[i]=t at y0 y1 y2 y3 y4 y5 CL;obtain⟨tv,htv⟩:∃tv,(ptk ids s ts)[i]'hitk=tv:=⟨_,rfl⟩;rw[htv] at TN CL hTc;have i1:(0:Int)≤(i:Int):=(by omega);have i2:(i:Int)<(t1:Int):=(by have:=HT1.out;omega);generalize pid ids tv=iv at TN CL;clear q5 hbq htv hitk hit;go_upto_region 6 with fail;have BX:Hid (Below wr.heap.size wr (wr.alloc (.cells #[.int .i64 t.kind,.string t.tag,.string t.key,.string t.txt,.slice t.sa.A t.sa.n t.sa.c,.slice t.sk.A t.sk.n t.sk.c] 69))):=Zh (Zb _ _);have WB:Hid (WtB (wr.alloc (.cells #[.int .i64 t.kind,.string t.tag,.string t.key,.string t.txt,.slice t.sa.A t.sa.n t.sa.c,.slice t.sk.A t.sk.n t.sk.c] 69)) wr.heap.size t):=Zh (WtB.new wr t);obtain⟨gt,hgt⟩:∃k,wr.heap.size=k:=⟨_,rfl⟩;have GE:Hid (wr.heap.size≤gt):=Zh (by omega);rw[hgt] at WB⊢;clear hgt y0 y1 y2 y3 y4 y5;generalize wr.alloc (.cells #[.int .i64 t.kind,.string t.tag,.string t.key,.string t.txt,.slice t.sa.A t.sa.n t.sa.c,.slice t.sk.A t.sk.n t.sk.c] 69)=W at BX WB⊢;have H6:Hid (Pl w B g p x vd (fun k=>(Z k∨k=fb∨(Value.slice (some ⟨bt,0,none⟩) t1 d1).ownBlock=some k)∨k=gt) q par beh vl (paw f par beh ids s ts i).2 (paw f par beh ids s ts i).1 W):=Zh (HR.out.pl.box BX.out (fun k hk=>hk.imp (fun e=>e) (fun e=>by subst e;exact⟨GE.out,WB.out.lt⟩)));have K6:Hid (Kept Z wx W):=Zh (HR.out.kept.trans (Kept.of_below BX.out));have F6:Hid (W.heap[fb]? = some (.cells #[.slice (some ⟨bt,0,none⟩) t1 d1,.slice T2 t2 d2,.slice T3 t3 d3] 147 (0,0))):=Zh ((BX.out.block fb (heap_lt HR.out.res)).trans HR.out.res);have T6:Hid (kI.Own W 0 (.slice (some ⟨bt,0,none⟩) t1 d1) (ptk ids s ts)):=Zh (HR.out.tk.below BX.out (Zl));have X6:Hid (W.cell? ⟨bt,i,none⟩=some (.int .i64 tv)):=Zh ((BX.out.cell (HR.out.tk.lt (g:=bt) rfl).2).trans hTc);clear HR BX GE hTc;have f0:W.cell? ⟨fb,0,none⟩=some (.slice (some ⟨bt,0,none⟩) t1 d1):=cell_of_row W fb 0 _ _ (0,0) F6.out;have x6:=X6.out;have e0:=WB.out.c0;have e1:=WB.out.c1;have e2:=WB.out.c2;have e3:=WB.out.c3;have e4:=WB.out.c4;have e5:=WB.out.c5;have CA:Hid (∀wz,Below W.heap.size W wz→Calls Tryz.prog 80 #[.slice A n c,.int .i64 tv] wz fun e w'=>e = .returned (.int .i64 iv)∧wz=w'):=Zh (fun wz hb=>TN.out wz (PRE.out.ids wz (K6.out.trans (Kept.of_below hb))));have CY:Hid (∀wz,Below W.heap.size W wz→Calls Tryz.prog 79 #[.pointer (some ⟨q,0,none⟩),.agg #[.int .i64 t.kind,.string t.tag,.string t.key,.string t.txt,.slice t.sa.A t.sa.n t.sa.c,.slice t.sk.A t.sk.n t.sk.c],.int .i64 iv] wz (LayV w B g p x vd (fun k=>(Z k∨k=fb∨(Value.slice (some ⟨bt,0,none⟩) t1 d1).ownBlock=some k)∨k=gt) q par beh (paw f par beh ids s ts (i+1)) (PatchOk (f+1) s par ids beh (erL ts)) W)):=Zh (fun wz hb=>(CL.out _ wz (H6.out.below hb)).mono (fun e w' ⟨c,v',left',s',h1,h2,h3,h4⟩=>⟨c,v',left',s',h1,h2,(Kept.of_below hb).trans h3,h4⟩));clear TN CL;go_region_held3 (fun w'=>w'.cell? ⟨fb,0,none⟩=some (.slice (some ⟨bt,0,none⟩) t1 d1)∧w'.cell? ⟨bt,i,none⟩=some (.int .i64 tv)∧w'.cell? ⟨gt,0,none⟩=some (.int .i64 t.kind)∧w'.cell? ⟨gt,1,none⟩=some (.string t.tag)∧w'.cell? ⟨gt,2,none⟩=some (.string t.key)∧w'.cell? ⟨gt,3,none⟩=some (.string t.txt)∧w'.cell? ⟨gt,4,none⟩=some (.slice t.sa.A t.sa.n t.sa.c)∧w'.cell? ⟨gt,5,none⟩=some (.slice t.sk.A t.sk.n t.sk.c)) (first|go_keep|exact K9) ((first
    |(go_at_call 80;refine(CA.out _ (by first|exact Below_drewN Ze _|exact Ze.drew|exact Ze)).mono ?_;rintro e w7 ⟨rfl,rfl⟩)
    |(go_at_call 79;refine(CY.out _ (by first|exact Below_drewN Ze _|exact Ze.drew|exact Ze)).mono ?_;rintro e w9 ⟨m9,v9,l9,s9,rfl,d9⟩;have D9:=Zh d9;clear d9;have WB9:=Zh (WB.out.kept D9.out.2.1 (.inr rfl));have F9:Hid (w9.heap[fb]? = some (.cells #[.slice (some ⟨bt,0,none⟩) t1 d1,.slice T2 t2 d2,.slice T3 t3 d3] 147 (0,0))):=Zh ((D9.out.2.1.block (.inl (.inr (.inl rfl))) (heap_lt F6.out)).trans F6.out);have K9:w9.cell? ⟨fb,0,none⟩=some (.slice (some ⟨bt,0,none⟩) t1 d1)∧w9.cell? ⟨bt,i,none⟩=some (.int .i64 tv)∧w9.cell? ⟨gt,0,none⟩=some (.int .i64 t.kind)∧w9.cell? ⟨gt,1,none⟩=some (.string t.tag)∧w9.cell? ⟨gt,2,none⟩=some (.string t.key)∧w9.cell? ⟨gt,3,none⟩=some (.string t.txt)∧w9.cell? ⟨gt,4,none⟩=some (.slice t.sa.A t.sa.n t.sa.c)∧w9.cell? ⟨gt,5,none⟩=some (.slice t.sk.A t.sk.n t.sk.c):=⟨cell_of_row w9 fb 0 _ _ (0,0) F9.out,(D9.out.2.1.cell (q:=⟨bt,i,none⟩) (.inl (.inr (.inr rfl))) (T6.out.lt (g:=bt) rfl).2).trans X6.out,WB9.out.c0,WB9.out.c1,WB9.out.c2,WB9.out.c3,WB9.out.c4,WB9.out.c5⟩)
    |fail))
   all_goals
    have T9:Hid (kI.Own w9 0 (.slice (some ⟨bt,0,none⟩) t1 d1) (ptk ids s ts)):=Zh (D9.out.2.1.own T6.out (fun k hk=> .inl (.inr (.inr hk))));have KK9:Hid (Kept Z wx w9):=Zh (K6.out.trans (D9.out.2.1.less (fun k hk=> .inl (.inl hk))));have P9:Hid (Pl w B g p x vd (fun k=>Z k∨k=fb∨(Value.slice (some ⟨bt,0,none⟩) t1 d1).ownBlock=some k) q par beh v9 l9 s9 w9):=Zh (D9.out.1.unbox (fun k hk=> .inl hk));clear CA CY f0 x6 e0 e1 e2 e3 e4 e5 K9 WB9 K6 H6 F6 T6 X6 WB;by_cases hm0:m9=0
    ·subst hm0;rw[show errV 0 = .nilIface from rfl];have ES:=D9.out.2.2.1 rfl;have ES1:s9=(paw f par beh ids s ts (i+1)).1:=congrArg Prod.fst ES;have ES2:l9=(paw f par beh ids s ts (i+1)).2:=congrArg Prod.snd ES;rw[ES1,ES2] at P9;have NX:Hid (PaR w B g p x vd Z (fun k=>Z k∨k=fb∨(Value.slice (some ⟨bt,0,none⟩) t1 d1).ownBlock=some k) wx q par beh f ids s ts fb #[.slice (some ⟨bt,0,none⟩) t1 d1,.slice T2 t2 d2,.slice T3 t3 d3] (.slice (some ⟨bt,0,none⟩) t1 d1) (i+1) v9 w9):=Zh ⟨P9.out,KK9.out,F9.out,T9.out⟩;clear ES ES1 ES2 D9 P9 KK9 F9 T9;go_wp2_with fail;go_roundw
     case rel=>exact⟨i+1,v9,by omega,by go_num,NX⟩
     case measure=>simp[intOf];omega
    ·rw[err_ne hm0];go_wp2_with fail;go_ret;have:=DoneV.no (s1:=patchP (f+1) s par ids beh (erL ts)) (ok:=PatchOk (f+1) s par ids beh (erL ts)) hm0 (P9.out.pw.less (fun k hk=> .inl (.inl hk))) KK9.out (fun ok=>hm0 (D9.out.2.2.2 ok));rwa[err_ne hm0] at this
  ·obtain rfl:i=n':=by omega
   have L:=pa_last (f:=f) beh PRE.out;have E:=Zh (pa_end (f:=f) (par:=par) (beh:=beh) (ids:=ids) (s:=s) (ts:=ts));have OG:=Zh (fun e=>pa_okg (f:=f) (par:=par) (beh:=beh) (ids:=ids) (s:=s) (ts:=ts) e);rw[LQ.out] at L E OG;obtain⟨l1,l2,l3,l4⟩:=L;have CD:=Zh (wdrop_any HR.out.pl (by omega) l1 (by omega) (by omega));rw[E.out] at CD;clear l1 l2 l3 l4;go_wp2_with fail;refine CD.out.mono ?_;rintro e w9 ⟨m9,s9,rfl,d9⟩;have D9:=Zh d9;clear d9 CD;obtain⟨ev,hev⟩:∃ev,errV m9=ev:=⟨_,rfl⟩;rw[hev];go_wp2_with fail;go_ret;rw[←hev];obtain⟨x1,x2,x3,x4⟩:=D9.out;exact⟨m9,s9,rfl,x1.less (fun k hk=> .inl (.inl hk)),HR.out.kept.trans (x2.less (fun k hk=> .inl (.inl hk))),x3,fun ok=>x4 (OG.out ok)⟩
theorem wpatch_any(ts:List WV):PPatchC ts:=by
 have key:∀t:WV,PPatchC t.kids:=by
  intro t
  induction t using WV.ind with
  |h kind tag key txt sa attrs sk kids ih=>exact wpatch_of kids ih
 exact wpatch_of ts (fun t _=>key t)
theorem stands_nil{l:List Nd}{par beh:Int}:StandsP l par [] beh↔beh∈kidsOf l par++[0]:=by
 unfold StandsP;constructor
 ·rintro⟨pre,post,e,hb⟩;rw[e];cases post with
  |nil=>simp[hb]
  |cons c r=>simp at hb;simp[hb]
 ·intro h;rcases List.mem_append.1 h with h|h
  ·obtain⟨pre,post,e⟩:=List.append_of_mem h;exact⟨pre,beh:: post,by simpa using e,rfl⟩
  ·simp at h;exact⟨kidsOf l par,[],by simp,by simpa using h⟩
theorem drop_split{K:List Int}{k n:Nat}{ids:List Int}(h:(K.drop k).take n=ids):K=K.take k++(ids++K.drop (k+n)):=by
 rw[←h]
 conv=>lhs;rw[←List.take_append_drop k K,←List.take_append_drop n (K.drop k),List.drop_drop]
theorem head_at(post:List Int):(post++[0])[0]? = some (post.headD 0):=by cases post<;>rfl
theorem stands_cons{d:D}(hw:WF d){par beh a:Int}{r:List Int}{K0:List Int}(hK:K0=kidsOf d.l par++[0]):StandsP d.l par (a:: r) beh↔a∈K0∧idxA K0 a+(a:: r).length<K0.length∧(K0.drop (idxA K0 a)).take (a:: r).length=a:: r∧K0[idxA K0 a+(a:: r).length]? = some beh:=by
 constructor
 ·rintro⟨pre,post,e,hb⟩;have hn:=hw.tr.nod par;rw[e] at hn;have ha:a∉pre:=fun h=>(List.nodup_append.1 hn).2.2 a h a (by simp) rfl
  have e0:K0=pre++((a:: r)++(post++[0])):=(by rw[hK,e];simp);have hix:idxA K0 a=pre.length:=by
   refine idxA_of (by rw[e0];simp) (by simp[e0]) (fun j hj hjk=>?_);have:K0[j]=pre[j]:=(by simp[e0,List.getElem_append_left hjk]);rw[this];intro e2;exact ha (e2▸List.getElem_mem hjk)
  rw[hix];have e1:K0.drop pre.length=(a:: r)++(post++[0]):=(by rw[e0,List.drop_left]);refine⟨by rw[e0];simp,by rw[e0];simp,by rw[e1,List.take_left],?_⟩;have:K0[pre.length+(a:: r).length]? = (K0.drop pre.length)[(a:: r).length]?:=(by rw[List.getElem?_drop]);rw[this,e1,List.getElem?_append_right (Zl),Nat.sub_self,head_at,hb]
 ·rintro⟨h1,h2,h3,h4⟩;have e0:=drop_split h3;have hR:(K0.drop (idxA K0 a+(a:: r).length))[0]? = some beh:=(by rw[List.getElem?_drop,Nat.add_zero];exact h4);generalize K0.drop (idxA K0 a+(a:: r).length)=R at e0 hR;generalize K0.take (idxA K0 a)=pre at e0;rcases List.eq_nil_or_concat R with rfl|⟨R',z,rfl⟩
  ·simp at hR
  ·rw[List.concat_eq_append] at e0 hR;have e1:kidsOf d.l par++[0]=(pre++((a:: r)++R'))++[z]:=(by rw[←hK,e0];simp);obtain⟨e2,e3⟩:=List.append_inj' e1 rfl;have hz:z=0:=(by simpa using e3.symm);subst hz;rw[head_at] at hR;exact⟨pre,R',e2,(Option.some.inj hR).symm⟩
def EqTo(l m:List Int)(k:Nat):Prop:=∀j (h:j<l.length) (h':j<m.length),j<k→l[j]=m[j]
theorem equalInt_any(l m:List Int)(A B:Option Addr)(n n' c d:Nat)(w:World)(hn:l.length=n)(hn':m.length=n')(hl:n≤1000000)(hm:n'≤1000000)(H:kI.Holds w w.heap.size A l)(H2:kI.Holds w w.heap.size B m):
 Calls Tryz.prog 75 #[.slice A n c,.slice B n' d] w fun e w'=>e = .returned (.bool (decide (l=m)))∧Below w.heap.size w w':=by
 have HH:=Zh H;have HH2:=Zh H2;have HN:=Zh hn;have HN':=Zh hn';clear H H2 hn hn';by_cases hlen:n=n'
 ·subst hlen;go_enter Tryz.func75,Tryz.ntmps75;go_wp2_with fail;go_loopw [13] (fun i wr=>∃k:Nat,k≤n∧i = .int .i64 k∧Hid (Below w.heap.size w wr)∧Hid (EqTo l m k)) (fun i _=>n-(intOf i).toNat)
  case atStart=>exact⟨0,by omega,rfl,Zh Ze,Zh (fun _ _ _ h=>by omega)⟩
  case round=>
   obtain⟨k,hk,rfl,HW,HS⟩:=hrel;by_cases hlt:k<n
   ·have hlt1:k<l.length:=(by have:=HN.out;omega);have hlt2:k<m.length:=(by have:=HN'.out;omega);obtain⟨b,o,rfl,hb,h0⟩:=cell_int (HH.out.on HW.out) hlt1;obtain⟨b',o',rfl,hb',h0'⟩:=cell_int (HH2.out.on HW.out) hlt2;have i1:(0:Int)≤(k:Int):=(by omega);have i2:(k:Int)<(n:Int):=(by omega);by_cases he:l[k]=m[k]
    ·have HE:=Zh he;have hq:(l[k] != m[k])=false:=(by simp[he]);clear he hb hb';go_wp2_with fail;go_quiet (fail);go_wp2_with fail;go_roundw
     case rel=>
      refine⟨k+1,by omega,by go_num,Zh (Below_drewN HW.out _),Zh (fun j h h' hj=>?_)⟩;by_cases e:j=k
      ·subst e;exact HE.out
      ·exact HS.out j h h' (by omega)
     case measure=>simp[intOf];omega
    ·have HE:Hid (decide (l=m)=false):=Zh (decide_eq_false (fun e=>he (by subst e;rfl)));have hq:(l[k] != m[k])=true:=(by simp[he]);clear he hb hb';go_wp2_with fail;go_quiet (fail);go_wp2_with fail;go_ret;exact⟨ret_bool HE.out.symm,Below_drewN HW.out _⟩
   ·have HE:Hid (decide (l=m)=true):=Zh (decide_eq_true (List.ext_getElem (by rw[HN.out,HN'.out]) (fun j h h'=>HS.out j h h' (by have:=HN.out;omega))));go_wp2_with fail;go_ret;exact⟨ret_bool HE.out.symm,HW.out⟩
 ·have he:((n:Int) != (n':Int))=true:=(by simp;omega);have HE:Hid (decide (l=m)=false):=Zh (decide_eq_false (fun e=>hlen (by rw[←HN.out,←HN'.out,e])));clear hlen;go_enter Tryz.func75,Tryz.ntmps75;go_wp2_with fail;go_ret;exact⟨ret_bool HE.out.symm,Ze⟩
variable{w wx w':World}{B g p q:Nat}{x:Dx}{vd v:Value}{Z:Nat→Prop}{s:Sg}{par beh:Int}
theorem wstand_any(ids:List Int)(A:Option Addr)(n c:Nat)(h:Pw w B g p x vd Z s wx)(hwf:WF s.1)(hh:kI.Holds wx wx.heap.size A ids)(hn:ids.length=n)(few:n≤1000):
 Calls Tryz.prog 31 #[.pointer (some ⟨p,0,none⟩),.int .i64 par,.slice A n c,.int .i64 beh] wx fun e w'=>∃b:Bool,e = .returned (.bool b)∧(b=true↔StandsP s.1.l par ids beh)∧Below wx.heap.size wx w':=by
 have HH:=Zh hh;have LI:=Zh hn;have HWF:=Zh hwf;have CN:=Zh (pw_node par h hwf);clear h hh hn hwf;go_enter Tryz.func31,Tryz.ntmps31;go_upto_region 2 with(go_at_call 54;refine CN.out.mono ?_;rintro e w7 ⟨nd,AV,nV,cV,AK,nK,cK,rfl,hn1,hn2,hn3,hn4,hn5,hn6⟩);have KE:Hid (nd.kids=kidsOf s.1.l par):=Zh hn3;have B2:Hid (Below wx.heap.size wx (w7.alloc (.cells #[.int .i64 nd.id,.int .i64 nd.par,.string nd.tag,.string nd.txt,.string nd.key,.slice AV nV cV,.slice AK nK cK,.int .i64 nd.note] 48))):=Zh (hn6.alloc hn6.size _);have NB:Hid (NdB (w7.alloc (.cells #[.int .i64 nd.id,.int .i64 nd.par,.string nd.tag,.string nd.txt,.string nd.key,.slice AV nV cV,.slice AK nK cK,.int .i64 nd.note] 48)) w7.heap.size nd AV nV cV AK nK cK):=Zh (NdB.new w7 nd AV nV cV AK nK cK);have O2:=Zh (hn5.alloc (.cells #[.int .i64 nd.id,.int .i64 nd.par,.string nd.tag,.string nd.txt,.string nd.key,.slice AV nV cV,.slice AK nK cK,.int .i64 nd.note] 48));have KL:nd.kids.length≤200:=(by rw[hn3];exact kids_len19 HWF.out par);clear CN hn1 hn2 hn3 hn4 hn5 hn6;generalize w7.heap.size=gn at NB⊢;generalize w7.alloc (.cells #[.int .i64 nd.id,.int .i64 nd.par,.string nd.tag,.string nd.txt,.string nd.key,.slice AV nV cV,.slice AK nK cK,.int .i64 nd.note] 48)=w2 at B2 NB O2⊢;have d6:=NB.out.c6;have hb2:=B2.out.size;clear NB;go_upto_region 3 with(at_builtin;refine kI.wp_app rfl _ _ rfl (v:=.slice AK nK cK) (l:=nd.kids) (m:=[0]) (B:=wx.heap.size) rfl (O2.out.alloc _) rfl rfl (fun e=>by cases e) (Kind.Holds.lit (heap_alloc_new _ _) rfl) (by simp;omega) (by simp;omega) ?_;intro v' w5 hown' hgrow hat;have B5:Hid (Below wx.heap.size wx w5):=Zh ((B2.out.alloc hb2 _).grown hgrow (by simp;omega) (fun k hk=>(O2.out.lt hk).1));obtain⟨A5,n5,c5,rfl,f1,f2,f3,f4,f5⟩:=hown'.slice;have O5:=Zh hown';clear hown' hgrow hat f2 f3 f4 f5);obtain⟨K0,hK0⟩:∃K0,nd.kids++[0]=K0:=⟨_,rfl⟩;have hn5:=f1;rw[hK0] at O5 hn5;obtain⟨gb,hgb⟩:∃gb,A5=some ⟨gb,0,none⟩:=by
  rcases O5.out.form with⟨_,e⟩|⟨gb,_,_,hv',_⟩
  ·rw[←hK0] at e;simp at e
  ·injection hv' with e1 _ _;exact⟨gb,e1⟩
 subst hgb;have KK:Hid (K0=kidsOf s.1.l par++[0]):=Zh (by rw[←hK0,KE.out]);have L5:=Zh hn5;have hnc:=(own_all' O5.out).2.1;have hcm:=(own_all' O5.out).2.2.1;have l5:n5≤201:=(by rw[←hn5,←hK0];simp;omega);have OA:=Zh (own_all' O5.out);clear f1 hK0 hn5 O2 d6 hb2 B2 KE KL;cases ids with
 |nil=>
  obtain rfl:0=n:=LI.out;have CC:=Zh (P6.contains_any K0 beh (some ⟨gb,0,none⟩) n5 c5 w5 L5.out (by omega) OA.out.2.2.2.2);have ST:Hid (beh∈K0↔StandsP s.1.l par [] beh):=Zh (by rw[stands_nil,KK.out]);go_wp2_with fail;refine CC.out.mono ?_;rintro e w6 ⟨rfl,rfl⟩;go_wp2_with fail;go_ret;exact⟨decide (beh∈K0),rfl,by rw[decide_eq_true_iff];exact ST.out,B5.out⟩
 |cons a r=>
  have ST:=Zh (stands_cons HWF.out (par:=par) (beh:=beh) (a:=a) (r:=r) KK.out);have ln:(a:: r).length=n:=LI.out;rw[ln] at ST;have n0:0<n:=(by rw[←ln];simp);have q0:((n:Int)==0)=false:=(by simp;omega);have H5:=Zh (HH.out.on B5.out);obtain⟨b,o,rfl,hb,g0⟩:=cell_int H5.out (k:=0) (by simp);simp only[Nat.add_zero,List.getElem_cons_zero] at g0;have i1:(0:Int)<(n:Int):=(by omega);clear hb HH;by_cases ha:a∈K0
  ·have CX:=Zh (index_any K0 a (some ⟨gb,0,none⟩) n5 c5 w5 L5.out (by omega) ha OA.out.2.2.2.2);have hlt:=idxA_lt ha;rw[L5.out] at hlt ST;obtain⟨k,hk⟩:∃k,idxA K0 a=k:=⟨_,rfl⟩;rw[hk] at CX hlt ST;have HA:=Zh ha;have hw1:IntKind.i64.wrap ((n5:Int)-(k:Int))=((n5-k:Nat):Int):=by
    simp[IntKind.wrap,IntKind.bits,IntKind.signed];omega
   have k0:((k:Int)<0)=False:=eq_false (by omega);clear ha hk ln;by_cases hle:n5-k≤n
   ·have NS:Hid (¬StandsP s.1.l par (a:: r) beh):=Zh (fun e=>by have:=(ST.out.1 e).2.1;omega);have hq:((n5-k:Nat):Int)≤(n:Int):=(by omega);obtain⟨df,hdf⟩:∃df,n5-k=df:=⟨_,rfl⟩;rw[hdf] at hw1 hq;clear hle hdf;go_upto_region 6 with(go_at_call 74;refine CX.out.mono ?_;rintro e w6 ⟨rfl,rfl⟩);go_wp2_with fail;go_ret;exact⟨false,rfl,⟨fun e=>(by cases e),fun e=>absurd e NS.out⟩,B5.out⟩
   ·have hq:¬((n5-k:Nat):Int)≤(n:Int):=(by omega);have hkn:k+n<n5:=(by omega);have i3:(0:Int)≤(k:Int):=(by omega);have i4:(k:Int)≤(n5:Int):=(by omega);have i5:(n5:Int)≤(c5:Int):=(by omega);have HD:Hid (kI.Holds w5 w5.heap.size (some ⟨gb,k,none⟩) (K0.drop k)):=Zh (by
     have:=OA.out.2.2.2.2.drop k;simpa[kI] using this)
    have LT:Hid (((K0.drop k).take n).length=n):=Zh (by rw[List.length_take,List.length_drop,L5.out];omega);have CE:=Zh (equalInt_any ((K0.drop k).take n) (a:: r) (some ⟨gb,k,none⟩) (some ⟨b,o,none⟩) n n (c5-k) c w5 LT.out LI.out (by omega) (by omega) (HD.out.take n) H5.out);have hkk:k+n<K0.length:=(by rw[L5.out];exact hkn);have GX:Hid (∀wz,Below w5.heap.size w5 wz→wz.cell? ⟨gb,k+n,none⟩=some (.int .i64 K0[k+n])):=Zh (fun wz hb=>by
     obtain⟨b',o',e1,_,e3⟩:=cell_int (OA.out.2.2.2.2.on hb) hkk;injection e1 with e1;injection e1 with u1 u2;subst u1;subst u2;simpa using e3)
    have SX:Hid (StandsP s.1.l par (a:: r) beh↔(K0.drop k).take n=a:: r∧K0[k+n]=beh):=Zh (by
     rw[ST.out,List.getElem?_eq_getElem hkk];exact⟨fun⟨_,_,h3,h4⟩=>⟨h3,Option.some.inj h4⟩,fun⟨h3,h4⟩=>⟨HA.out,hkn,h3,by rw[h4]⟩⟩)
    have hcap:¬c5=k:=(by omega);have hc1:(n:Int)≤((c5-k:Nat):Int):=(by omega);obtain⟨df,hdf⟩:∃df,n5-k=df:=⟨_,rfl⟩;obtain⟨dc,hdc⟩:∃dc,c5-k=dc:=⟨_,rfl⟩;have hnd:(n:Int)<(df:Int):=(by omega);have hnd2:(n:Int)≤(df:Int):=(by omega);have hdd:(df:Int)≤(dc:Int):=(by omega);rw[hdf] at hw1 hq;rw[hdc] at CE hc1;generalize K0[k+n]=z at GX SX;obtain⟨be,hbe⟩:∃be,decide ((K0.drop k).take n=a:: r)=be:=⟨_,rfl⟩;rw[hbe] at CE;have HBE:=Zh hbe;clear hle hkk hbe ST;go_upto_region 6 with(go_at_call 74;refine CX.out.mono ?_;rintro e w6 ⟨rfl,rfl⟩);clear CX g0;have C9:Hid (Calls Tryz.prog 75 #[.slice (some ⟨gb,k,none⟩) n dc,.slice (some ⟨b,o,none⟩) n c] w5 fun e w'=>e = .returned (.bool be)∧Below w5.heap.size w5 w'):=Zh (CE.out.mono (fun e w' d=>d));clear CE;cases be with
    |false=>
     have NS:Hid (¬StandsP s.1.l par (a:: r) beh):=Zh (fun e=>by have:=(SX.out.1 e).1;have h2:=HBE.out;rw[decide_eq_false_iff_not] at h2;exact h2 this);go_wp2_with fail;refine C9.out.mono ?_;rintro e w6 ⟨rfl,b6⟩;have B6:=Zh (B5.out.trans (b6.mono B5.out.size));clear b6;go_wp2_with fail;go_ret;exact⟨false,rfl,⟨fun e=>(by cases e),fun e=>absurd e NS.out⟩,B6.out⟩
    |true=>
     have HE:Hid ((K0.drop k).take n=a:: r):=Zh (of_decide_eq_true HBE.out);go_wp2_with fail;refine C9.out.mono ?_;rintro e w6 ⟨rfl,b6⟩;have B6:=Zh (B5.out.trans (b6.mono B5.out.size));have g6:=GX.out w6 b6;have h0:(0:Int)≤(n:Int):=(by omega);clear b6;by_cases hz:z=beh
     ·have hq:(z==beh)=true:=beq_iff_eq.2 hz;have SS:Hid (StandsP s.1.l par (a:: r) beh):=Zh (SX.out.2 ⟨HE.out,hz⟩);clear hz;go_wp2_with fail;go_ret;exact⟨true,rfl,⟨fun _=>SS.out,fun _=>rfl⟩,B6.out⟩
     ·have hq:(z==beh)=false:=beq_eq_false_iff_ne.2 hz;have NS:Hid (¬StandsP s.1.l par (a:: r) beh):=Zh (fun e=>hz (SX.out.1 e).2);clear hz;go_wp2_with fail;go_ret;exact⟨false,rfl,⟨fun e=>(by cases e),fun e=>absurd e NS.out⟩,B6.out⟩
  ·have NS:Hid (¬StandsP s.1.l par (a:: r) beh):=Zh (fun e=>ha (ST.out.1 e).1);have CX:=Zh (P6.index_no K0 a (some ⟨gb,0,none⟩) n5 c5 w5 L5.out (by omega) ha OA.out.2.2.2.2);clear ha ST ln;go_upto_region 6 with(go_at_call 74;refine CX.out.mono ?_;rintro e w6 ⟨rfl,rfl⟩);go_wp2_with fail;go_ret;exact⟨false,rfl,⟨fun e=>(by cases e),fun e=>absurd e NS.out⟩,B5.out⟩
theorem topZ_on{w wx wz:World}{p g:Nat}{x:Dx}{vd:Value}(hb:Below w.heap.size w wx)(h:Kept (topZ w p x g vd) wx wz):But (pfoot p x g vd) w wz:=topZ_kept ((Kept.of_below hb).trans h)
theorem stands_p0{d:D}(hw:WF d){par beh:Int}{ids:List Int}(h:StandsP d.l par ids beh):par≠0∨ids=[]:=by
 by_cases hi:ids=[]
 ·exact .inr hi
 ·refine .inl (fun e=>?_);subst e;obtain⟨pre,post,e,_⟩:=h;have h0:hasL d.l 0=false:=by
   cases hh:hasL d.l 0 with
   |false=>rfl
   |true=>exact absurd rfl (hw.tr.ne0 hh)
  have:kidsOf d.l 0=[]:=hw.tr.k0 (by rw[h0];decide);rw[this] at e;have h1:=(List.append_eq_nil_iff.1 e.symm).2;exact hi (List.append_eq_nil_iff.1 h1).1
theorem walk_c:WalkC:=by
 constructor
 ·intro p par beh A A' n c n' c' w;go_enter Tryz.func12,Tryz.ntmps12;go_wp2_with fail;go_ret;exact⟨rfl,Ze⟩
 ·intro w B g p x vd rs par ids A n c beh A' n' c' ts h hwf hmay hlg hids hn hnc hcm hnil hn2 hwant hwfw hcnt hnum hlog;have T:=Zh (Pw.top h hlg);have CS:=Zh (wstand_any (par:=par) (beh:=beh) ids A n c T.out hwf (hids w (But.refl _ _)) hn hn2);have HS0:Hid (Dc w B p x∧Lg w B g p vd rs):=Zh ⟨h,hlg⟩;have CP:Hid (StandsP x.d.l par ids beh→∀wx,Below w.heap.size w wx→Calls Tryz.prog 32 #[.pointer (some ⟨g,0,none⟩),.pointer (some ⟨p,0,none⟩),.int .i64 par,.slice A n c,.int .i64 beh,.slice A' n' c'] wx (DoneV w B g p x vd (topZ w p x g vd) (patchP (dL (erL ts)+1) (x.d,rs.map (·.r)) par ids beh (erL ts)) (PatchOk (dL (erL ts)+1) (x.d,rs.map (·.r)) par ids beh (erL ts)) wx)):=Zh (fun hs wx hb=>by
   obtain⟨k1,k2,k3,_⟩:=stands_kids hwf hs;exact wpatch_any ts (dL (erL ts)) (Zl) w B g p x vd _ _ wx par ids A n c beh A' n' c' {
    pw:=T.out.on hb
    wf:=hwf
    p0:=stands_p0 hwf hs
    kids:=k1
    nod:=k2
    len:=hn
    cap:=hnc
    cm:=hcm
    nil:=hnil
    few:=by omega
    ids:=fun wz hz=>hids wz (topZ_on hb hz)
    want:=fun w' hb'=>wn_of (hwant w' hb')
    wfw:=fun t ht=>hwfw _ (er_mem ht)
    cnt:=hcnt
    num:=hnum
    log:=by simpa using hlog})
  clear h hwf hmay hlg hids hn hnc hcm hnil hn2 hwant hwfw hcnt hnum hlog T;go_enter Tryz.func12,Tryz.ntmps12;go_wp2_with fail;refine CS.out.mono ?_;rintro e wx ⟨b,rfl,hb,hbx⟩;have HB:=Zh hb;have BX:=Zh hbx;clear hb hbx CS;cases b with
  |false=>
   have NS:Hid (¬StandsP x.d.l par ids beh):=Zh (fun e=>by have:=HB.out.2 e;cases this);have LD:Hid (LDid w B g p x vd x vd rs wx):=Zh ⟨HS0.out.1.below BX.out,HS0.out.2.below BX.out,But.of_below BX.out _,fun _ hi=> .inl hi,fun _ hi=> .inl hi⟩;clear HB CP;go_wp2_with fail;go_ret;exact⟨1,x,vd,rs,rfl,LD.out,fun _=>⟨rfl,rfl,rfl⟩,fun e=>absurd e NS.out⟩
  |true=>
   have ST:Hid (StandsP x.d.l par ids beh):=Zh (HB.out.1 rfl);have CT:=Zh (CP.out ST.out wx BX.out);clear HB CP;go_wp2_with fail;refine CT.out.mono ?_;rintro e w9 ⟨m9,s9,rfl,d9⟩;have D9:=Zh d9;clear d9 CT;obtain⟨ev,hev⟩:∃ev,errV m9=ev:=⟨_,rfl⟩;rw[hev];go_wp2_with fail;go_ret;rw[←hev];obtain⟨⟨x',vd',rs',y1,y2,_⟩,_,y4,y5⟩:=D9.out;exact⟨m9,x',vd',rs',rfl,y1,fun e=>absurd ST.out e,fun _ _ ok=>⟨y5 ok,by rw[y2];exact y4 (y5 ok)⟩⟩
end P19
end Go.Proofs.YtaklfomaibchnaaGreat
