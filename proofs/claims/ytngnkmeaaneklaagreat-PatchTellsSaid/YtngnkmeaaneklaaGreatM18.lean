/- A part of the proof. No condition. -/
import Derived.Lib.SlBytesConst
import Derived.Test.YtngnkmeaaneklaaGreatM1
import Derived.Test.YtngnkmeaaneklaaGreatM4
import Derived.Test.YtngnkmeaaneklaaGreatM10
import Derived.Test.YtngnkmeaaneklaaGreatM12
import Derived.Test.YtngnkmeaaneklaaGreatM14
import Derived.Test.YtngnkmeaaneklaaGreatM15
set_option linter.unusedVariables false
set_option linter.unusedSimpArgs false
set_option maxRecDepth 100000
set_option maxHeartbeats 40000000
namespace Go.Proofs.YtngnkmeaaneklaaGreat
open Tryz
namespace P20
open Go.RowKit Kd P4 P5 P7 P8 P16 P19 P21
structure Bg(w:World)(B g p q:Nat)(d:D)(u:Nat):Prop where
 st:∃(x:Dx) (y:Rx) (vd:Value) (rs:List RR),DG w B p q x y/\x.d=d/\y.d=d/\Lg w B g p vd rs/\rs.length<=u
 LJ:wE d
def pR(w:World)(g p q m:Nat)(ts:List PT)(si:Value)(wr:World):Prop:=∃(k:Nat) (d:D),k<=m/\si= .int .i64 k/\d.n<=1+(xB (ts.take k):Int)/\Hid (Bg wr w.heap.size g p q d (3*xB (ts.take k)))/\Hid (Below w.heap.size w wr)
def Vs(w:World)(e:Ending)(w':World):Prop:=Below w.heap.size w w'/\((e= .returned (.tuple #[.pointer none,.pointer none]))\/
 ∃(p q:Nat) (x:Dx) (y:Rx),e= .returned (.tuple #[.pointer (some ⟨p,0,none⟩),.pointer (some ⟨q,0,none⟩)])/\DG w' w.heap.size p q x y/\x.d=y.d/\wE x.d/\x.n<=1000)
theorem Cf{ts:List PT}{k:Nat}(h:k<ts.length):xB (ts.take (k+1))=xB (ts.take k)+countP ts[k]:=by
 rw[List.take_add_one,List.getElem?_eq_getElem h];have:∀(l m:List PT),xB (l++m)=xB l+xB m:=by
  intro l m
  induction l with
  |nil=>simp[xB]
  |cons a r ih=>rw[List.cons_append,xB,xB,ih];omega
 rw[this];simp[xB]
theorem bW(ts:List PT)(k:Nat):xB (ts.take k)<=xB ts:=by
 have:∀(l m:List PT),xB (l++m)=xB l+xB m:=by
  intro l m
  induction l with
  |nil=>simp[xB]
  |cons a r ih=>rw[List.cons_append,xB,xB,ih];omega
 have h:=this (ts.take k) (ts.drop k);rw[List.take_append_drop] at h;omega
theorem zh(room:Int)(ts:List TV)(A:Option Addr)(m c:Nat)(w:World)(hm:ts.length=m)(hmc:m<=c)(cC:c<=maxLen)(hok:∀t∈ts,vC w w.heap.size t)(H:kT.pA w w.heap.size A ts)(hfew:bH (ts.map er)=true)(hct:xB (ts.map er)<=60):
 Calls prog 6 #[.int .i64 room,.slice A m c] w (Vs w):=by
 have HH:=Zh H;have HM:=Zh hm;have HF:=Zh hok;have HFW:=Zh hfew;have HCT:=Zh hct;have hmx:m<=maxLen:=(by omega);have hm60:m<=60:=(by have:=aM (ts.map er);simp at this;omega);clear H hm hok hfew hct;have q1:=cS;have q2:=sU;have q3:=FF;have q4:=dS;have q5:=TF;go_enter func6,ntmps6;by_cases hr:room<1
 ·go_wp2_with fail;refine(eY room _ (.inl hr)).mono ?_;rintro e w' ⟨rfl,rfl⟩;go_wp2_with fail;refine(jL none w).mono ?_;rintro e w1 ⟨rfl,hw⟩;have b:Below w.heap.size w w1:=(by rw[hw];exact Zb _ _);clear hw;go_wp2_with fail;go_ret2;exact⟨b,.inl rfl⟩
 by_cases hr2:200<room
 ·go_wp2_with fail;refine(eY room _ (.inr hr2)).mono ?_;rintro e w' ⟨rfl,rfl⟩;go_wp2_with fail;refine(jL none w).mono ?_;rintro e w1 ⟨rfl,hw⟩;have b:Below w.heap.size w w1:=(by rw[hw];exact Zb _ _);clear hw;go_wp2_with fail;go_ret2;exact⟨b,.inl rfl⟩
 obtain⟨R,rfl⟩:=Int.eq_ofNat_of_zero_le (show 0<=room by omega);have hR1:1<=R:=(by omega);have hR2:R<=200:=(by omega);clear hr hr2;go_wp2_with fail;refine(NW R _ hR1 hR2).mono ?_;rintro e w2 ⟨p,x0,rfl,dc0,hd0,b2⟩;have D0:=Zh dc0;have E0:=Zh hd0;have B2:=Zh b2;clear dc0 hd0 b2;go_wp2_with fail;refine(jL (some ⟨p,0,none⟩) w2).mono ?_;rintro e w3 ⟨rfl,hw3⟩;have L3:Hid (Lg w3 w.heap.size w2.heap.size p (.slice none 0 0) []):=Zh (by rw[hw3];exact Lg.new B2.out.size p);have b3:Below w2.heap.size w2 w3:=(by rw[hw3];exact Zb _ _);have D3:=Zh (D0.out.below b3);have B3:=Zh (B2.out.trans (b3.mono B2.out.size));clear hw3 b3 D0 B2;generalize w2.heap.size=g at L3|-;go_wp2_with fail;refine(VT R w3).mono ?_;rintro e w4 ⟨q,y0,rfl,rf4,hy4,b4⟩;have P4':DG w4 w.heap.size p q x0 y0:=⟨D3.out.below b4,P7.Rf.dE rf4 B3.out.size,fun i hi hr=>by have:=D3.out.lt hi;have:=rf4.ge hr;omega⟩;have B4:=Zh (B3.out.trans (b4.mono B3.out.size));have G0:Hid (Bg w4 w.heap.size g p q (ME R) 0):=Zh ⟨⟨x0,y0,_,[],P4',E0.out,hy4,L3.out.below b4,by simp⟩,eQ hR1 hR2⟩;clear rf4 hy4 b4 P4' L3 D3 B3 E0;go_wp2_with fail;go_loopw [10] (fun si wr=>pR w g p q m (ts.map er) si wr) (fun si _=>m-(intOf si).toNat)
 case atStart=>exact⟨0,ME R,by omega,rfl,by show(1:Int)<=_;simp[xB],by simpa[xB] using G0,B4⟩
 case round=>
  obtain⟨k,d,hk,rfl,hdn,HG,HW⟩:=hrel;clear G0 B4;by_cases hkm:k<m
  ·have hkl:k<ts.length:=(by have:=HM.out;omega);obtain⟨b,o,rfl,hb,z0,z1,z2,z3,z4⟩:=TJ HH.out hkl;have GO:Hid (∀wz,Below w.heap.size w wz->wz.cell? ⟨b,o+k*5,none⟩=some (.string ts[k].tag)/\wz.cell? ⟨b,o+k*5+1,none⟩=some (.string ts[k].txt)/\wz.cell? ⟨b,o+k*5+2,none⟩=some (.string ts[k].key)/\wz.cell? ⟨b,o+k*5+3,none⟩=some (.slice ts[k].sa.A ts[k].sa.n ts[k].sa.c)/\wz.cell? ⟨b,o+k*5+4,none⟩=some (.slice ts[k].sk.A ts[k].sk.n ts[k].sk.c)):=Zh (fun wz h=>⟨(h.cell hb).trans z0,(h.cell hb).trans z1,(h.cell hb).trans z2,(h.cell hb).trans z3,(h.cell hb).trans z4⟩);clear z0 z1 z2 z3 z4;have hke:k<(ts.map er).length:=(by simpa using hkl);have hc1:=Cf hke;have hc2:=bW (ts.map er) (k+1);rw[List.getElem_map] at hc1;have HC1:=Zh hc1;have hcp:countP (er ts[k])<=60:=(by have:=HCT.out;omega);have hck:xB ((ts.map er).take k)+countP (er ts[k])<=60:=(by have:=HCT.out;omega);have hfp:Hid (qF (er ts[k])=true):=Zh (by have:=jO hke HFW.out;rw[List.getElem_map] at this;exact this);have TK:Hid (vC w w.heap.size ts[k]):=Zh (HF.out _ (List.getElem_mem hkl));generalize ts[k]=t at GO HC1 hcp hck hfp TK;obtain⟨g0,g1,g2,g3,g4⟩:=GO.out wr HW.out;clear hkl hke hc1 hc2;obtain⟨⟨x,y,vd,rs,hp,hx,hy,hl,hrl⟩,hgd⟩:=HG.out;have HP:=Zh hp;have HX:=Zh hx;have HY:=Zh hy;have HL:=Zh hl;have HGD:=Zh hgd;have hxn:x.n=d.n:=congrArg D.n hx;have hyn:y.n=d.n:=congrArg D.n hy;have CB:=Zh (Bf t wr w.heap.size w.heap.size g p x vd rs 1 0 Zl (by rw[hx];exact hgd.1) (by omega) (by omega) hp.dc hl (TK.out.qC HW.out Zl) hfp.out);unfold Mb at CB;rw[hx] at CB;clear hp hx hy hl hgd HG;go_wp2_with fail;refine CB.out.mono ?_;rintro e w6 h;rcases h with⟨hm0,rfl,b6⟩|⟨hm0,x',vd',rs',rfl,ld,hx',hr'⟩
   ·have B6:=Zh (HW.out.trans (b6.mono HW.out.size));have HM0:=Zh hm0;clear b6 hm0 g0 g1 g2 g3 g4;obtain⟨g0,g1,g2,g3,g4⟩:=GO.out w6 B6.out;go_wp2_with fail;refine(jT t w6 ((TK.out.qC B6.out Zl).more B6.out.size) hfp.out (by omega)).mono ?_;rintro e w7 ⟨rfl,b7⟩;rw[HM0.out];go_wp2_with fail;go_ret2;exact⟨B6.out.trans (b7.mono B6.out.size),.inl rfl⟩
   ·have P6:=Zh (P7.DG.Xb HP.out HL.out ld);have L6:=Zh ld.lg;have B6:Hid (Below w.heap.size w w6):=Zh (HW.out.trans (ld.AB HP.out.dc HL.out));have HX6:=Zh hx';have HR6:=Zh hr';have HM0:=Zh hm0;have HBN:=Zh (tP (er t) d 1 0);have HBL:=Zh (GP (er t) d 1 0);have HGB:=Zh (yf (er t) d 1 0 HGD.out);clear ld hx' hr' hm0 CB g0 g1 g2 g3 g4 HP HL;have CRB:Hid (∀wz,Below w6.heap.size w6 wz->Calls prog 24 #[.pointer (some ⟨q,0,none⟩),.int .i64 1,.int .i64 0,.agg #[.string t.tag,.string t.txt,.string t.key,.slice t.sa.A t.sa.n t.sa.c,.slice t.sk.A t.sk.n t.sk.c]] wz (x9 wz w.heap.size w.heap.size q y (TC d 1 0 (er t)))):=Zh (fun wz hz=>by
     have:=Vd t 1 0 wz w.heap.size w.heap.size q y Zl (by rw[HY.out];exact HGD.out.1) (by omega) (P6.out.below hz).rf (TK.out.qC (B6.out.trans (hz.mono B6.out.size)) Zl) hfp.out (by omega);rw[HY.out] at this;exact this)
    have hcod:=HBN.out.2.1;obtain⟨vi,hvi⟩:=qA (OV d 1 0 (er t));rw[hvi];obtain⟨rn,hrn⟩:=qA (TC d 1 0 (er t));rw[hrn] at HX6 HR6 CRB HBN HBL HGB hcod|-;by_cases hcd:rn.err=0
    ·rw[hcd,show UA 0= .nilIface from rfl];have HCD:=Zh hcd;clear hcd hvi hrn hcod;obtain⟨g0,g1,g2,g3,g4⟩:=GO.out w6 B6.out;go_wp2_with fail;refine(jT t w6 ((TK.out.qC B6.out Zl).more B6.out.size) hfp.out (by omega)).mono ?_;rintro e w7 ⟨rfl,b7⟩;rw[HM0.out];have P7:=Zh (P6.out.below b7);have L7:=Zh (L6.out.below b7);have B7:=Zh (B6.out.trans (b7.mono B6.out.size));have CR7:=Zh (CRB.out w7 b7);clear b7 P6 L6 CRB g0 g1 g2 g3 g4;obtain⟨g0,g1,g2,g3,g4⟩:=GO.out w7 B7.out;go_wp2_with fail;refine CR7.out.mono ?_;rintro e w8 ⟨A8,n8,c8,y',ms,rfl,rd,hy',o8,hms,hri⟩;rw[HCD.out];have G8:Hid (Bg w8 w.heap.size g p q rn.d (3*xB ((ts.map er).take (k+1)))):=Zh ⟨⟨x',y',vd',rs',P7.out.sK rd,HX6.out,hy',L7.out.sK P7.out.rf rd,by
      have h1:=congrArg List.length HR6.out;have h2:=HBL.out;rw[List.length_append,List.length_map,List.length_map] at h1;rw[HC1.out];omega⟩,HGB.out⟩
     have B8:Hid (Below w.heap.size w w8):=Zh (B7.out.trans (rd.AB P7.out.rf));have hn8:rn.d.n<=1+(xB ((ts.map er).take (k+1)):Int):=by
      have h1:=HBN.out.2.2.2;rw[HC1.out];omega
     clear rd hy' o8 hms hri P7 L7 B7 CR7 g0 g1 g2 g3 g4;go_wp2_with fail;go_roundw
     case rel=>exact⟨k+1,rn.d,by omega,by go_num,hn8,G8,B8⟩
     case measure=>simp[intOf];omega
    ·have e7:UA rn.err= .iface 56 (.int .i64 rn.err):=(by unfold UA;rw[if_neg hcd]);rw[e7];clear hcd hvi hrn e7;obtain⟨g0,g1,g2,g3,g4⟩:=GO.out w6 B6.out;go_wp2_with fail;refine(jT t w6 ((TK.out.qC B6.out Zl).more B6.out.size) hfp.out (by omega)).mono ?_;rintro e w7 ⟨rfl,b7⟩;go_wp2_with fail;go_ret2;exact⟨B6.out.trans (b7.mono B6.out.size),.inl rfl⟩
  ·obtain rfl:k=m:=by omega
   obtain⟨⟨x,y,vd,rs,hp,hx,hy,hl,hrl⟩,hgd⟩:=HG.out;go_wp2_with fail;go_ret2;exact⟨HW.out,.inr ⟨p,q,x,y,rfl,hp,by rw[hx,hy],by rw[hx];exact hgd,by have h1:x.n=d.n:=congrArg D.n hx;have h2:=bW (ts.map er) k;have:=HCT.out;omega⟩⟩
end P20
namespace P8
open Go.RowKit Kd P4 P5
variable{B p:Nat}{x:Dx}
theorem El(hwf:WF x.d){w:World}(h:Dc w B p x){k:Nat}(hk:k<x.rs.length){i:Int}(hy:x.rs[k].nd.id=i):x.rs[k].nd.id=i/\x.rs[k].nd.par=yA x.l i/\x.rs[k].nd.kids=xA x.l i/\x.rs[k].nd.attrs.length<=1000/\x.rs[k].nd.kids.length<=1000:=by
 have a:=gF h hk hy;have b:=tQ h hwf hk;exact⟨hy,a.2.1.symm,a.2.2.symm,b.1,b.2.1⟩
end P8
namespace P20
open Go.RowKit Kd P4 P5 P7 P8 P11 P12 P13 P14 P16 P19 P21
theorem Iq{w:World}{B p:Nat}{x:Dx}{y:Int}{nd:Nd}(hwf:WF x.d)(hf:find x.l y=some nd)(h:Dc w B p x):Calls prog 19 #[.pointer (some ⟨p,0,none⟩),.int .i64 y] w (jR w nd):=by
 obtain⟨k,hk,hy,hfd⟩:=h.place (LH hf);obtain⟨q1,q2,q3,q4,q5⟩:=El hwf h hk hy;rw[hf] at hfd;injection hfd with hfd;exact XP y w hk hy hfd.symm (by rw[hfd];exact q4) (by rw[hfd];exact q5) h
theorem Jq(w:World):kB.pA (w.alloc (.cells #[.int .u8 4,.int .u8 1,.int .u8 120] 5 (3,4))) (w.heap.size+1) (some ⟨w.heap.size,0,none⟩) [4,1,120]:=Kind.pA.lit (heap_alloc_new w _) rfl
theorem Wt(K:YQ):∀w:World,Calls prog 4 #[] w fun e w'=>e= .returned (.bool true)/\Below w.heap.size w w':=by
 intro w;have q1:=cS;have q2:=sU;have q3:=FF;have q4:=dS;have q5:=TF;have kc:=fun(w:World) (C:Array Value) (n c:Nat)=>Lib.run_convert_bytes_const (P:=prog) w 23 5 C n c underlying23 underlying5
 have KK:=Zh K;clear K;go_enter func4,ntmps4;go_wp2_with fail;refine(fh 9 9 w rfl (by omega) (by omega)).mono ?_;rintro e w1 ⟨p,x,rfl,dc1,hd1,b1⟩;have D1:=Zh dc1;have E1:=Zh hd1;have B1:=Zh b1;clear dc1 hd1 b1;go_wp2_with fail;refine(jL (some ⟨p,0,none⟩) w1).mono ?_;rintro e w2 ⟨rfl,hw2⟩;have L2:Hid (Lg w2 w.heap.size w1.heap.size p (.slice none 0 0) []):=Zh (by rw[hw2];exact Lg.new B1.out.size p);have b2:Below w1.heap.size w1 w2:=(by rw[hw2];exact Zb _ _);have D2:=Zh (D1.out.below b2);have B2:=Zh (B1.out.trans (b2.mono B1.out.size));clear hw2 b2 D1 B1;generalize w1.heap.size=g at L2|-;have g9:wE (ME 9):=eQ (by omega) (by omega);have G1:Hid (wE x.d/\x.n=1):=Zh (by rw[E1.out];exact⟨g9,congrArg D.n E1.out⟩);have CO:=Zh (KK.out.outer w2 w.heap.size g p x _ [] 1 [] none 0 0 D2.out G1.out.1 (by have:=G1.out.2;omega) L2.out (by simp) (fun _ _=>Kind.pA.nil _ _ _) rfl Zl (by unfold maxLen;omega) (fun _=>rfl) (by omega));go_wp2_with fail;refine CO.out.mono ?_;rintro e w3 ⟨x3,vd3,rs3,rfl,ld3,hr3⟩;rw[E1.out,List.map_nil] at hr3|-;rw[jc];rw[Dl (s:=(ME 9,[])) (by rw[jc];decide)] at hr3;have E3:x3.d=ME 9:=congrArg Prod.fst hr3;have R3:rs3=[]:=(by have h:=congrArg Prod.snd hr3;simpa using h);subst R3;have D3:=Zh ld3.dc;have L3:=Zh ld3.lg;have B3:Hid (Below w.heap.size w w3):=Zh (B2.out.trans (ld3.AB D2.out L2.out));have G3:Hid (wE x3.d/\x3.n=1/\x3.d=ME 9):=Zh ⟨by rw[E3];exact g9,congrArg D.n E3,E3⟩;rw[show UA ((4:Nat):Int)= .iface 56 (.int .i64 4) from rfl];clear ld3 hr3 E3 CO D2 L2 B2 E1 G1 g9;have HB4:=Zh (Jq w3);have BX:Hid (Below w3.heap.size w3 (w3.alloc (.cells #[.int .u8 4,.int .u8 1,.int .u8 120] 5 (3,4)))):=Zh (Zb _ _);have PF3:Hid (∀k,kF p x3 g vd3 k->k<w3.heap.size):=Zh (fun k hk=>by
  rcases hk with hk|hk
  ·exact D3.out.lt hk
  ·exact L3.out.lt hk)
 have CI:Hid (Calls prog 18 #[.pointer (some ⟨g,0,none⟩),.pointer (some ⟨p,0,none⟩),.int .i64 1,.slice (some ⟨w3.heap.size,0,none⟩) 3 3] (w3.alloc (.cells #[.int .u8 4,.int .u8 1,.int .u8 120] 5 (3,4))) (aI (w3.alloc (.cells #[.int .u8 4,.int .u8 1,.int .u8 120] 5 (3,4))) w.heap.size g p x3 vd3 [] 1 [4,1,120] false)):=
  Zh (KK.out.inner (w3.alloc (.cells #[.int .u8 4,.int .u8 1,.int .u8 120] 5 (3,4))) w.heap.size g p x3 vd3 [] 1 [4,1,120] (some ⟨w3.heap.size,0,none⟩) 3 3 (D3.out.below BX.out) G3.out.1 (by have:=G3.out.2.1;omega) (L3.out.below BX.out) (by simp)
   (fun w' h=>(HB4.out.sB (fun b hb _=>by
    obtain⟨o,ho⟩:=hb;injection ho with ho;injection ho with ho _;subst ho;exact h.block _ (by simp) (fun e=>by have:=PF3.out _ e;omega))).more (by have h1:=h.size;have h2:(w3.alloc (.cells #[.int .u8 4,.int .u8 1,.int .u8 120] 5 (3,4))).heap.size=w3.heap.size+1:=(by simp);omega))
   rfl Zl (by unfold maxLen;omega) (fun e=>by cases e) (by omega))
 have D3a:=Zh (D3.out.below BX.out);have L3a:=Zh (L3.out.below BX.out);have B3a:=Zh (B3.out.trans (BX.out.mono B3.out.size));clear PF3 HB4 D3 L3 B3 BX;go_wp2_with fail;refine CI.out.mono ?_;rintro e w4 ⟨x4,vd4,rs4,rfl,ld4,hr4⟩;rw[G3.out.2.2,List.map_nil] at hr4|-;rw[jt];have D4:=Zh ld4.dc;have L4:=Zh ld4.lg;have B4:Hid (Below w.heap.size w w4):=Zh (B3a.out.trans (ld4.AB D3a.out L3a.out));have X4:x4.d=(dD (ME 9,([]:List Rc)) 1 [4,1,120] false).2.1:=congrArg Prod.fst hr4;have G4:Hid (wE x4.d/\x4.n<=200):=Zh (by
  have h1:=YU (s:=(ME 9,([]:List Rc))) (eQ (R:=9) (by omega) (by omega)).1 1 [4,1,120] false;have h2:x4.d.n<=1+120:=(by rw[X4];exact h1.2.1);have h3:x4.d.n=x4.n:=rfl;exact⟨by rw[X4];exact wh (s:=(ME 9,[])) (eQ (by omega) (by omega)) _ _ _,by omega⟩)
 have ND:∃nd,find x4.l 2=some nd/\nd.txt=⟨#[120]⟩:=by
  have h:=nt;rw[<-X4] at h;cases hf:find x4.l 2 with
  |none=>rw[show find x4.d.l 2=none from hf] at h;cases h
  |some nd=>rw[show find x4.d.l 2=some nd from hf] at h;exact⟨nd,rfl,by injection h⟩
 obtain⟨nd,hnd,hnt⟩:=ND;have HR4:=Zh hr4;have CT:=Zh (Iq G4.out.1.1 hnd D4.out);rw[show UA (((0:Nat)):Int)= .nilIface from rfl];clear ld4 hr4 X4 CI D3a L3a B3a G3 hnd;go_wp2_with fail;refine CT.out.mono ?_;rintro e w5 ⟨A5,n5,c5,A6,n6,c6,rfl,_,_,b5⟩;rw[show XA nd A5 n5 c5 A6 n6 c6=#[.int .i64 nd.id,.int .i64 nd.par,.string nd.tag,.string nd.txt,.string nd.key,.slice A5 n5 c5,.slice A6 n6 c6,.int .i64 nd.note] from rfl,hnt];have D5:=Zh (D4.out.below b5);have L5:=Zh (L4.out.below b5);have B5:=Zh (B4.out.trans (b5.mono B4.out.size));clear b5 CT D4 L4 B4 hnt;obtain⟨v0,hv0⟩:=qA nd.id;obtain⟨v1,hv1⟩:=qA nd.par;obtain⟨v2,hv2⟩:=qA nd.tag;obtain⟨v4,hv4⟩:=qA nd.key;obtain⟨v7,hv7⟩:=qA nd.note;rw[hv0,hv1,hv2,hv4,hv7];clear hv0 hv1 hv2 hv4 hv7;have XN:Hid ((w5.alloc (.cells #[.int .i64 v0,.int .i64 v1,.string v2,.string ⟨#[120]⟩,.string v4,.slice A5 n5 c5,.slice A6 n6 c6,.int .i64 v7] 53)).heap[w5.heap.size]? = some (.cells #[.int .i64 v0,.int .i64 v1,.string v2,.string ⟨#[120]⟩,.string v4,.slice A5 n5 c5,.slice A6 n6 c6,.int .i64 v7] 53 (0,0))):=Zh (heap_alloc_new w5 _);have BN:Hid (Below w5.heap.size w5 (w5.alloc (.cells #[.int .i64 v0,.int .i64 v1,.string v2,.string ⟨#[120]⟩,.string v4,.slice A5 n5 c5,.slice A6 n6 c6,.int .i64 v7] 53))):=Zh (Zb _ _);go_upto_region 8 with fail;generalize w5.alloc (.cells #[.int .i64 v0,.int .i64 v1,.string v2,.string ⟨#[120]⟩,.string v4,.slice A5 n5 c5,.slice A6 n6 c6,.int .i64 v7] 53)=w6 at XN BN|-;have D6:=Zh (D5.out.below BN.out);have L6:=Zh (L5.out.below BN.out);have B6:=Zh (B5.out.trans (BN.out.mono B5.out.size));have t3:w6.cell? ⟨w5.heap.size,3,none⟩=some (.string ⟨#[120]⟩):=cell_of_row w6 w5.heap.size 3 _ _ (0,0) XN.out;have qb:((⟨#[120]⟩:ByteArray).toList==[120])=true:=(by rw[ByteArray.toList_eq];rfl);clear D5 L5 B5 BN XN;go_wp2_with fail;refine(KK.out.lV p 1 none 0 0 w6).mono ?_;rintro e w7 ⟨rfl,b7⟩;rw[show UA 1= .iface 56 (.int .i64 1) from rfl];have D7:=Zh (D6.out.below b7);have L7:=Zh (L6.out.below b7);have B7:=Zh (B6.out.trans (b7.mono B6.out.size));have RL4:rs4.length<=100000:=by
  have h:=congrArg Prod.snd HR4.out;have h2:(dD (ME 9,([]:List Rc)) 1 [4,1,120] false).2.2.length<=100000:=(by decide +kernel);have h3:=congrArg List.length h;rw[List.length_map] at h3;omega
 have CN:=Zh (KK.out.inner w7 w.heap.size g p x4 vd4 rs4 9 [] none 0 0 D7.out G4.out.1 (by have:=G4.out.2;omega) L7.out RL4 (fun _ _=>Kind.pA.nil _ _ _) rfl Zl (by unfold maxLen;omega) (fun _=>rfl) (by omega));clear b7 D6 L6 B6 RL4;go_wp2_with fail;refine CN.out.mono ?_;rintro e w8 ⟨x8,vd8,rs8,rfl,ld8,_⟩;rw[HR4.out,pt];have B8:Hid (Below w.heap.size w w8):=Zh (B7.out.trans (ld8.AB D7.out L7.out));rw[show UA (((2:Nat)):Int)= .iface 56 (.int .i64 2) from rfl];clear ld8 CN D7 L7 B7;go_wp2_with fail;go_ret;exact⟨by first|rfl|simp,B8.out⟩
end P20
end Go.Proofs.YtngnkmeaaneklaaGreat
