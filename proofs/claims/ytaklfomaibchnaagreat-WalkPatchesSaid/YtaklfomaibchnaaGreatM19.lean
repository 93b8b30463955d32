/- A part of what the claimed theorem hangs on. No condition but those stated. -/
import Derived.Deep.RegionHeld3
import Derived.Deep.DeepCutAuto
import Derived.Test.YtaklfomaibchnaaGreatM1
import Derived.Test.YtaklfomaibchnaaGreatM5
import Derived.Test.YtaklfomaibchnaaGreatM7
import Derived.Test.YtaklfomaibchnaaGreatM8
import Derived.Test.YtaklfomaibchnaaGreatM9
import Derived.Test.YtaklfomaibchnaaGreatM12
import Derived.Test.YtaklfomaibchnaaGreatM13
import Derived.Test.YtaklfomaibchnaaGreatM18
set_option linter.unusedVariables false
set_option linter.unusedSimpArgs false
set_option maxRecDepth 100000
set_option maxHeartbeats 40000000
namespace Go.Proofs.YtaklfomaibchnaaGreat
namespace P16
open Go.RowKit Kd P4 P5 P11 P12 P13 P14 Mv
theorem eqgO:Tryz.prog.eqGuardType Tryz.prog.depth 183=false:=by kernel_rfl
theorem bytes_empty{b:ByteArray}(h:b.toList.isEmpty=true):b=⟨#[]⟩:=by
 obtain⟨⟨l⟩⟩:=b;rw[ByteArray.toList_eq,List.isEmpty_iff] at h;simp only at h;rw[h]
theorem fitsE_any(t:PW)(o:Ol)(q:Nat)(w:World)(h1:t.kind=1)(ht:t.tag.toList.isEmpty=false)(hk:t.key.toList.isEmpty=true)(hq:w.cell? ⟨q,1,none⟩=some (.string t.tag))(hlt:q<w.heap.size):
 Calls Tryz.prog 138 #[.agg #[.string o.tag,.string o.key],.pointer (some ⟨q,0,none⟩)] w fun e w'=>e = .returned (.bool (takesW t o true))∧Below w.heap.size w w':=by
 obtain⟨r,hr⟩:∃r,isK t.tag ⟨#[]⟩ o=r:=⟨_,rfl⟩;have HR:Hid (takesW t o true=(!o.tag.toList.isEmpty&&r)):=Zh (by
  rw[←hr];unfold takesW isK;rw[if_pos h1,bytes_empty hk];cases ho:o.tag.toList.isEmpty with
  |false=>simp
  |true=>
   have:bq o.tag t.tag=false:=by
    unfold bq;rw[List.isEmpty_iff] at ho;rw[ho];cases hx:t.tag.toList with
    |nil=>rw[hx] at ht;cases ht
    |cons _ _=>rfl
   rw[this];simp)
 rw[HR.out];have B1:Hid (Below w.heap.size w (w.alloc (.cells #[.string o.tag,.string o.key] 183))):=Zh (Zb _ _);have X1:Hid ((w.alloc (.cells #[.string o.tag,.string o.key] 183)).heap[w.heap.size]? = some (.cells #[.string o.tag,.string o.key] 183 (0,0))):=Zh (heap_alloc_new w _);have HQ:Hid (w.cell? ⟨q,1,none⟩=some (.string t.tag)):=Zh hq;have HRR:Hid (r=(decide (o.tag.toList=t.tag.toList)&&decide (o.key.toList=[]))):=Zh (by rw[←hr];unfold isK bq;rw[show(⟨#[]⟩:ByteArray).toList=[] from by simp[ByteArray.toList_eq]];rw[Bool.eq_iff_iff];simp only[Bool.and_eq_true,beq_iff_eq,decide_eq_true_eq]);clear hq HR hr h1 ht hk;generalize t.tag=tg at HQ HRR;obtain⟨tag,key⟩:=o;simp only at B1 X1 HRR⊢;have hg:=eqgO;go_enter Tryz.func138,Tryz.ntmps138;go_upto_region 1 with fail;have hqW:=(B1.out.cell (p:=⟨q,1,none⟩) hlt).trans HQ.out;generalize w.alloc (.cells #[.string tag,.string key] 183)=W at B1 X1 hqW⊢;have a0:W.cell? ⟨w.heap.size,0,none⟩=some (.string tag):=cell_of_row W w.heap.size 0 _ _ (0,0) X1.out;have a1:W.cell? ⟨w.heap.size,1,none⟩=some (.string key):=cell_of_row W w.heap.size 1 _ _ (0,0) X1.out;have CE:=Zh (isElement_any tag key W);obtain⟨et,het⟩:∃b,tag.toList.isEmpty=b:=⟨_,rfl⟩;rw[het] at CE;have HET:=Zh het;have HWS:Hid (w.heap.size<W.heap.size):=Zh (heap_lt X1.out);go_wp2_with fail;refine CE.out.mono ?_;rintro e w1 ⟨rfl,b1⟩;have a0':=(b1.cell (p:=⟨w.heap.size,0,none⟩) HWS.out).trans a0;have a1':=(b1.cell (p:=⟨w.heap.size,1,none⟩) HWS.out).trans a1;have q1':=(b1.cell (p:=⟨q,1,none⟩) (show q<W.heap.size by have:=HWS.out;omega)).trans hqW;have B2:=Zh (B1.out.trans (b1.mono B1.out.size));clear b1 a0 a1 hqW CE X1 het;have hrr:=HRR.out;subst hrr;clear HRR;cases et<;>(go_wp2_with fail)<;>(go_ret;exact⟨by first|rfl|(have h1:=HET.out;simp_all),B2.out⟩)
theorem fitsT_any(t:PW)(o:Ol)(w:World)(h2:t.kind=2):
 Calls Tryz.prog 139 #[.agg #[.string o.tag,.string o.key]] w fun e w'=>e = .returned (.bool (takesW t o true))∧Below w.heap.size w w':=by
 have HR:takesW t o true = !(!o.tag.toList.isEmpty):=by
  unfold takesW;rw[if_neg (by omega),if_pos h2];simp
 rw[HR];clear HR h2;have B1:Hid (Below w.heap.size w (w.alloc (.cells #[.string o.tag,.string o.key] 183))):=Zh (Zb _ _);have X1:Hid ((w.alloc (.cells #[.string o.tag,.string o.key] 183)).heap[w.heap.size]? = some (.cells #[.string o.tag,.string o.key] 183 (0,0))):=Zh (heap_alloc_new w _);obtain⟨tag,key⟩:=o;simp only at B1 X1⊢;go_enter Tryz.func139,Tryz.ntmps139;go_upto_region 1 with fail;generalize w.alloc (.cells #[.string tag,.string key] 183)=W at B1 X1⊢;have a0:W.cell? ⟨w.heap.size,0,none⟩=some (.string tag):=cell_of_row W w.heap.size 0 _ _ (0,0) X1.out;have a1:W.cell? ⟨w.heap.size,1,none⟩=some (.string key):=cell_of_row W w.heap.size 1 _ _ (0,0) X1.out;have CE:=Zh (isElement_any tag key W);obtain⟨et,het⟩:∃b,tag.toList.isEmpty=b:=⟨_,rfl⟩;rw[het] at CE;go_wp2_with fail;refine CE.out.mono ?_;rintro e w1 ⟨rfl,b1⟩;have B2:=Zh (B1.out.trans (b1.mono B1.out.size));clear b1;go_wp2_with fail;go_ret;exact⟨by rw[het];cases et<;>rfl,B2.out⟩
theorem fitsN_any(t:PW)(o:Ol)(w:World)(h3:t.kind=3):
 Calls Tryz.prog 140 #[.agg #[.string o.tag,.string o.key]] w fun e w'=>e = .returned (.bool (takesW t o true))∧Below w.heap.size w w':=by
 have HR:takesW t o true=true:=by
  unfold takesW;rw[if_neg (by omega),if_neg (by omega),if_pos h3]
 rw[HR];clear HR h3;have B1:Hid (Below w.heap.size w (w.alloc (.cells #[.string o.tag,.string o.key] 183))):=Zh (Zb _ _);go_enter Tryz.func140,Tryz.ntmps140;go_wp2_with fail;go_ret;exact⟨rfl,B1.out⟩
theorem takeFirstE_any{w:World}{B p g h m:Nat}{A:Option Addr}{n c:Nat}{old:List Ol}{left:List Bool}{F s:Nat}{f:Lit→Option Value}{nl:List Int}(x:Lf w B p g h m A n c old left F s f nl)
 (pw:PW) (hw:∀o,takesW pw o false=false) (q:Nat) (HF:∀(o:Ol) (wz:World),But (fun k=>k=p) w wz→Calls Tryz.prog 138 #[.agg #[.string o.tag,.string o.key],.pointer (some ⟨q,0,none⟩)] wz fun e w'=>e = .returned (.bool (takesW pw o true))∧Below wz.heap.size wz w'):
 Calls Tryz.prog 137 #[.pointer (some ⟨p,0,none⟩),.func (.func 138) #[] #[.pointer (some ⟨q,0,none⟩)]] w (TkV w B p g h m A n c old left (scanM pw old left old.length).1):=by
 have CF:=Zh (first_any x);have HFF:=Zh HF;have HLEN:=Zh x.len;have hsm:=x.small;have HSC:Hid (∀F',F'≤n→(∀i:Nat,i<F'→left[i]? = some false)→(F'=n→(scanM pw old left old.length).1 = -1)∧(∀(hl:F'<old.length),left[F']? = some true→(scanM pw old left old.length).1=if takesW pw old[F'] true then(F':Int) else -1)):=Zh (fun F' hF' hg=>⟨fun e=>by rw[scan_gone (n:=old.length) (fun i hi=>hg i (by have:=x.len;omega)) _ (Zl)],fun hl hlt=>scan_front hw hg hlt (List.getElem?_eq_getElem hl) hl⟩);clear x HF hw;generalize (scanM pw old left old.length).1=res at HSC⊢;go_enter Tryz.func137,Tryz.ntmps137;go_wp2_with fail;refine CF.out.mono ?_;rintro e w1 ⟨F',a,rfl,hfr,hle,x1,b1⟩;have XX:=Zh x1;have BB:=Zh b1;have hsc:=HSC.out F' x1.front x1.gone;clear CF HSC;rcases hfr with⟨rfl,rfl⟩|⟨hlt,rfl,hl⟩
 ·obtain rfl:=hsc.1 rfl;clear hsc x1 b1;go_wp2_with fail;go_ret;exact⟨rfl,⟨F',s,f,nl,by rw[leftM_none];exact XX.out⟩,BB.out.mono (T:=W3 p g m) (fun _ _ h=> .inl h)⟩
 ·have hlo:F'<old.length:=(by have:=HLEN.out;omega);have HRS:=Zh (hsc.2 hlo hl);obtain⟨b,o,rfl,hb,z0,z1⟩:=cell_of_o x1.old_ hlo;have CC:=Zh (HFF.out old[F'] w1 b1);have c0:=x1.c0;clear hsc x1 b1 HFF;generalize old[F']=ob at z0 z1 CC HRS;obtain⟨tag,key⟩:=ob;simp only at z0 z1 CC;obtain⟨tk,htk⟩:∃r,takesW pw ⟨tag,key⟩ true=r:=⟨_,rfl⟩;rw[htk] at CC HRS;clear htk;go_wp2_with fail;refine CC.out.mono ?_;rintro e w2 ⟨rfl,b2⟩;have X2:=Zh (XX.out.on b2);have B2:Hid (But (W3 p g m) w w2):=Zh ((BB.out.mono (T:=W3 p g m) (fun _ _ h=> .inl h)).trans (T:=fun _=>False) (But.of_below b2 _) (fun _ _ h=>h.elim));clear b2 z0 z1 c0 CC;cases tk with
  |false=>
   have hrs:=HRS.out;simp only[Bool.false_eq_true,if_false] at hrs;subst hrs;go_wp2_with fail;go_ret;exact⟨rfl,⟨F',s,f,nl,by rw[leftM_none];exact X2.out⟩,B2.out⟩
  |true=>
   have hrs:=HRS.out;simp only[if_true] at hrs;subst hrs;have c1:=X2.out.c1;obtain⟨bb,hbb,g0,gf⟩:=X2.out.taken hlt;clear hbb;go_wp2_with fail;go_ret;refine⟨rfl,⟨F',s,f,nl,?_⟩,?_⟩
   ·rw[leftM_nat];exact X2.out.take hlt
   ·exact But.setCell (S:=W3 p g m) (p:=⟨g,F',none⟩) B2.out (fun _=> .inr (.inl rfl)) _
theorem takeFirstT_any{w:World}{B p g h m:Nat}{A:Option Addr}{n c:Nat}{old:List Ol}{left:List Bool}{F s:Nat}{f:Lit→Option Value}{nl:List Int}(x:Lf w B p g h m A n c old left F s f nl)
 (pw:PW) (hw:∀o,takesW pw o false=false) (HF:∀(o:Ol) (wz:World),But (fun k=>k=p) w wz→Calls Tryz.prog 139 #[.agg #[.string o.tag,.string o.key]] wz fun e w'=>e = .returned (.bool (takesW pw o true))∧Below wz.heap.size wz w'):
 Calls Tryz.prog 137 #[.pointer (some ⟨p,0,none⟩),.func (.func 139) #[] #[]] w (TkV w B p g h m A n c old left (scanM pw old left old.length).1):=by
 have CF:=Zh (first_any x);have HFF:=Zh HF;have HLEN:=Zh x.len;have hsm:=x.small;have HSC:Hid (∀F',F'≤n→(∀i:Nat,i<F'→left[i]? = some false)→(F'=n→(scanM pw old left old.length).1 = -1)∧(∀(hl:F'<old.length),left[F']? = some true→(scanM pw old left old.length).1=if takesW pw old[F'] true then(F':Int) else -1)):=Zh (fun F' hF' hg=>⟨fun e=>by rw[scan_gone (n:=old.length) (fun i hi=>hg i (by have:=x.len;omega)) _ (Zl)],fun hl hlt=>scan_front hw hg hlt (List.getElem?_eq_getElem hl) hl⟩);clear x HF hw;generalize (scanM pw old left old.length).1=res at HSC⊢;go_enter Tryz.func137,Tryz.ntmps137;go_wp2_with fail;refine CF.out.mono ?_;rintro e w1 ⟨F',a,rfl,hfr,hle,x1,b1⟩;have XX:=Zh x1;have BB:=Zh b1;have hsc:=HSC.out F' x1.front x1.gone;clear CF HSC;rcases hfr with⟨rfl,rfl⟩|⟨hlt,rfl,hl⟩
 ·obtain rfl:=hsc.1 rfl;clear hsc x1 b1;go_wp2_with fail;go_ret;exact⟨rfl,⟨F',s,f,nl,by rw[leftM_none];exact XX.out⟩,BB.out.mono (T:=W3 p g m) (fun _ _ h=> .inl h)⟩
 ·have hlo:F'<old.length:=(by have:=HLEN.out;omega);have HRS:=Zh (hsc.2 hlo hl);obtain⟨b,o,rfl,hb,z0,z1⟩:=cell_of_o x1.old_ hlo;have CC:=Zh (HFF.out old[F'] w1 b1);have c0:=x1.c0;clear hsc x1 b1 HFF;generalize old[F']=ob at z0 z1 CC HRS;obtain⟨tag,key⟩:=ob;simp only at z0 z1 CC;obtain⟨tk,htk⟩:∃r,takesW pw ⟨tag,key⟩ true=r:=⟨_,rfl⟩;rw[htk] at CC HRS;clear htk;go_wp2_with fail;refine CC.out.mono ?_;rintro e w2 ⟨rfl,b2⟩;have X2:=Zh (XX.out.on b2);have B2:Hid (But (W3 p g m) w w2):=Zh ((BB.out.mono (T:=W3 p g m) (fun _ _ h=> .inl h)).trans (T:=fun _=>False) (But.of_below b2 _) (fun _ _ h=>h.elim));clear b2 z0 z1 c0 CC;cases tk with
  |false=>
   have hrs:=HRS.out;simp only[Bool.false_eq_true,if_false] at hrs;subst hrs;go_wp2_with fail;go_ret;exact⟨rfl,⟨F',s,f,nl,by rw[leftM_none];exact X2.out⟩,B2.out⟩
  |true=>
   have hrs:=HRS.out;simp only[if_true] at hrs;subst hrs;have c1:=X2.out.c1;obtain⟨bb,hbb,g0,gf⟩:=X2.out.taken hlt;clear hbb;go_wp2_with fail;go_ret;refine⟨rfl,⟨F',s,f,nl,?_⟩,?_⟩
   ·rw[leftM_nat];exact X2.out.take hlt
   ·exact But.setCell (S:=W3 p g m) (p:=⟨g,F',none⟩) B2.out (fun _=> .inr (.inl rfl)) _
theorem takeFirstN_any{w:World}{B p g h m:Nat}{A:Option Addr}{n c:Nat}{old:List Ol}{left:List Bool}{F s:Nat}{f:Lit→Option Value}{nl:List Int}(x:Lf w B p g h m A n c old left F s f nl)
 (pw:PW) (hw:∀o,takesW pw o false=false) (HF:∀(o:Ol) (wz:World),But (fun k=>k=p) w wz→Calls Tryz.prog 140 #[.agg #[.string o.tag,.string o.key]] wz fun e w'=>e = .returned (.bool (takesW pw o true))∧Below wz.heap.size wz w'):
 Calls Tryz.prog 137 #[.pointer (some ⟨p,0,none⟩),.func (.func 140) #[] #[]] w (TkV w B p g h m A n c old left (scanM pw old left old.length).1):=by
 have CF:=Zh (first_any x);have HFF:=Zh HF;have HLEN:=Zh x.len;have hsm:=x.small;have HSC:Hid (∀F',F'≤n→(∀i:Nat,i<F'→left[i]? = some false)→(F'=n→(scanM pw old left old.length).1 = -1)∧(∀(hl:F'<old.length),left[F']? = some true→(scanM pw old left old.length).1=if takesW pw old[F'] true then(F':Int) else -1)):=Zh (fun F' hF' hg=>⟨fun e=>by rw[scan_gone (n:=old.length) (fun i hi=>hg i (by have:=x.len;omega)) _ (Zl)],fun hl hlt=>scan_front hw hg hlt (List.getElem?_eq_getElem hl) hl⟩);clear x HF hw;generalize (scanM pw old left old.length).1=res at HSC⊢;go_enter Tryz.func137,Tryz.ntmps137;go_wp2_with fail;refine CF.out.mono ?_;rintro e w1 ⟨F',a,rfl,hfr,hle,x1,b1⟩;have XX:=Zh x1;have BB:=Zh b1;have hsc:=HSC.out F' x1.front x1.gone;clear CF HSC;rcases hfr with⟨rfl,rfl⟩|⟨hlt,rfl,hl⟩
 ·obtain rfl:=hsc.1 rfl;clear hsc x1 b1;go_wp2_with fail;go_ret;exact⟨rfl,⟨F',s,f,nl,by rw[leftM_none];exact XX.out⟩,BB.out.mono (T:=W3 p g m) (fun _ _ h=> .inl h)⟩
 ·have hlo:F'<old.length:=(by have:=HLEN.out;omega);have HRS:=Zh (hsc.2 hlo hl);obtain⟨b,o,rfl,hb,z0,z1⟩:=cell_of_o x1.old_ hlo;have CC:=Zh (HFF.out old[F'] w1 b1);have c0:=x1.c0;clear hsc x1 b1 HFF;generalize old[F']=ob at z0 z1 CC HRS;obtain⟨tag,key⟩:=ob;simp only at z0 z1 CC;obtain⟨tk,htk⟩:∃r,takesW pw ⟨tag,key⟩ true=r:=⟨_,rfl⟩;rw[htk] at CC HRS;clear htk;go_wp2_with fail;refine CC.out.mono ?_;rintro e w2 ⟨rfl,b2⟩;have X2:=Zh (XX.out.on b2);have B2:Hid (But (W3 p g m) w w2):=Zh ((BB.out.mono (T:=W3 p g m) (fun _ _ h=> .inl h)).trans (T:=fun _=>False) (But.of_below b2 _) (fun _ _ h=>h.elim));clear b2 z0 z1 c0 CC;cases tk with
  |false=>
   have hrs:=HRS.out;simp only[Bool.false_eq_true,if_false] at hrs;subst hrs;go_wp2_with fail;go_ret;exact⟨rfl,⟨F',s,f,nl,by rw[leftM_none];exact X2.out⟩,B2.out⟩
  |true=>
   have hrs:=HRS.out;simp only[if_true] at hrs;subst hrs;have c1:=X2.out.c1;obtain⟨bb,hbb,g0,gf⟩:=X2.out.taken hlt;clear hbb;go_wp2_with fail;go_ret;refine⟨rfl,⟨F',s,f,nl,?_⟩,?_⟩
   ·rw[leftM_nat];exact X2.out.take hlt
   ·exact But.setCell (S:=W3 p g m) (p:=⟨g,F',none⟩) B2.out (fun _=> .inr (.inl rfl)) _
structure ARel(w:World)(B p g h m:Nat)(A:Option Addr)(n c:Nat)(old:List Ol)(left:List Bool)(s:Nat)(f:Lit→Option Value)(nl:List Int)(q:Nat)(a:Int)(A3:Option Addr)(n3 c3:Nat)(wr:World):Prop where
 lf:Lf wr B p g h m A n c old (clearM left q) q s f nl
 own:kI.Own wr w.heap.size (.slice A3 n3 c3) (idxM left q)
 fr:(q=n∧a = -1)∨(q<n∧a=(q:Int)∧left[q]? = some true)
 but:But (W3 p g m) w wr
def AllV(w:World)(B p g h m:Nat)(A:Option Addr)(n c:Nat)(old:List Ol)(left:List Bool)(e:Ending)(w':World):Prop:=∃(A3:Option Addr) (n3 c3:Nat),e = .returned (.slice A3 n3 c3)∧kI.Own w' w.heap.size (.slice A3 n3 c3) (idxM left n)∧LfE w' B p g h m A n c old (List.replicate n false)∧But (W3 p g m) w w'
theorem all_next{w wa wr:World}{B p g h m:Nat}{A:Option Addr}{n c:Nat}{old:List Ol}{left:List Bool}{s:Nat}{f:Lit→Option Value}{nl:List Int}{q F' F0:Nat}{l0:List Bool}{a:Int}{v:Value}(hq:q≤n)(hl:left.length=n)
 (hb:But (W3 p g m) w wa) (ho:kI.Own wa w.heap.size v (idxM left q)) (x0:Lf wa B p g h m A n c old l0 F0 s f nl) (hf:FrA (clearM left q) n F' a) (hle:q≤F') (x:Lf wr B p g h m A n c old (clearM left q) F' s f nl) (hb2:But (fun k=>k=p) wa wr):
 Lf wr B p g h m A n c old (clearM left F') F' s f nl∧kI.Own wr w.heap.size v (idxM left F')∧((F'=n∧a = -1)∨(F'<n∧a=(F':Int)∧left[F']? = some true))∧But (W3 p g m) w wr:=by
 have hFn:F'≤n:=x.front;obtain⟨e1,e2⟩:=clear_gone (left:=left) (q:=q) (F'-q) (fun i h1 h2=>by
  have:=x.gone i (by omega);rw[clear_get h1 (by omega)] at this;exact this) (by omega)
 rw[show q+(F'-q)=F' by omega] at e1 e2;refine⟨by rw[e1];exact x,?_,?_,hb.trans (hb2.mono (T:=W3 p g m) (fun _ _ h=> .inl h)) (fun _ _ h=>h)⟩
 ·rw[e2];exact ho.but hb2 (fun i hi e=>x0.noI ho i hi (.inl e))
 ·rcases hf with h|⟨h1,h2,h3⟩
  ·exact .inl h
  ·rw[clear_get hle (by omega)] at h3;exact .inr ⟨h1,h2,h3⟩
theorem but_below{S:Nat→Prop}{w W w':World}(h:But S w W)(hb:Below w.heap.size W w'):But S w w':=
 h.trans (T:=fun i=>w.heap.size≤i) ⟨hb.os,hb.tape,hb.output,hb.size,fun i _ hn=>hb.block i (by omega)⟩ (fun i h1 h2=>by omega)
theorem takeAll_any{w:World}{B p g h m:Nat}{A:Option Addr}{n c:Nat}{old:List Ol}{left:List Bool}{F s:Nat}{f:Lit→Option Value}{nl:List Int}(x:Lf w B p g h m A n c old left F s f nl):
 Calls Tryz.prog 115 #[.pointer (some ⟨p,0,none⟩)] w (AllV w B p g h m A n c old left):=by
 have CF:=Zh (first_any x);have HLL:=Zh x.lenL;have hsm:=x.small;have hcl:=clear_gone (left:=left) (q:=0) F (fun i _ h2=>x.gone i (by omega)) (by have:=x.front;have:=x.lenL;omega);rw[Nat.zero_add,clearM_zero] at hcl;have X0:Hid (Lf w B p g h m A n c old (clearM left F) F s f nl):=Zh (by rw[hcl.1];exact x);have I0:Hid (idxM left F=[]):=Zh hcl.2;have CLF:Hid (clearM left F=left):=Zh hcl.1;have hFn:=x.front;have LT:Hid (B≤w.heap.size∧p<w.heap.size∧g<w.heap.size∧h<w.heap.size∧m<w.heap.size):=Zh ⟨x.le,x.plt,(x.own.lt rfl).2,(x.nx.lt rfl).2,x.map.lt⟩;clear x hcl;go_enter Tryz.func115,Tryz.ntmps115;go_wp2_with fail;refine CF.out.mono ?_;rintro e w1 ⟨F',a,rfl,hfr,hle,x1,b1⟩;have ST:Hid (ARel w B p g h m A n c old left s f nl F' a none 0 0 w1):=Zh (by
  obtain⟨h1,h2,h3,h4⟩:=all_next (w:=w) (v:=.slice none 0 0) hFn HLL.out (But.refl _ _) (by rw[I0.out];exact Kind.Own.nil kI w _) X0.out (by rw[CLF.out];exact hfr) hle (by rw[CLF.out];exact x1) b1;exact⟨h1,h2,h3,h4⟩)
 clear CF hfr x1 b1 X0 I0 CLF;go_wp2_with fail
 go_loopg [3,4] (n-F') (fun k s3 s4 wr=>∃(q:Nat) (a:Int) (A3:Option Addr) (n3 c3:Nat),k=n-q∧s3 = .slice A3 n3 c3∧s4 = .int .i64 a∧Hid (ARel w B p g h m A n c old left s f nl q a A3 n3 c3 wr))
 case atStart=>exact⟨F',a,none,0,0,rfl,rfl,rfl,ST⟩
 case round=>
  obtain⟨q,a,A3,n3,c3,rfl,rfl,rfl,HR⟩:=hrel;clear ST;rcases HR.out.fr with⟨rfl,rfl⟩|⟨hlt,rfl,hlq⟩
  ·go_wp2_with fail;go_ret;refine⟨A3,n3,c3,rfl,HR.out.own,⟨q,s,f,nl,?_⟩,HR.out.but⟩;have h1:=HR.out.lf;have h2:=clearM_all left;rw[HLL.out] at h2;rw[h2] at h1;exact h1
  ·have HLQ:=Zh hlq;have hql:q<left.length:=(by have:=HLL.out;omega);obtain⟨bb,_,g0,gf⟩:=HR.out.lf.taken hlt;have c1:=HR.out.lf.c1;have XT:Hid (Lf (wr.setCell ⟨g,q,none⟩ (.bool true)) B p g h m A n c old (clearM left (q+1)) q s f nl):=Zh (by
    have:=HR.out.lf.take hlt;rw[clearM_yes hql] at this;exact this)
   have BT:Hid (But (W3 p g m) w (wr.setCell ⟨g,q,none⟩ (.bool true))):=Zh (But.setCell (S:=W3 p g m) (p:=⟨g,q,none⟩) HR.out.but (fun _=> .inr (.inl rfl)) _);have OT:Hid (kI.Own (wr.setCell ⟨g,q,none⟩ (.bool true)) w.heap.size (.slice A3 n3 c3) (idxM left q)):=Zh (HR.out.own.but (set_but wr g q (.bool true)) (fun i hi e=>HR.out.lf.noI HR.out.own i hi (.inr (.inl e))));have IY:=Zh (idxM_yes hlq);have hil:=idxM_len left q;have HW:Hid (w.heap.size≤(wr.setCell ⟨g,q,none⟩ (.bool true)).heap.size):=Zh BT.out.size;clear hlq HR;go_upto_region 6 with fail;generalize wr.setCell ⟨g,q,none⟩ (.bool true)=W at XT BT OT HW⊢;have LD:Hid (kI.Holds (W.alloc (.cells #[.int .i64 (q:Int)] 3)) (W.heap.size+1) (some ⟨W.heap.size,0,none⟩) [(q:Int)]):=Zh (Kind.Holds.lit (heap_alloc_new W _) rfl);go_upto_region 4 with(at_builtin;refine kI.wp_app rfl _ _ rfl (v:=.slice A3 n3 c3) (l:=idxM left q) (m:=[(q:Int)]) (B:=w.heap.size) rfl (OT.out.alloc _) rfl rfl (fun e=>by cases e) LD.out (by simp;omega) (by have:=HW.out;simp;omega) ?_;intro v' w7 hown hgrow hat;have B7:Hid (Below w.heap.size W w7):=Zh ((Ze.alloc HW.out _).grown hgrow (by have:=HW.out;simp;omega) (fun i hi=>(OT.out.lt hi).1));obtain⟨A7,n7,c7,rfl,_,_,_,_,_⟩:=hown.slice;have O7:=Zh hown;clear hown hgrow hat);have X7:Hid (Lf w7 B p g h m A n c old (clearM left (q+1)) q s f nl):=Zh (XT.out.below B7.out LT.out.1 LT.out.2.1 LT.out.2.2.1 LT.out.2.2.2.1 LT.out.2.2.2.2);have BB7:Hid (But (W3 p g m) w w7):=Zh (but_below BT.out B7.out);have CF:=Zh (first_any X7.out);clear XT BT OT LD B7;go_wp2_with fail;refine CF.out.mono ?_;rintro e w8 ⟨F8,a8,rfl,hfr,hle8,x8,b8⟩;have hF8:q+1≤F8:=by
    rcases hfr with⟨e,_⟩|⟨_,_,h3⟩
    ·omega
    ·by_cases e:F8=q
     ·subst e;rw[clear_lo (by omega) (by omega)] at h3;cases h3
     ·omega
   have NR:Hid (ARel w B p g h m A n c old left s f nl F8 a8 A7 n7 c7 w8):=Zh (by
    obtain⟨h1,h2,h3,h4⟩:=all_next (w:=w) (v:=.slice A7 n7 c7) (q:=q+1) hlt HLL.out BB7.out (by rw[IY.out];exact O7.out) X7.out hfr hF8 x8 b8;exact⟨h1,h2,h3,h4⟩)
   clear hfr x8 b8 CF X7 O7 BB7;go_wp2_with fail
   go_roundg (n-F8)
   case measure=>omega
   case rel=>exact⟨F8,a8,A7,n7,c7,rfl,rfl,rfl,NR⟩
theorem el16{x:PW}(h:WfW x)(h1:x.kind=1):x.tag.toList.isEmpty=false∧x.tag.size≤maxLen∧x.key.size≤maxLen:=by
 have ne:∀{a:ByteArray},P1.nameB a.data.toList=true→a.toList.isEmpty=false:=fun {a} h=>by
  rw[ByteArray.toList_eq];cases e:a.data.toList with
  |nil=>rw[e] at h;cases h
  |cons _ _=>rfl
 have vn:∀{l:List UInt8},P1.voidB l=true→P1.nameB l=true:=fun {l} h=>by
  unfold P1.voidB at h;simp only[Bool.or_eq_true,beq_iff_eq] at h;rcases h with((h|h)|h)|h<;>rw[h]<;>decide
 have sm:∀{n:Nat},n≤300→n≤maxLen:=fun h=>by unfold maxLen;omega
 cases h with
 |@el tag key attrs kids hm _ _=>
  have hs:=may_small hm;simp only at hs;simp only[mayI,if_true,Bool.and_eq_true,Bool.not_eq_true'] at hm;exact⟨ne hm.1.1,sm (by show tag.size≤300;omega),sm (by show key.size≤300;omega)⟩
 |@vo tag key attrs hm _=>
  have hs:=may_small hm;simp only at hs;exact⟨ne (vn (may_void hm)),sm (by show tag.size≤300;omega),sm (by show key.size≤300;omega)⟩
 |tx=>simp[PW.kind] at h1
 |nd=>simp[PW.kind] at h1
 |al=>simp[PW.kind] at h1
theorem kinds16{x:PW}(h:WfW x):x.kind=1∨x.kind=2∨x.kind=3∨x.kind=4:=by
 cases h<;>simp[PW.kind]
theorem TkV.of{w W:World}{B p g h m:Nat}{A:Option Addr}{n c:Nat}{old:List Ol}{left:List Bool}{a:Int}{e:Ending}{w':World}(hb:Below w.heap.size w W)(x:TkV W B p g h m A n c old left a e w'):TkV w B p g h m A n c old left a e w':=
 ⟨x.1,x.2.1,(But.of_below hb (W3 p g m)).trans x.2.2 (fun _ _ h=>h)⟩
theorem take_any{w:World}{B p g h m:Nat}{A:Option Addr}{n c:Nat}{old:List Ol}{left:List Bool}{F s:Nat}{f:Lit→Option Value}{nl:List Int}(x:Lf w B p g h m A n c old left F s f nl)(t:WV)(hw:WfW (er t)):
 Calls Tryz.prog 114 #[.pointer (some ⟨p,0,none⟩),.agg #[.int .i64 t.kind,.string t.tag,.string t.key,.string t.txt,.slice t.sa.A t.sa.n t.sa.c,.slice t.sk.A t.sk.n t.sk.c]] w (TkV w B p g h m A n c old left (scanM (er t) old left old.length).1):=by
 have hk:=kinds16 hw;have he:=el16 hw;obtain⟨kind,tg,ky,tx,sa,ats,sk,ks⟩:=t;rw[er_parts] at hk he⊢;simp only[WV.kind,WV.tag,WV.key,WV.txt,WV.sa,WV.sk,WV.attrs,WV.kids] at hk he⊢;generalize erL ks=kids at hk he⊢;obtain⟨A1,n1,c1⟩:=sa;obtain⟨A2,n2,c2⟩:=sk;simp only[PW.kind,PW.tag,PW.key] at hk he;have B1:Hid (Below w.heap.size w (w.alloc (.cells #[.int .i64 kind,.string tg,.string ky,.string tx,.slice A1 n1 c1,.slice A2 n2 c2] 69))):=Zh (Zb _ _);have X1:Hid ((w.alloc (.cells #[.int .i64 kind,.string tg,.string ky,.string tx,.slice A1 n1 c1,.slice A2 n2 c2] 69)).heap[w.heap.size]? = some (.cells #[.int .i64 kind,.string tg,.string ky,.string tx,.slice A1 n1 c1,.slice A2 n2 c2] 69 (0,0))):=Zh (heap_alloc_new w _);have XL:=Zh (x.alloc (.cells #[.int .i64 kind,.string tg,.string ky,.string tx,.slice A1 n1 c1,.slice A2 n2 c2] 69));have HQ:Hid (w.heap.size≠p):=Zh (by have:=x.plt;omega);have HE:=Zh he;clear x he hw;go_enter Tryz.func114,Tryz.ntmps114;go_upto_region 1 with fail;generalize hq:w.heap.size=q at X1 HQ B1⊢;rw[←hq] at B1;generalize (w.alloc (.cells #[.int .i64 kind,.string tg,.string ky,.string tx,.slice A1 n1 c1,.slice A2 n2 c2] 69))=W at B1 X1 XL⊢;have a0:W.cell? ⟨q,0,none⟩=some (.int .i64 kind):=cell_of_row W q 0 _ _ (0,0) X1.out;have a1:W.cell? ⟨q,1,none⟩=some (.string tg):=cell_of_row W q 1 _ _ (0,0) X1.out;have a2:W.cell? ⟨q,2,none⟩=some (.string ky):=cell_of_row W q 2 _ _ (0,0) X1.out;obtain⟨ek,hek⟩:∃b,ky.toList.isEmpty=b:=⟨_,rfl⟩;rcases hk with rfl|rfl|rfl|rfl
 ·obtain⟨h1,h2,h3⟩:=HE.out rfl;cases ek with
  |false=>
   have CT:=Zh (takeNamed_any XL.out (.mk 1 tg ky tx ats kids) rfl h1 hek h2 h3);simp only[PW.tag,PW.key] at CT;clear h1 h2 h3;go_wp2_with fail;refine CT.out.mono ?_;rintro e w2 hv;have HV:=Zh (TkV.of B1.out hv);obtain⟨rfl,_⟩:=hv;clear CT;go_wp2_with fail;go_ret;exact HV.out
  |true=>
   have CT:=Zh (takeFirstE_any XL.out (.mk 1 tg ky tx ats kids) (takes_first (by rintro⟨_,h⟩;simp only[PW.key] at h;rw[hek] at h;cases h)) q (fun o wz hb=>fitsE_any (.mk 1 tg ky tx ats kids) o q wz rfl h1 hek (cell_of_row wz q 1 _ _ (0,0) ((hb.block q (heap_lt X1.out) HQ.out).trans X1.out)) (by have:=hb.size;have:=heap_lt X1.out;omega)));clear h1 h2 h3;go_wp2_with fail;refine CT.out.mono ?_;rintro e w2 hv;have HV:=Zh (TkV.of B1.out hv);obtain⟨rfl,_⟩:=hv;clear CT;go_wp2_with fail;go_ret;exact HV.out
 ·have CT:=Zh (takeFirstT_any XL.out (.mk 2 tg ky tx ats kids) (takes_first (by rintro⟨h,_⟩;simp[PW.kind] at h)) (fun o wz _=>fitsT_any (.mk 2 tg ky tx ats kids) o wz rfl));go_wp2_with fail;refine CT.out.mono ?_;rintro e w2 hv;have HV:=Zh (TkV.of B1.out hv);obtain⟨rfl,_⟩:=hv;clear CT;go_wp2_with fail;go_ret;exact HV.out
 ·have CT:=Zh (takeFirstN_any XL.out (.mk 3 tg ky tx ats kids) (takes_first (by rintro⟨h,_⟩;simp[PW.kind] at h)) (fun o wz _=>fitsN_any (.mk 3 tg ky tx ats kids) o wz rfl));go_wp2_with fail;refine CT.out.mono ?_;rintro e w2 hv;have HV:=Zh (TkV.of B1.out hv);obtain⟨rfl,_⟩:=hv;clear CT;go_wp2_with fail;go_ret;exact HV.out
 ·have HV:Hid (TkV w B p g h m A n c old left (scanM (.mk 4 tg ky tx ats kids) old left old.length).1 (.returned (.int .i64 (-1))) W):=Zh (TkV.of B1.out (by
   have:(scanM (.mk 4 tg ky tx ats kids) old left old.length).1 = -1:=scan_none (fun j _ o _ f=>by simp[takesW,PW.kind]) _;rw[this];exact⟨rfl,⟨F,s,f,nl,by rw[leftM_none];exact XL.out⟩,But.refl _ _⟩))
  go_wp2_with fail;go_ret;exact HV.out
end P16
namespace P16
open Go.RowKit Kd P4 P5 P11 P12 P13 P14 Mv Go.ChangeMaps Go.MapKept
theorem map_rep(n:Nat):(List.replicate n true).map not=List.replicate n false:=by simp
theorem make_boolsW(M:Nat)(hM:M≤100000)(w:World):(Instr.makeSlice 154 (.int .i64 (M:Int)) (.int .i64 (M:Int))).run Tryz.prog w = .ok (.slice (some ⟨w.heap.size,0,none⟩) M M) (w.alloc (.cells (madeCells #[.bool false] M) 4)):=
 run_make_row' 154 4 (.bool false) 1 Tryz.underlying154 infoBo rfl .i64 .i64 M (by omega) (by omega) w
theorem infoInt:(Tryz.prog.info? 3).map (fun i=>(i.zero,i.size,i.bytes))=some (some (.int .i64 0),1,8):=by kernel_rfl
theorem make_intsW(M:Nat)(hM:M≤100000)(w:World):(Instr.makeSlice 23 (.int .i64 (M:Int)) (.int .i64 (M:Int))).run Tryz.prog w = .ok (.slice (some ⟨w.heap.size,0,none⟩) M M) (w.alloc (.cells (madeCells #[.int .i64 0] M) 3)):=
 run_make_row' 23 3 (.int .i64 0) 8 Tryz.underlying23 infoInt rfl .i64 .i64 M (by omega) (by omega) w
theorem cells_repI:∀M:Nat,kI.cells (List.replicate M 0)=List.replicate M (.int .i64 0)
 |0=>rfl
 |M+1=>by
  have h:=cells_repI M;simp only[Kind.cells,List.replicate_succ,List.flatMap_cons] at h⊢;rw[h];rfl
structure Nf(w:World)(B p g h m:Nat)(A:Option Addr)(n c:Nat)(old:List Ol)(s:Nat)(f:Lit→Option Value)(nl:List Int)(i:Nat):Prop where
 blk:w.heap[p]? = some (lfV A n c g 0 m h)
 Bp:B≤p
 Bm:B≤m
 old_:kO.Holds w B A old
 own:kBo.Own w B (.slice (some ⟨g,0,none⟩) n n) ((List.replicate n true).map not)
 nx:kI.Own w B (.slice (some ⟨h,0,none⟩) n n) nl
 map:MapIs Tryz.prog 183 w m s s f
 sz:s+i≤n
 nm:∀t k:ByteArray,t.size≤maxLen→k.size≤maxLen→t.toList.isEmpty=false→k.toList.isEmpty=false→Nmd (f (okL t k)) (nxM old t k i)
 nxt:NxOk old nl i
theorem Nf.lf{w:World}{B p g h m:Nat}{A:Option Addr}{n c:Nat}{old:List Ol}{s:Nat}{f:Lit→Option Value}{nl:List Int}(x:Nf w B p g h m A n c old s f nl 0)(hl:old.length=n)(hs:n≤1000)(hz:∀o∈old,o.tag.size≤maxLen∧o.key.size≤maxLen):
 Lf w B p g h m A n c old (List.replicate n true) 0 s f nl:=
 {blk:=x.blk,Bp:=x.Bp,Bm:=x.Bm,old_:=x.old_,own:=x.own,nx:=x.nx,map:=x.map,sz:=by have:=x.sz;omega,len:=hl,lenL:=by simp,small:=hs,szs:=hz,front:=Nat.zero_le _,gone:=fun i hi=>by omega,nm:=fun t k h1 h2 h3 h4=>⟨0,x.nm t k h1 h2 h3 h4,fun j _ hj=>by omega⟩,nxt:=x.nxt}
theorem own_int_set{w:World}{B g n c:Nat}{l:List Int}(h:kI.Own w B (.slice (some ⟨g,0,none⟩) n c) l){k:Nat}(hk:k<l.length)(v:Int):
 w.frozen? ⟨g,k,none⟩=false∧(w.cell? ⟨g,k,none⟩).isSome=true∧kI.Own (w.setCell ⟨g,k,none⟩ (.int .i64 v)) B (.slice (some ⟨g,0,none⟩) n c) (l.set k v):=by
 refine⟨?_,?_,?_⟩
 ·obtain⟨cur,hh⟩:=h.ty (g:=g) rfl;simp[World.frozen?,hh]
 ·obtain⟨A',n',c',hv,_,_,_,_,e5⟩:=h.slice;injection hv with h1 h2 h3;subst h1;subst h2;subst h3;obtain⟨b,o,hA,_,hc⟩:=cell_int e5 hk;injection hA with hA;injection hA with e1 e2 _;subst e1;subst e2;have hc:w.cell? ⟨g,k,none⟩=some (.int .i64 l[k]):=(by simpa using hc);rw[hc];rfl
 ·have:=own_setK h hk v;have e:k*kI.size=k:=Nat.mul_one k;rw[e] at this;exact this
section
variable{w w':World}{B p g h m:Nat}{A:Option Addr}{n c:Nat}{old:List Ol}{s:Nat}{f:Lit→Option Value}{nl:List Int}{i j:Nat}
theorem Nf.le(x:Nf w B p g h m A n c old s f nl i):B≤w.heap.size:=by have:=heap_lt x.blk;have:=x.Bp;omega
theorem Nf.on(x:Nf w B p g h m A n c old s f nl i)(hb:Below w.heap.size w w'):Nf w' B p g h m A n c old s f nl i:=
 {x with blk:=(hb.block p (heap_lt x.blk)).trans x.blk,old_:=x.old_.below hb x.le,own:=x.own.below hb (Zl),nx:=x.nx.below hb (Zl),map:=x.map.below hb x.map.lt}
theorem Nf.c3(x:Nf w B p g h m A n c old s f nl i):w.cell? ⟨p,3,none⟩=some (.map (some m)):=cell_of_row w p 3 _ _ (0,0) x.blk
theorem Nf.c4(x:Nf w B p g h m A n c old s f nl i):w.cell? ⟨p,4,none⟩=some (.slice (some ⟨h,0,none⟩) n n):=cell_of_row w p 4 _ _ (0,0) x.blk
theorem Nf.nlen(x:Nf w B p g h m A n c old s f nl i):nl.length=n:=by
 obtain⟨A',n',c',hv,e1,_⟩:=x.nx.slice;injection hv with h1 h2 h3;omega
theorem Nf.set(x:Nf w B p g h m A n c old s f nl (j+1))(hj:j<n)(v:Int):Nf (w.setCell ⟨h,j,none⟩ (.int .i64 v)) B p g h m A n c old s f (nl.set j v) (j+1):=by
 have hb:But (fun k=>k=h) w (w.setCell ⟨h,j,none⟩ (.int .i64 v)):=set_but w h j _;obtain⟨cur,hc⟩:=x.nx.ty (g:=h) rfl;obtain⟨cur',hc'⟩:=x.own.ty (g:=g) rfl;have h1:p≠h:=heap_ne x.blk hc (by decide);have h2:g≠h:=heap_ne hc' hc (by decide);have h3:h≠m:=not_map' x.map hc;exact {x with
  blk:=(hb.block p (heap_lt x.blk) h1).trans x.blk
  old_:=x.old_.keep (fun b _ hlt=>hb.block b (by have:=x.le;omega) (fun e=>by have:=(x.nx.lt (g:=h) rfl).1;omega))
  own:=x.own.but hb (fun i hi e=>h2 (by rw[←e];exact Option.some.inj hi))
  nx:=(own_int_set x.nx (by rw[x.nlen];exact hj) v).2.2
  map:=x.map.kept (hb.block m x.map.lt (fun e=>h3 e.symm))
  nxt:=fun q hq hjq a b=>by
   rw[List.getElem?_set_ne (by omega)];exact x.nxt q hq hjq a b}
theorem Nf.name(x:Nf w B p g h m A n c old s f nl (j+1))(hj:j<old.length)(h1:old[j].tag.size≤maxLen)(h2:old[j].key.size≤maxLen)(hv:nl[j]? = some (nxM old old[j].tag old[j].key (j+1)))
 (hm:MapIs Tryz.prog 183 w' m (s+1) (if(f (okL old[j].tag old[j].key)).isSome then s else s+1) (setL f (okL old[j].tag old[j].key) (some (.int .i64 (j:Int))))) (hg:w.grownBy w' (some m)):∃s',Nf w' B p g h m A n c old s' (setL f (okL old[j].tag old[j].key) (some (.int .i64 (j:Int)))) nl j:=by
 have hb:But (fun k=>k=m) w w':=But.of_grown hg (fun j hj _=>(Option.some.inj hj).symm);obtain⟨cur,hc⟩:=x.nx.ty (g:=h) rfl;obtain⟨cur',hc'⟩:=x.own.ty (g:=g) rfl;have e1:p≠m:=not_map' x.map x.blk;have e2:g≠m:=not_map' x.map hc';have e3:h≠m:=not_map' x.map hc;refine⟨_,{x with
  blk:=(hb.block p (heap_lt x.blk) e1).trans x.blk
  old_:=x.old_.keep (fun b _ hlt=>hb.block b (by have:=x.le;omega) (fun e=>by have:=x.Bm;omega))
  own:=x.own.but hb (fun i hi e=>e2 (by rw[←e];exact Option.some.inj hi))
  nx:=x.nx.but hb (fun i hi e=>e3 (by rw[←e];exact Option.some.inj hi))
  map:=hm.tight
  sz:=by have:=x.sz;split<;>omega
  nm:=fun t k a1 a2 a3 a4=>?_
  nxt:=fun q hq hjq a b=>?_}⟩
 ·by_cases e:okL t k=okL old[j].tag old[j].key
  ·obtain⟨rfl,rfl⟩:=ok_inj a1 a2 h1 h2 e;rw[nxM_yes hj (isK_iff.2 ⟨rfl,rfl⟩)];exact .inr (setL_put f _ _).1
  ·rw[(setL_put f _ _).2 _ e,nxM_no hj]
   ·exact x.nm t k a1 a2 a3 a4
   ·cases hx:isK t k old[j] with
    |false=>rfl
    |true=>
     obtain⟨rfl,rfl⟩:=isK_iff.1 hx;exact absurd rfl e
 ·by_cases e:q=j
  ·subst e;exact hv
  ·exact x.nxt q hq (by omega) a b
theorem Nf.pass(x:Nf w B p g h m A n c old s f nl (j+1))(hj:j<old.length)(hn:old[j].tag.toList.isEmpty=true∨old[j].key.toList.isEmpty=true):Nf w B p g h m A n c old s f nl j:=
 {x with
  sz:=by have:=x.sz;omega
  nm:=fun t k a1 a2 a3 a4=>by
   rw[nxM_no hj]
   ·exact x.nm t k a1 a2 a3 a4
   ·cases hx:isK t k old[j] with
    |false=>rfl
    |true=>
     obtain⟨rfl,rfl⟩:=isK_iff.1 hx;rcases hn with h|h
     ·rw[h] at a3;cases a3
     ·rw[h] at a4;cases a4
  nxt:=fun q hq hjq a b=>by
   by_cases e:q=j
   ·subst e;rcases hn with h|h
    ·rw[h] at a;cases a
    ·rw[h] at b;cases b
   ·exact x.nxt q hq (by omega) a b}
end
theorem new_made{w wr:World}{p g h m:Nat}{A:Option Addr}{n c:Nat}{old:List Ol}(hb:Below w.heap.size w wr)(hp:w.heap.size≤p)(hg:w.heap.size≤g)(hh:w.heap.size≤h)(hm:w.heap.size≤m)(ho:kO.Holds w w.heap.size A old)(hl:old.length=n)(hs:n≤1000)
 (h1:wr.heap[p]? = some (.cells #[.slice A n c,.slice (some ⟨g,0,none⟩) n n,.int .i64 0,.map (some m),.slice (some ⟨h,0,none⟩) n n] 199 (0,0)))
 (h2:wr.heap[g]? = some (.cells (madeCells #[.bool false] n) 4 (0,0))) (h3:wr.heap[h]? = some (.cells (madeCells #[.int .i64 0] n) 3 (0,0))) (h4:wr.heap[m]? = some (.map #[] 0)):
 Nf wr w.heap.size p g h m A n c old 0 (fun _=>none) (List.replicate n 0) n where
 blk:=h1
 Bp:=hp
 Bm:=hm
 old_:=ho.below hb (Zl)
 own:=by
  rw[map_rep];exact Kind.own_mk (by simp) hg h2 (Zl) (by unfold maxLen;omega) (by rw[size_madeCells];exact(Nat.mul_one n).symm) (by
   rw[toList_madeCells_one,List.take_of_length_le (by simp[kBo]),cells_rep])
 nx:=Kind.own_mk (by simp) hh h3 (Zl) (by unfold maxLen;omega) (by rw[size_madeCells];exact(Nat.mul_one n).symm) (by
  rw[toList_madeCells_one,List.take_of_length_le (by simp[kI]),cells_repI])
 map:=⟨.map [],⟨#[],0,h4,⟨by simp,stamped_empty 0,by simp⟩,Zl,rfl⟩,rfl,fun _=>rfl⟩
 sz:=by omega
 nm:=fun t k _ _ _ _=> .inl ⟨rfl,nxM_end (by omega)⟩
 nxt:=fun j hj hn=>by omega
def NewV(w:World)(A:Option Addr)(n c:Nat)(old:List Ol)(e:Ending)(w':World):Prop:=∃(p g h m:Nat) (s:Nat) (f:Lit→Option Value) (nl:List Int),e = .returned (.pointer (some ⟨p,0,none⟩))∧Lf w' w.heap.size p g h m A n c old (List.replicate n true) 0 s f nl∧Below w.heap.size w w'
theorem newLeft_any(old:List Ol)(A:Option Addr)(n c:Nat)(w:World)(hh:kO.Holds w w.heap.size A old)(hsz:∀o∈old,o.tag.size≤maxLen∧o.key.size≤maxLen)(hn:old.length=n)(hs:n≤1000):
 Calls Tryz.prog 113 #[.slice A n c] w (NewV w A n c old):=by
 have hm1:=make_boolsW n (by omega);have hm2:=make_intsW n (by omega);have hmm:=@run_makeMap Tryz.prog;have HH:=Zh hh;have HN:=Zh hn;have HS:=Zh hsz;have NM:=fun(wr:World) (p g h m:Nat)=>@new_made w wr p g h m A n c old
 have NM:=Zh NM;clear hh hn hsz;obtain⟨ob,hob⟩:∃o,o=Obj.cells (madeCells #[.bool false] n) 4 (0,0):=⟨_,rfl⟩;obtain⟨oi,hoi⟩:∃o,o=Obj.cells (madeCells #[.int .i64 0] n) 3 (0,0):=⟨_,rfl⟩;rw[←hob] at hm1 NM;rw[←hoi] at hm2 NM;clear hob hoi;go_enter Tryz.func113,Tryz.ntmps113;go_upto_region 1 with fail;go_cut [3] (fun s3 wx=>∃(p g h m:Nat),s3 = .pointer (some ⟨p,0,none⟩)∧Hid (Nf wx w.heap.size p g h m A n c old 0 (fun _=>none) (List.replicate n 0) n)∧Hid (Below w.heap.size w wx))
 case first=>
  go_region_held3 (fun _=>True) (trivial) (fail)
  all_goals (go_wp2_with fail;go_meet)
  ·exact⟨_,w.heap.size,w.heap.size+1+1,w.heap.size+1,rfl,Zh (NM.out _ _ _ _ _ ((((((Below.refl w.heap.size w).alloc (Zl) _).alloc (by simp) _).alloc (by simp;omega) _).alloc (by simp;omega) _).drew) (by omega) (by omega) (by omega) (by omega) HH.out HN.out hs (P5.heap_drew (heap_top (by simp))) (P5.heap_drew (heap_up (heap_up (heap_up (heap_top (by simp)))))) (P5.heap_drew (heap_up (heap_top (by simp)))) (P5.heap_drew (heap_up (heap_up (heap_top (by simp)))))),Zh ((((((Below.refl w.heap.size w).alloc (Zl) _).alloc (by simp) _).alloc (by simp;omega) _).alloc (by simp;omega) _).drew)⟩
  ·exact⟨_,w.heap.size,w.heap.size+1,w.heap.size+1+1,rfl,Zh (NM.out _ _ _ _ _ ((((((Below.refl w.heap.size w).alloc (Zl) _).alloc (by simp) _).alloc (by simp;omega) _).alloc (by simp;omega) _).drew) (by omega) (by omega) (by omega) (by omega) HH.out HN.out hs (P5.heap_drew (heap_top (by simp))) (P5.heap_drew (heap_up (heap_up (heap_up (heap_top (by simp)))))) (P5.heap_drew (heap_up (heap_up (heap_top (by simp))))) (P5.heap_drew (heap_up (heap_top (by simp))))),Zh ((((((Below.refl w.heap.size w).alloc (Zl) _).alloc (by simp) _).alloc (by simp;omega) _).alloc (by simp;omega) _).drew)⟩
  ·exact⟨_,w.heap.size+1,w.heap.size+1+1,w.heap.size,rfl,Zh (NM.out _ _ _ _ _ ((((((Below.refl w.heap.size w).alloc (Zl) _).alloc (by simp) _).alloc (by simp;omega) _).alloc (by simp;omega) _).drew) (by omega) (by omega) (by omega) (by omega) HH.out HN.out hs (P5.heap_drew (heap_top (by simp))) (P5.heap_drew (heap_up (heap_up (heap_top (by simp))))) (P5.heap_drew (heap_up (heap_top (by simp)))) (P5.heap_drew (heap_up (heap_up (heap_up (heap_top (by simp))))))),Zh ((((((Below.refl w.heap.size w).alloc (Zl) _).alloc (by simp) _).alloc (by simp;omega) _).alloc (by simp;omega) _).drew)⟩
  ·exact⟨_,w.heap.size+1+1,w.heap.size+1,w.heap.size,rfl,Zh (NM.out _ _ _ _ _ ((((((Below.refl w.heap.size w).alloc (Zl) _).alloc (by simp) _).alloc (by simp;omega) _).alloc (by simp;omega) _).drew) (by omega) (by omega) (by omega) (by omega) HH.out HN.out hs (P5.heap_drew (heap_top (by simp))) (P5.heap_drew (heap_up (heap_top (by simp)))) (P5.heap_drew (heap_up (heap_up (heap_top (by simp))))) (P5.heap_drew (heap_up (heap_up (heap_up (heap_top (by simp))))))),Zh ((((((Below.refl w.heap.size w).alloc (Zl) _).alloc (by simp) _).alloc (by simp;omega) _).alloc (by simp;omega) _).drew)⟩
  ·exact⟨_,w.heap.size+1,w.heap.size,w.heap.size+1+1,rfl,Zh (NM.out _ _ _ _ _ ((((((Below.refl w.heap.size w).alloc (Zl) _).alloc (by simp) _).alloc (by simp;omega) _).alloc (by simp;omega) _).drew) (by omega) (by omega) (by omega) (by omega) HH.out HN.out hs (P5.heap_drew (heap_top (by simp))) (P5.heap_drew (heap_up (heap_up (heap_top (by simp))))) (P5.heap_drew (heap_up (heap_up (heap_up (heap_top (by simp)))))) (P5.heap_drew (heap_up (heap_top (by simp))))),Zh ((((((Below.refl w.heap.size w).alloc (Zl) _).alloc (by simp) _).alloc (by simp;omega) _).alloc (by simp;omega) _).drew)⟩
  ·exact⟨_,w.heap.size+1+1,w.heap.size,w.heap.size+1,rfl,Zh (NM.out _ _ _ _ _ ((((((Below.refl w.heap.size w).alloc (Zl) _).alloc (by simp) _).alloc (by simp;omega) _).alloc (by simp;omega) _).drew) (by omega) (by omega) (by omega) (by omega) HH.out HN.out hs (P5.heap_drew (heap_top (by simp))) (P5.heap_drew (heap_up (heap_top (by simp)))) (P5.heap_drew (heap_up (heap_up (heap_up (heap_top (by simp)))))) (P5.heap_drew (heap_up (heap_up (heap_top (by simp)))))),Zh ((((((Below.refl w.heap.size w).alloc (Zl) _).alloc (by simp) _).alloc (by simp;omega) _).alloc (by simp;omega) _).drew)⟩
 case rest=>
  obtain⟨p,g,h,m,rfl,HX,HB⟩:=hcut;clear NM hm1 hm2 hmm HH;have HP:Hid (w.heap.size≤p∧w.heap.size≤g∧w.heap.size≤h∧w.heap.size≤m):=Zh ⟨HX.out.Bp,(HX.out.own.lt rfl).1,(HX.out.nx.lt rfl).1,HX.out.Bm⟩;have ST:=Zh (And.intro HX HB);clear HX HB;go_wp2_with fail
  go_loopg [4] n (fun q s4 wr=>∃(s:Nat) (f:Lit→Option Value) (nl:List Int),q≤n∧s4 = .int .i64 ((q:Int)-1)∧Hid (Nf wr w.heap.size p g h m A n c old s f nl q)∧Hid (Below w.heap.size w wr))
  case atStart=>
   exact⟨0,_,_,Zl,rfl,ST.out.1,ST.out.2⟩
  case round=>
   obtain⟨s,f,nl,hq,e4,HX,HB⟩:=hrel;clear ST;by_cases hq0:gk=0
   ·subst hq0;obtain rfl:=e4;have HL:=Zh (HX.out.lf HN.out hs HS.out);go_wp2_with fail;go_ret;exact⟨p,g,h,m,s,f,nl,rfl,HL.out,HB.out⟩
   ·obtain⟨j,rfl⟩:∃j,gk=j+1:=⟨gk-1,by omega⟩;have e5:u4 = .int .i64 (j:Int):=(by rw[e4];congr 1;omega);subst e5;clear e4 hq0;have hjl:j<old.length:=(by have:=HN.out;omega);obtain⟨b,o,rfl,hb,z0,z1⟩:=cell_of_o HX.out.old_ hjl;have OS:=Zh (HS.out _ (List.getElem_mem hjl));obtain⟨tag,htag⟩:∃t,old[j].tag=t:=⟨_,rfl⟩;obtain⟨key,hkey⟩:∃t,old[j].key=t:=⟨_,rfl⟩;rw[htag,hkey] at OS;rw[htag] at z0;rw[hkey] at z1;have HTG:=Zh htag;have HKY:=Zh hkey;clear htag hkey;go_upto_region 6 with fail;have HWR:Hid (w.heap.size≤wr.heap.size):=Zh HB.out.size;have B1:Hid (Below wr.heap.size wr (wr.alloc (.cells #[.string tag,.string key] 183))):=Zh (Zb _ _);have X1:Hid ((wr.alloc (.cells #[.string tag,.string key] 183)).heap[wr.heap.size]? = some (.cells #[.string tag,.string key] 183 (0,0))):=Zh (heap_alloc_new wr _);generalize hb5:wr.heap.size=b5 at X1 HWR B1⊢;rw[←hb5] at B1;generalize wr.alloc (.cells #[.string tag,.string key] 183)=W at B1 X1⊢;have HX1:=Zh (HX.out.on B1.out);have BW:Hid (Below w.heap.size w W):=Zh (HB.out.trans (B1.out.mono HB.out.size));have HR5:Hid (w.heap.size≤b5):=HWR;clear HX HB hb5 z0 z1 B1;have HB5:Hid (∀wz,Below W.heap.size W wz→wz.heap[b5]? = some (.cells #[.string tag,.string key] 183 (0,0))):=Zh (fun wz h=>(h.block b5 (heap_lt X1.out)).trans X1.out);have SK0:Hid (∀wz,Below W.heap.size W wz→wz.cell? ⟨p,4,none⟩=some (.slice (some ⟨h,0,none⟩) n n)∧wz.cell? ⟨b5,0,none⟩=some (.string tag)∧wz.cell? ⟨b5,1,none⟩=some (.string key)):=Zh (fun wz h=>⟨(HX1.out.on h).c4,(h.cell (p:=⟨b5,0,none⟩) (heap_lt X1.out)).trans (cell_of_row W b5 0 _ _ (0,0) X1.out),(h.cell (p:=⟨b5,1,none⟩) (heap_lt X1.out)).trans (cell_of_row W b5 1 _ _ (0,0) X1.out)⟩);have CE:=Zh (isElement_any tag key W);obtain⟨et,het⟩:∃b,tag.toList.isEmpty=b:=⟨_,rfl⟩;obtain⟨ek,hek⟩:∃b,key.toList.isEmpty=b:=⟨_,rfl⟩;rw[het] at CE;obtain⟨_,a0,a1⟩:=SK0.out W Ze;have HET:=Zh het;have HEK:=Zh hek;clear het;go_wp2_with fail;refine CE.out.mono ?_;rintro e w2 ⟨rfl,b2⟩;have B2:=Zh b2;have X2:=Zh (HX1.out.on b2);obtain⟨c4,a0,a1⟩:=SK0.out w2 b2;clear b2 CE;cases et with
    |true=>
     have XN:=Zh (X2.out.pass hjl (.inl (by rw[HTG.out,HET.out])));go_wp2_with fail
     go_roundg j
     case measure=>omega
     case rel=>exact⟨s,f,nl,by omega,by first|rfl|go_num,XN,Zh (BW.out.trans (B2.out.mono BW.out.size))⟩
    |false=>
     cases ek with
     |true=>
      have XN:=Zh (X2.out.pass hjl (.inr (by rw[HKY.out,HEK.out])));go_wp2_with fail
      go_roundg j
      case measure=>omega
      case rel=>exact⟨s,f,nl,by omega,by first|rfl|go_num,XN,Zh (BW.out.trans (B2.out.mono BW.out.size))⟩
     |false=>
      obtain⟨a,ha⟩:∃a,nxM old tag key (j+1)=a:=⟨_,rfl⟩;have HA:=Zh ha;have hjn:j<n:=(by omega);have HNA:Hid (∀w9,Below w2.heap.size w2 w9→Calls Tryz.prog 135 #[.pointer (some ⟨p,0,none⟩),.agg #[.string tag,.string key]] w9 fun e w'=>e = .returned (.int .i64 a)∧Below w9.heap.size w9 w'):=Zh (fun w9 hz=>namedAt_at (X2.out.on hz).c3 (heap_lt (X2.out.on hz).blk) (X2.out.on hz).map tag key OS.out.1 OS.out.2 a (by rw[←ha];exact X2.out.nm tag key OS.out.1 OS.out.2 HET.out HEK.out));have BV2:Hid (Below w.heap.size w w2):=Zh (BW.out.trans (B2.out.mono BW.out.size));clear ha;go_upto_region 7 with fail;clear hek a0 a1;have SK:=SK0.out w2 B2.out;go_region_held3 (fun w'=>w'.cell? ⟨p,4,none⟩=some (.slice (some ⟨h,0,none⟩) n n)∧w'.cell? ⟨b5,0,none⟩=some (.string tag)∧w'.cell? ⟨b5,1,none⟩=some (.string key)) (first|go_keep|exact SK|exact K11) ((first
       |(go_at_call 135;refine(HNA.out _ (by first|exact Below_drewN Ze _|exact Ze.drew|exact Ze)).mono ?_;rintro e w10 ⟨rfl,b10⟩;have B10:Hid (Below w2.heap.size w2 w10):=Zh (by first|exact(Below_drewN Ze _).trans b10|exact(Ze.drew).trans b10|exact b10);have X10:=Zh (X2.out.on B10.out);have SK:=SK0.out w10 (B2.out.trans (B10.out.mono B2.out.size));obtain⟨f10,c10,_⟩:=own_int_set X10.out.nx (k:=j) (by rw[X10.out.nlen];exact hjn) a;obtain⟨u10,hu10⟩:=Option.isSome_iff_exists.1 c10;have X11:=Zh (X10.out.set hjn a);have B11:Hid (Below w.heap.size w (w10.setCell ⟨h,j,none⟩ (.int .i64 a))):=Zh ((BV2.out.trans (B10.out.mono BV2.out.size)).trans ((set_but w10 h j _).to_below (fun i _ hi=>by have:=(X10.out.nx.lt (g:=h) rfl).1;omega) (BV2.out.trans (B10.out.mono BV2.out.size)).size));have H11:Hid ((w10.setCell ⟨h,j,none⟩ (.int .i64 a)).heap[b5]? = some (.cells #[.string tag,.string key] 183 (0,0))):=Zh (by have h5:=HB5.out w10 (B2.out.trans (B10.out.mono B2.out.size));obtain⟨cur,hc⟩:=X10.out.nx.ty (g:=h) rfl;exact((set_but w10 h j _).block b5 (heap_lt h5) (heap_ne h5 hc (by decide))).trans h5);have K11:(w10.setCell ⟨h,j,none⟩ (.int .i64 a)).cell? ⟨p,4,none⟩=some (.slice (some ⟨h,0,none⟩) n n)∧(w10.setCell ⟨h,j,none⟩ (.int .i64 a)).cell? ⟨b5,0,none⟩=some (.string tag)∧(w10.setCell ⟨h,j,none⟩ (.int .i64 a)).cell? ⟨b5,1,none⟩=some (.string key):=⟨X11.out.c4,cell_of_row _ b5 0 _ _ (0,0) H11.out,cell_of_row _ b5 1 _ _ (0,0) H11.out⟩;clear b10 c10)
       |fail))
      generalize w10.setCell ⟨h,j,none⟩ (.int .i64 a)=W11 at X11 B11 H11⊢;clear f10 hu10 X10 B10;have HV:Hid ((nl.set j a)[j]? = some (nxM old old[j].tag old[j].key (j+1))):=Zh (by rw[HTG.out,HKY.out,HA.out,List.getElem?_set_self (by rw[X2.out.nlen];exact hjn)]);have HKEY:Hid (keyOf Tryz.prog 183 (.agg #[.string tag,.string key])=some (okL tag key)):=Zh (key_o OS.out.1 OS.out.2);have hsz:=X11.out.sz;obtain⟨w12,run12,m12,g12⟩:=(X11.out.map.kept (w':=W11.drew) rfl).store (Maps.Keyed.of_law lawO) Tryz.underlying197 (by unfold maxLen;omega) (val:=.int .i64 (j:Int)) HKEY.out (setL_put f (okL tag key) (some (.int .i64 (j:Int))));have G12:=Zh (grown_drew g12);have X12:Hid (∃s',Nf w12 w.heap.size p g h m (some ⟨b,o,none⟩) n c old s' (setL f (okL tag key) (some (.int .i64 (j:Int)))) (nl.set j a) j):=Zh (by
       have:=X11.out.name (w':=w12) hjl (by rw[HTG.out];exact OS.out.1) (by rw[HKY.out];exact OS.out.2) HV.out (by rw[HTG.out,HKY.out];exact m12) G12.out;rw[HTG.out,HKY.out] at this;exact this)
      have B12:Hid (Below w.heap.size w w12):=Zh (B11.out.grown G12.out B11.out.size (fun i hi=>by have:=X11.out.Bm;have:=Option.some.inj hi;omega));have c3:=X11.out.c3;have a0:W11.cell? ⟨b5,0,none⟩=some (.string tag):=cell_of_row W11 b5 0 _ _ (0,0) H11.out;have a1:W11.cell? ⟨b5,1,none⟩=some (.string key):=cell_of_row W11 b5 1 _ _ (0,0) H11.out;have h12:w12.heap[b5]? = some (.cells #[.string tag,.string key] 183 (0,0)):=(G12.out.block b5 (heap_lt H11.out) (fun e=>not_map' X11.out.map H11.out (Option.some.inj e))).trans H11.out;obtain⟨s12,hx12⟩:=X12.out;have K12:w12.cell? ⟨p,3,none⟩=some (.map (some m))∧w12.cell? ⟨b5,0,none⟩=some (.string tag)∧w12.cell? ⟨b5,1,none⟩=some (.string key):=⟨hx12.c3,cell_of_row w12 b5 0 _ _ (0,0) h12,cell_of_row w12 b5 1 _ _ (0,0) h12⟩;have Y12:=Zh hx12;clear m12 g12 h12 hx12 X12 K11 SK;go_upto_region 8 with fail;go_region_held3 (fun w'=>w'.cell? ⟨p,3,none⟩=some (.map (some m))∧w'.cell? ⟨b5,0,none⟩=some (.string tag)∧w'.cell? ⟨b5,1,none⟩=some (.string key)) (first|go_keep|exact K12) (fail);go_wp2_with fail
      go_roundg j
      case measure=>omega
      case rel=>exact⟨s12,_,_,by omega,by first|rfl|go_num,Y12,B12⟩
end P16
namespace P16
open Go.RowKit Kd P4 P5 P11 P12 P13 P14
structure R3(w:World)(s:Ms)(n:Nat)(A1:Option Addr)(n1 c1:Nat)(A2:Option Addr)(n2 c2:Nat)(A3:Option Addr)(n3 c3:Nat):Prop where
 l1:s.take.length=n1
 l2:s.kept.length=n2
 l3:(idxM s.left n).length=n3
 h1:kI.Holds w w.heap.size A1 s.take
 h2:kI.Holds w w.heap.size A2 s.kept
 h3:kI.Holds w w.heap.size A3 (idxM s.left n)
 k1:n1≤c1
 k2:n2≤c2
 k3:n3≤c3
 z1:A1=none→c1=0
 z2:A2=none→c2=0
 z3:A3=none→c3=0
end P16
namespace P16
open Go.RowKit Kd P4 P5 P11 P12 P13 P14 Mv
structure OfRel(w w2:World)(B p g h m t0:Nat)(A:Option Addr)(n c:Nat)(old:List Ol)(ws:List PW)(n' j:Nat)(A3:Option Addr)(n3 c3:Nat)(wr:World):Prop where
 lf:LfE wr B p g h m A n c old (foldM old (ws.take j)).left
 tk:kI.Own wr w2.heap.size (.slice (some ⟨t0,0,none⟩) n' n') ((foldM old (ws.take j)).take++List.replicate (n'-j) 0)
 kp:kI.Own wr w2.heap.size (.slice A3 n3 c3) (foldM old (ws.take j)).kept
 ap:(Value.slice A3 n3 c3).ownBlock≠some t0
 res:wr.heap[w.heap.size]? = some (.cells #[.slice none 0 0,.slice none 0 0,.slice none 0 0] 147 (0,0))
 hb:Below w.heap.size w wr
theorem LfE.below{w w':World}{C B p g h m:Nat}{A:Option Addr}{n c:Nat}{old:List Ol}{left:List Bool}(x:LfE w B p g h m A n c old left)(hb:Below C w w')(h1:B≤C)(h2:p<C)(h3:g<C)(h4:h<C)(h5:m<C):LfE w' B p g h m A n c old left:=by
 obtain⟨F,s,f,nl,x⟩:=x;exact⟨F,s,f,nl,x.below hb h1 h2 h3 h4 h5⟩
theorem set_at{l:List Int}{j r:Nat}(h:l.length=j)(v:Int):(l++List.replicate (r+1) 0).set j v=l++[v]++List.replicate r 0:=by
 subst h;rw[List.set_append_right _ _ (Zl),Nat.sub_self,List.replicate_succ,List.set_cons_zero,List.append_assoc];rfl
theorem ownI_is{w:World}{D:Nat}{A:Option Addr}{n c:Nat}{l:List Int}(h:kI.Own w D (.slice A n c) l):l.length=n∧n≤c∧(A=none→c=0)∧kI.Holds w w.heap.size A l:=by
 obtain⟨A',n',c',hv,e1,e2,e3,e4,e5⟩:=h.slice;injection hv with h1 h2 h3;subst h1;subst h2;subst h3;exact⟨e1,e2,e4,e5⟩
theorem three_set(w:World)(b:Nat)(u0 u1 u2:Value):But (fun i=>i=b) w (((w.setCell ⟨b,0,none⟩ u0).setCell ⟨b,1,none⟩ u1).setCell ⟨b,2,none⟩ u2):=
 But.setCell (S:=fun i=>i=b) (p:=⟨b,2,none⟩) (But.setCell (S:=fun i=>i=b) (p:=⟨b,1,none⟩) (But.setCell (S:=fun i=>i=b) (p:=⟨b,0,none⟩) (But.refl _ _) (fun _=>rfl) _) (fun _=>rfl) _) (fun _=>rfl) _
structure Wn(w:World)(A:Option Addr)(n c:Nat)(ts:List WV):Prop where
 len:ts.length=n
 cap:n≤c
 nil:A=none→c=0
 holds:kW.Holds w w.heap.size A ts
 ok:∀t∈ts,WOk kW w w.heap.size t
theorem wn_of{w:World}{A:Option Addr}{n c:Nat}{ts:List WV}(h:Wm kW w A n c ts):Wn w A n c ts:=⟨h.len,h.cap,h.nil,h.holds,h.ok⟩
def MOfO(w:World)(s:Ms)(n:Nat)(e:Ending)(w':World):Prop:=∃(A1:Option Addr) (n1 c1:Nat) (A2:Option Addr) (n2 c2:Nat) (A3:Option Addr) (n3 c3:Nat),e = .returned (.agg #[.slice A1 n1 c1,.slice A2 n2 c2,.slice A3 n3 c3])∧R3 w' s n A1 n1 c1 A2 n2 c2 A3 n3 c3∧Below w.heap.size w w'∧kI.Own w' w.heap.size (.slice A1 n1 c1) s.take
theorem match_o(old:List Ol)(A:Option Addr)(n c:Nat)(ts:List WV)(A':Option Addr)(n' c':Nat)(w:World)(hh:kO.Holds w w.heap.size A old)(hsz:∀o∈old,o.tag.size≤maxLen∧o.key.size≤maxLen)(hn:old.length=n)(hs:n≤1000)(hm:Wn w A' n' c' ts)(hwf:∀t∈erL ts,WfW t)(hwt:wtL (erL ts)≤1000):
 Calls Tryz.prog 77 #[.slice A n c,.slice A' n' c'] w (MOfO w (foldM old (erL ts)) old.length):=by
 have B0:Hid (Below w.heap.size w (w.alloc (.cells #[.slice none 0 0,.slice none 0 0,.slice none 0 0] 147))):=Zh (Zb _ _);have R0:Hid ((w.alloc (.cells #[.slice none 0 0,.slice none 0 0,.slice none 0 0] 147)).heap[w.heap.size]? = some (.cells #[.slice none 0 0,.slice none 0 0,.slice none 0 0] 147 (0,0))):=Zh (heap_alloc_new w _);have HSZ:=Zh hsz;have HN:=Zh hn;have HH:=Zh hh;have HM:=Zh hm;have HWF:=Zh hwf;have hlen:=hm.len;have HL:=Zh hlen;have EL:Hid ((erL ts).length=n'):=Zh (by rw[erL_map];simpa using hlen);have hn1:n'≤1000:=(by have:=wtL_len (erL ts);have:=EL.out;omega);have hmk:=make_intsW n' (by omega);clear hh hsz hn hm hwf hlen hwt;go_enter Tryz.func77,Tryz.ntmps77;go_upto_region 1 with fail;generalize w.alloc (.cells #[.slice none 0 0,.slice none 0 0,.slice none 0 0] 147)=w1 at B0 R0⊢;have CN:=Zh (newLeft_any old A n c w1 (HH.out.on B0.out) HSZ.out HN.out hs);go_wp2_with fail;refine CN.out.mono ?_;rintro e w2 ⟨p,g,h,m,s,f,nl,rfl,x2,b2⟩;have X2:=Zh x2;have B2:=Zh (B0.out.trans (b2.mono B0.out.size));have R2:=Zh ((b2.block _ (heap_lt R0.out)).trans R0.out);have PR:Hid (w.heap.size<w1.heap.size∧w1.heap.size≤w2.heap.size∧w1.heap.size≤p∧w1.heap.size≤g∧w1.heap.size≤m):=Zh ⟨heap_lt R0.out,b2.size,x2.Bp,x2.Bg,x2.Bm⟩;have LT:Hid (p<w2.heap.size∧g<w2.heap.size∧h<w2.heap.size∧m<w2.heap.size):=Zh ⟨x2.plt,(x2.own.lt rfl).2,(x2.nx.lt rfl).2,x2.map.lt⟩;clear x2 b2 CN B0 R0;go_upto_region 3 with fail;have XM:=Zh (X2.out.alloc (.cells (madeCells #[.int .i64 0] n') 3));have OM:Hid (kI.Own (w2.alloc (.cells (madeCells #[.int .i64 0] n') 3)) w2.heap.size (.slice (some ⟨w2.heap.size,0,none⟩) n' n') (List.replicate n' 0)):=Zh (Kind.own_mk (by simp) (Zl) (heap_alloc_new w2 _) (Zl) (by unfold maxLen;omega) (by rw[size_madeCells];exact(Nat.mul_one n').symm) (by rw[toList_madeCells_one,List.take_of_length_le (by simp[kI]),cells_repI]));have ST:Hid (OfRel w w2 w1.heap.size p g h m w2.heap.size A n c old (erL ts) n' 0 none 0 0 (w2.alloc (.cells (madeCells #[.int .i64 0] n') 3))):=Zh {
  lf:=⟨0,s,f,nl,by
   have e:(foldM old ((erL ts).take 0)).left=List.replicate n true:=(by rw[List.take_zero];show List.replicate old.length true=_;rw[HN.out]);rw[e];exact XM.out⟩
  tk:=by
   have e:(foldM old ((erL ts).take 0)).take=[]:=(by rw[List.take_zero];rfl);rw[e,Nat.sub_zero,List.nil_append];exact OM.out
  kp:=by
   have e:(foldM old ((erL ts).take 0)).kept=[]:=(by rw[List.take_zero];rfl);rw[e];exact Kind.Own.nil kI _ _
  ap:=fun e=>by cases e
  res:=heap_up R2.out
  hb:=B2.out.alloc B2.out.size _}
 clear XM OM X2 B2 R2 hmk;generalize ht0:w2.heap.size=t0 at ST⊢;go_wp2_with fail;go_loopw [7,17] (fun s7 s17 wr=>∃(j:Nat) (A3:Option Addr) (n3 c3:Nat),j≤n'∧s17 = .int .i64 j∧s7 = .slice A3 n3 c3∧Hid (OfRel w w2 w1.heap.size p g h m t0 A n c old (erL ts) n' j A3 n3 c3 wr)) (fun _ s17 _=>n'-(intOf s17).toNat)
 case atStart=>exact⟨0,none,0,0,Nat.zero_le _,rfl,rfl,ST⟩
 case round=>
  obtain⟨j,A3,n3,c3,hj,rfl,rfl,HR⟩:=hrel;clear ST;have hlens:=foldM_lens old ((erL ts).take j);have hleft:=foldM_left old ((erL ts).take j);rw[List.length_take,EL.out,Nat.min_eq_left hj] at hlens;by_cases hjn:j<n'
  ·have hjl:j<ts.length:=(by have:=HL.out;omega);have hje:j<(erL ts).length:=(by have:=EL.out;omega);have SN:=Zh (foldM_snoc (old:=old) hje);rw[erL_at hjl hje] at SN;have WT:Hid (WfW (er ts[j])):=Zh (by rw[←erL_at hjl hje];exact HWF.out _ (List.getElem_mem hje));obtain⟨b',o',rfl,hb',y0',y1',y2',y3',y4',y5'⟩:=cell_of_w HM.out.holds hjl;have y0:=(HR.out.hb.cell hb').trans y0';have y1:=(HR.out.hb.cell hb').trans y1';have y2:=(HR.out.hb.cell hb').trans y2';have y3:=(HR.out.hb.cell hb').trans y3';have y4:=(HR.out.hb.cell hb').trans y4';have y5:=(HR.out.hb.cell hb').trans y5';have HKD:Hid ((er ts[j]).kind=ts[j].kind):=Zh (by rw[er_parts];rfl);clear y0' y1' y2' y3' y4' y5' hje;generalize ts[j]=t at y0 y1 y2 y3 y4 y5 SN WT HKD;clear hjl;generalize hst:foldM old ((erL ts).take j)=st at SN hlens hleft;have TK:=HR.out.tk;have KP:=HR.out.kp;have LF:=HR.out.lf;rw[hst] at TK KP LF;obtain⟨left,take,kept⟩:=st;simp only at TK KP LF hlens hleft;have HTL:Hid (take.length=j):=Zh hlens.1;have HKL:Hid (kept.length≤1000000):=Zh (by
    have h1:j*old.length≤1000*1000:=Nat.mul_le_mul (by omega) (by have:=HN.out;omega);omega)
   have HLL:Hid (left.length=n):=Zh (by have:=HN.out;omega);clear hst hlens hleft;go_upto_region 7 with fail;have BW:Hid (Below w.heap.size w (wr.alloc (.cells #[.int .i64 t.kind,.string t.tag,.string t.key,.string t.txt,.slice t.sa.A t.sa.n t.sa.c,.slice t.sk.A t.sk.n t.sk.c] 69))):=Zh (HR.out.hb.alloc HR.out.hb.size _);have X9:Hid ((wr.alloc (.cells #[.int .i64 t.kind,.string t.tag,.string t.key,.string t.txt,.slice t.sa.A t.sa.n t.sa.c,.slice t.sk.A t.sk.n t.sk.c] 69)).heap[wr.heap.size]? = some (.cells #[.int .i64 t.kind,.string t.tag,.string t.key,.string t.txt,.slice t.sa.A t.sa.n t.sa.c,.slice t.sk.A t.sk.n t.sk.c] 69 (0,0))):=Zh (heap_alloc_new wr _);obtain⟨F,s',f',nl',lf⟩:=LF;have XW:=Zh (lf.alloc (.cells #[.int .i64 t.kind,.string t.tag,.string t.key,.string t.txt,.slice t.sa.A t.sa.n t.sa.c,.slice t.sk.A t.sk.n t.sk.c] 69));have TKW:=Zh (TK.alloc (.cells #[.int .i64 t.kind,.string t.tag,.string t.key,.string t.txt,.slice t.sa.A t.sa.n t.sa.c,.slice t.sk.A t.sk.n t.sk.c] 69));have KPW:=Zh (KP.alloc (.cells #[.int .i64 t.kind,.string t.tag,.string t.key,.string t.txt,.slice t.sa.A t.sa.n t.sa.c,.slice t.sk.A t.sk.n t.sk.c] 69));have RW:Hid ((wr.alloc (.cells #[.int .i64 t.kind,.string t.tag,.string t.key,.string t.txt,.slice t.sa.A t.sa.n t.sa.c,.slice t.sk.A t.sk.n t.sk.c] 69)).heap[w.heap.size]? = some (.cells #[.slice none 0 0,.slice none 0 0,.slice none 0 0] 147 (0,0))):=Zh (heap_up HR.out.res);have AP:=Zh HR.out.ap;have B9:Hid (t0<wr.heap.size∧p<wr.heap.size∧g<wr.heap.size∧m<wr.heap.size∧w2.heap.size≤t0):=Zh ⟨(TK.lt (g:=t0) rfl).2,lf.plt,(lf.own.lt (g:=g) rfl).2,lf.map.lt,(TK.lt (g:=t0) rfl).1⟩;clear TK KP lf HR y0 y1 y2 y3 y4 y5;generalize wr.heap.size=b9 at X9 B9⊢;generalize (wr.alloc (.cells #[.int .i64 t.kind,.string t.tag,.string t.key,.string t.txt,.slice t.sa.A t.sa.n t.sa.c,.slice t.sk.A t.sk.n t.sk.c] 69))=W at BW X9 XW TKW KPW RW⊢;have z0:W.cell? ⟨b9,0,none⟩=some (.int .i64 t.kind):=cell_of_row W b9 0 _ _ (0,0) X9.out;have z1:W.cell? ⟨b9,1,none⟩=some (.string t.tag):=cell_of_row W b9 1 _ _ (0,0) X9.out;have z2:W.cell? ⟨b9,2,none⟩=some (.string t.key):=cell_of_row W b9 2 _ _ (0,0) X9.out;have z3:W.cell? ⟨b9,3,none⟩=some (.string t.txt):=cell_of_row W b9 3 _ _ (0,0) X9.out;have z4:W.cell? ⟨b9,4,none⟩=some (.slice t.sa.A t.sa.n t.sa.c):=cell_of_row W b9 4 _ _ (0,0) X9.out;have z5:W.cell? ⟨b9,5,none⟩=some (.slice t.sk.A t.sk.n t.sk.c):=cell_of_row W b9 5 _ _ (0,0) X9.out;have CT:=Zh (take_any XW.out t WT.out);obtain⟨av,hav⟩:∃a,(scanM (er t) old left old.length).1=a:=⟨_,rfl⟩;have SN2:Hid ((t.kind=4→foldM old ((erL ts).take (j+1))=⟨List.replicate old.length false,take++[av],kept++idxM (leftM left av) old.length⟩)∧(¬t.kind=4→foldM old ((erL ts).take (j+1))=⟨leftM left av,take++[av],kept⟩)):=Zh (by
    rw[SN.out,stepM,HKD.out];simp only[hav];exact⟨fun h=>by rw[if_pos h],fun h=>by rw[if_neg h]⟩)
   rw[hav] at CT;clear hav SN HKD;obtain⟨r,hr⟩:∃r,n'-j=r+1:=⟨n'-j-1,by omega⟩;rw[hr] at TKW;have HRR:Hid (n'-(j+1)=r):=Zh (by omega);clear hr;go_wp2_with fail;refine CT.out.mono ?_;rintro e w7 ⟨rfl,lf7,b7⟩;have LF7:=Zh lf7;have TK7:=Zh (TKW.out.but b7 (XW.out.noI TKW.out));have KP7:=Zh (KPW.out.but b7 (XW.out.noI KPW.out));have X97:=Zh ((b7.block b9 (heap_lt X9.out) (fun e=>by have:=B9.out;rcases e with e|e|e<;>omega)).trans X9.out);have R7:=Zh ((b7.block _ (heap_lt RW.out) (fun e=>by have:=PR.out;rcases e with e|e|e<;>omega)).trans RW.out);have BW7:Hid (Below w.heap.size w w7):=Zh (BW.out.trans (b7.to_below (fun i _ e=>by have:=PR.out;rcases e with e|e|e<;>omega) BW.out.size));obtain⟨f7,c7,own8⟩:=own_int_set TK7.out (k:=j) (by have:=HTL.out;simp;omega) av;obtain⟨u7,hu7⟩:=Option.isSome_iff_exists.1 c7;have hS:Below w2.heap.size w7 (w7.setCell ⟨t0,j,none⟩ (.int .i64 av)):=(set_but w7 t0 j _).to_below (fun i _ e=>by have:=B9.out;omega) (by have:=(TK7.out.lt (g:=t0) rfl);omega);have LF8:=Zh (LF7.out.below hS PR.out.2.1 LT.out.1 LT.out.2.1 LT.out.2.2.1 LT.out.2.2.2);have TK8:Hid (kI.Own (w7.setCell ⟨t0,j,none⟩ (.int .i64 av)) w2.heap.size (.slice (some ⟨t0,0,none⟩) n' n') ((take++[av])++List.replicate r 0)):=Zh (by rw[←set_at HTL.out av];exact own8);have KP8:=Zh (KP7.out.but (set_but w7 t0 j (.int .i64 av)) (fun i hi e=>AP.out (by rw[hi,e])));have X98:=Zh (((set_but w7 t0 j (.int .i64 av)).block b9 (heap_lt X97.out) (fun e=>by have:=B9.out;omega)).trans X97.out);have R8:=Zh (((set_but w7 t0 j (.int .i64 av)).block w.heap.size (heap_lt R7.out) (fun e=>by have:=B9.out;have:=PR.out;omega)).trans R7.out);have BW8:Hid (Below w.heap.size w (w7.setCell ⟨t0,j,none⟩ (.int .i64 av))):=Zh (BW7.out.trans (hS.mono (by have:=PR.out;omega)));clear b7 lf7 c7 own8 hS CT z0 z1 z2 z3 z4 z5 TKW KPW XW RW BW X9;go_upto_region 8 with fail;clear f7 hu7 TK7 KP7 LF7 X97 R7 BW7;generalize w7.setCell ⟨t0,j,none⟩ (.int .i64 av)=w8 at LF8 TK8 KP8 X98 R8 BW8⊢;have z0:w8.cell? ⟨b9,0,none⟩=some (.int .i64 t.kind):=cell_of_row w8 b9 0 _ _ (0,0) X98.out;by_cases h4:t.kind=4
   ·rw[h4] at z0;have sn3:=SN2.out.1 h4;rw[HN.out] at sn3;have SN3:=Zh sn3;clear sn3;obtain⟨F8,s8,f8,nl8,lf8⟩:=LF8.out;have L8:=Zh lf8;have CA:=Zh (takeAll_any lf8);clear lf8 LF8 SN2;go_wp2_with fail;refine CA.out.mono ?_;rintro e w9 ⟨A4,n4,c4,rfl,own4,lf9,b9'⟩;have O4:=Zh own4;have LF9:=Zh lf9;have TK9:=Zh (TK8.out.but b9' (L8.out.noI TK8.out));have KP9:=Zh (KP8.out.but b9' (L8.out.noI KP8.out));have R9:=Zh ((b9'.block _ (heap_lt R8.out) (fun e=>by have:=PR.out;rcases e with e|e|e<;>omega)).trans R8.out);have BW9:Hid (Below w.heap.size w w9):=Zh (BW8.out.trans (b9'.to_below (fun i _ e=>by have:=PR.out;rcases e with e|e|e<;>omega) BW8.out.size));have CC9:Hid (t0<w9.heap.size∧w2.heap.size≤w9.heap.size):=Zh ⟨(TK9.out.lt (g:=t0) rfl).2,by have:=(TK9.out.lt (g:=t0) rfl);omega⟩;have OS:=O4.out.slice;obtain⟨A',m',d',hv,e1,e2,e3,e4,e5⟩:=OS;injection hv with q1 q2 q3;subst q1;subst q2;subst q3;have E1:=Zh e1;have E4:=Zh e4;have E5:=Zh e5;have hil:=idxM_len (leftM left av) n;rw[e1] at hil;clear b9' lf9 own4 e1 e2 e3 e4 e5 z0 CA;go_upto_region 10 with(at_builtin;refine kI.wp_app rfl _ _ rfl (v:=.slice A3 n3 c3) (l:=kept) (m:=idxM (leftM left av) n) (B:=w2.heap.size) (A:=A4) (n:=n4) (c:=c4) rfl KP9.out rfl E1.out E4.out E5.out (by have:=HKL.out;omega) CC9.out.2 ?_;intro v' w10 hown hgrow hat;obtain⟨A5,n5,c5,rfl,_,_,_,_,_⟩:=hown.slice;have K10:=Zh hown;have S10:Hid (Below w2.heap.size w9 w10):=Zh (Ze.grown hgrow CC9.out.2 (fun i hi=>(KP9.out.lt hi).1));have T10:=Zh (TK9.out.grown hgrow (fun i hi e=>AP.out (by rw[e,←hi];rfl)));have R10:=Zh ((hgrow.block _ (heap_lt R9.out) (fun e=>by have:=(KP9.out.lt e.symm).1;have:=PR.out;omega)).trans R9.out);have P10:Hid ((Value.slice A5 n5 c5).ownBlock≠some t0):=Zh (fun e=>hat.elim (fun q=>AP.out (q.symm.trans e)) (fun q=>by have:=CC9.out;rw[q] at e;have:=Option.some.inj e;omega));clear hown hgrow hat);have L10:=Zh (LF9.out.below S10.out PR.out.2.1 LT.out.1 LT.out.2.1 LT.out.2.2.1 LT.out.2.2.2);have B10:Hid (Below w.heap.size w w10):=Zh (BW9.out.trans (S10.out.mono (by have:=PR.out;omega)));have REL:Hid (OfRel w w2 w1.heap.size p g h m t0 A n c old (erL ts) n' (j+1) A5 n5 c5 w10):=Zh {
     lf:=by rw[SN3.out];exact L10.out
     tk:=by rw[SN3.out,HRR.out];exact T10.out
     kp:=by rw[SN3.out];exact K10.out
     ap:=P10.out
     res:=R10.out
     hb:=B10.out}
    go_wp2_with fail;go_roundw
    case rel=>exact⟨j+1,A5,n5,c5,by omega,by go_num,rfl,REL⟩
    case measure=>simp[intOf];omega
   ·have SN3:=Zh (SN2.out.2 h4);have q4:=int_ne h4;have REL:Hid (OfRel w w2 w1.heap.size p g h m t0 A n c old (erL ts) n' (j+1) A3 n3 c3 w8):=Zh {
     lf:=by rw[SN3.out];exact LF8.out
     tk:=by rw[SN3.out,HRR.out];exact TK8.out
     kp:=by rw[SN3.out];exact KP8.out
     ap:=AP.out
     res:=R8.out
     hb:=BW8.out}
    go_wp2_with fail;go_roundw
    case rel=>exact⟨j+1,A3,n3,c3,by omega,by go_num,rfl,REL⟩
    case measure=>simp[intOf];omega
  ·obtain rfl:j=n':=by omega
   have e:(erL ts).take j=erL ts:=List.take_of_length_le (by have:=EL.out;omega);rw[e] at hlens hleft;have HR2:=HR.out;have TK:=HR2.tk;have KP:=HR2.kp;obtain⟨F,s',f',nl',lf⟩:=HR2.lf;rw[e] at TK KP lf;rw[Nat.sub_self,List.replicate_zero,List.append_nil] at TK;have TK0:=Zh TK;have KP0:=Zh KP;have L0:=Zh lf;have R0:=Zh HR2.res;have BW0:=Zh HR2.hb;have CA:=Zh (takeAll_any lf);have HWW:Hid (w.heap.size<wr.heap.size):=Zh (heap_lt R0.out);have HTL:Hid ((foldM old (erL ts)).take.length=j):=Zh hlens.1;clear HR HR2 TK KP lf e hleft hlens;go_wp2_with fail;refine CA.out.mono ?_;rintro e w9 ⟨A4,n4,c4,rfl,own4,lf9,b9⟩;have O4:=Zh own4;have TK9:=Zh (TK0.out.but b9 (L0.out.noI TK0.out));have KP9:=Zh (KP0.out.but b9 (L0.out.noI KP0.out));have R9:=Zh ((b9.block _ (heap_lt R0.out) (fun e=>by have:=PR.out;rcases e with e|e|e<;>omega)).trans R0.out);have BW9:Hid (Below w.heap.size w w9):=Zh (BW0.out.trans (b9.to_below (fun i _ e=>by have:=PR.out;rcases e with e|e|e<;>omega) BW0.out.size));have hzl:w.heap.size<w9.heap.size:=heap_lt R9.out;have r0:w9.cell? ⟨w.heap.size,0,none⟩=some (.slice none 0 0):=cell_of_row w9 _ 0 _ _ (0,0) R9.out;have r1:w9.cell? ⟨w.heap.size,1,none⟩=some (.slice none 0 0):=cell_of_row w9 _ 1 _ _ (0,0) R9.out;have r2:w9.cell? ⟨w.heap.size,2,none⟩=some (.slice none 0 0):=cell_of_row w9 _ 2 _ _ (0,0) R9.out;have rf:∀i,w9.frozen? ⟨w.heap.size,i,none⟩=false:=fun i=>by have hb:=R9.out;simp[World.frozen?,hb]
   clear own4 lf9 b9 CA TK0 KP0 L0 R0 BW0;go_wp2_with fail;refine bodyPost_ret (v:=.agg #[.slice (some ⟨t0,0,none⟩) j j,.slice A3 n3 c3,.slice A4 n4 c4]) (by simp[results,Tryz.results77,go_sem,r0,r1,r2,hzl]) rfl ⟨_,_,_,_,_,_,_,_,_,rfl,?_,?_,?_⟩
   ·have hb:=three_set w9 w.heap.size (.slice (some ⟨t0,0,none⟩) j j) (.slice A3 n3 c3) (.slice A4 n4 c4);have h1:=ownI_is (TK9.out.but hb (fun i hi e=>by have:=(TK9.out.lt hi).1;have:=PR.out;omega));have h2:=ownI_is (KP9.out.but hb (fun i hi e=>by have:=(KP9.out.lt hi).1;have:=PR.out;omega));have h3:=ownI_is (O4.out.but hb (fun i hi e=>by have:=(O4.out.lt hi).1;have:=HWW.out;omega));rw[←HN.out] at h3;exact⟨h1.1,h2.1,h3.1,h1.2.2.2,h2.2.2.2,h3.2.2.2,h1.2.1,h2.2.1,h3.2.1,h1.2.2.1,h2.2.2.1,h3.2.2.1⟩
   ·exact BW9.out.trans ((three_set w9 w.heap.size _ _ _).to_below (fun i _ e=>by omega) BW9.out.size)
   ·have hb:=three_set w9 w.heap.size (.slice (some ⟨t0,0,none⟩) j j) (.slice A3 n3 c3) (.slice A4 n4 c4);exact(TK9.out.but hb (fun i hi e=>by have:=(TK9.out.lt hi).1;have:=PR.out;omega)).base_le (by have:=PR.out;omega)
end P16
namespace P19
open Go.RowKit Kd P4 P5 P7 P14 P16
structure PPre(w:World)(B g p:Nat)(x:Dx)(vd:Value)(Z:Nat→Prop)(s:Sg)(wx:World)(par:Int)(ids:List Int)(A:Option Addr)(n c:Nat)(A':Option Addr)(n' c':Nat)(ts:List WV):Prop where
 pw:Pw w B g p x vd Z s wx
 wf:WF s.1
 p0:par≠0∨ids=[]
 kids:Kids s par ids
 nod:ids.Nodup
 len:ids.length=n
 cap:n≤c
 cm:c≤maxLen
 nil:A=none→c=0
 few:n≤200
 ids:∀wz,Kept Z wx wz→kI.Holds wz wz.heap.size A ids
 want:∀w',But (pfoot p x g vd) w w'→Wn w' A' n' c' ts
 wfw:∀t∈ts,WfW (er t)
 cnt:wtL (erL ts)≤1000
 num:s.1.n+(szL (erL ts):Nat)≤90000
 log:s.2.length+2000*(szL (erL ts)+1)≤800000
def PPatchC(ts:List WV):Prop:=∀(f:Nat),dL (erL ts)≤f→∀(w:World) (B g p:Nat) (x:Dx) (vd:Value) (Z:Nat→Prop) (s:Sg) (wx:World) (par:Int) (ids:List Int) (A:Option Addr) (n c:Nat) (beh:Int) (A':Option Addr) (n' c':Nat),
 PPre w B g p x vd Z s wx par ids A n c A' n' c' ts→
 Calls Tryz.prog 32 #[.pointer (some ⟨g,0,none⟩),.pointer (some ⟨p,0,none⟩),.int .i64 par,.slice A n c,.int .i64 beh,.slice A' n' c'] wx (DoneV w B g p x vd Z (patchP (f+1) s par ids beh (erL ts)) (PatchOk (f+1) s par ids beh (erL ts)) wx)
def WtB(w:World)(b:Nat)(t:WV):Prop:=w.heap[b]? = some (.cells #[.int .i64 t.kind,.string t.tag,.string t.key,.string t.txt,.slice t.sa.A t.sa.n t.sa.c,.slice t.sk.A t.sk.n t.sk.c] 69 (0,0))
section
variable{w w':World}{b:Nat}{t:WV}
theorem WtB.new(w:World)(t:WV):WtB (w.alloc (.cells #[.int .i64 t.kind,.string t.tag,.string t.key,.string t.txt,.slice t.sa.A t.sa.n t.sa.c,.slice t.sk.A t.sk.n t.sk.c] 69)) w.heap.size t:=heap_alloc_new w _
theorem WtB.c0(h:WtB w b t):w.cell? ⟨b,0,none⟩=some (.int .i64 t.kind):=cell_of_row w b 0 _ _ (0,0) h
theorem WtB.c1(h:WtB w b t):w.cell? ⟨b,1,none⟩=some (.string t.tag):=cell_of_row w b 1 _ _ (0,0) h
theorem WtB.c2(h:WtB w b t):w.cell? ⟨b,2,none⟩=some (.string t.key):=cell_of_row w b 2 _ _ (0,0) h
theorem WtB.c3(h:WtB w b t):w.cell? ⟨b,3,none⟩=some (.string t.txt):=cell_of_row w b 3 _ _ (0,0) h
theorem WtB.c4(h:WtB w b t):w.cell? ⟨b,4,none⟩=some (.slice t.sa.A t.sa.n t.sa.c):=cell_of_row w b 4 _ _ (0,0) h
theorem WtB.c5(h:WtB w b t):w.cell? ⟨b,5,none⟩=some (.slice t.sk.A t.sk.n t.sk.c):=cell_of_row w b 5 _ _ (0,0) h
theorem WtB.lt(h:WtB w b t):b<w.heap.size:=heap_lt h
theorem WtB.below(h:WtB w b t)(hb:Below w.heap.size w w'):WtB w' b t:=(hb.block b h.lt).trans h
theorem WtB.kept{Z:Nat→Prop}(h:WtB w b t)(k:Kept Z w w')(hz:Z b):WtB w' b t:=(k.block hz h.lt).trans h
end
structure SzW(t:WV):Prop where
 tag:t.tag.size≤maxLen
 key:t.key.size≤maxLen
 txt:t.txt.size≤maxLen
 att:P3.Wf t.attrs
theorem wf_att{y:PW}(h:WfW y):P3.Wf y.attrs:=by
 have key:∀l:List P3.At,(∀a∈l,P11.mayI (atI a)=true)→P3.Wf l:=fun l hl a ha=>by
  obtain⟨h1,h2⟩:=P17.atI_parts (hl a ha);exact⟨name60 h1,text60 h2⟩
 cases h with
 |el _ ha _=>exact key _ ha
 |vo _ ha=>exact key _ ha
 |tx _=>exact fun _ h=>by cases h
 |nd=>exact fun _ h=>by cases h
 |al=>exact fun _ h=>by cases h
theorem szw_of{t:WV}(h:WfW (er t)):SzW t:=by
 obtain⟨h1,h2,h3⟩:=wf_sm h;have h4:=wf_att h;rw[er_parts] at h1 h2 h3 h4;exact⟨h1,h2,h3,h4⟩
theorem el_txt{y:PW}(h:WfW y)(h1:y.kind=1):y.txt=⟨#[]⟩:=by
 cases h with
 |el=>rfl
 |vo=>rfl
 |tx=>cases h1
 |nd=>cases h1
 |al=>cases h1
theorem tx_names{y:PW}(h:WfW y)(h1:y.kind=2):y.tag=⟨#[]⟩∧y.key=⟨#[]⟩:=by
 cases h with
 |el=>cases h1
 |vo=>cases h1
 |tx=>exact⟨rfl,rfl⟩
 |nd=>cases h1
 |al=>cases h1
theorem newA_wf{l:List P3.At}(h:P3.Wf l):P3.Wf (P3.newA l):=fun a ha=>h a (P3.newA_mem ha)
theorem joinA_wf{l m:List P3.At}(h:P3.Wf l)(k:P3.Wf m):P3.Wf (P3.joinA l m):=fun a ha=>(P3.joinA_mem ha).elim (h a) (k a)
theorem gives_aok{w:World}{l:List P3.At}{e:Ending}{w':World}(h:P3.GivesA w l e w'):∃A n c,e = .returned (.slice A n c)∧AOk w' ⟨A,n,c⟩ l∧Below w.heap.size w w':=by
 obtain⟨v,rfl,ho,hb⟩:=h;obtain⟨⟨A,n,c⟩,rfl,ha⟩:=AOk.own (k_own ho);exact⟨A,n,c,rfl,ha,hb⟩
section
variable{w wx w':World}{B g p q gw:Nat}{x:Dx}{vd v:Value}{Z Z':Nat→Prop}{s s1:Sg}{par beh:Int}{left:List Int}
theorem Pl.box(h:Pl w B g p x vd Z q par beh v left s wx)(hb:Below wx.heap.size wx w')(hZ:∀k,Z' k→Z k∨(wx.heap.size≤k∧k<w'.heap.size)):Pl w B g p x vd Z' q par beh v left s w':=by
 refine⟨h.pw.below hb (fun k hk=>?_),h.blk.below hb,h.own.below hb (Zl),h.qn,fun e=>?_,fun k hk e=>?_⟩
 ·rcases hk with hk|hk|hk
  ·exact(hZ k hk).imp .inl id
  ·exact .inl (.inr (.inl hk))
  ·exact .inl (.inr (.inr hk))
 ·rcases hZ q e with e|e
  ·exact h.qz e
  ·have:=h.blk.lt;omega
 ·rcases hZ k e with e|e
  ·exact h.vz k hk e
  ·have:=(h.own.lt hk).2;omega
theorem plZ_less(hZ:∀k,Z k→Z' k):∀k,plZ Z q v k→plZ Z' q v k:=fun k hk=>hk.imp (hZ k) id
theorem DoneV.unbox{ok:Prop}{e:Ending}{wz:World}(d:DoneV w B g p x vd (plZ Z' q v) s1 ok wz e w')(k:Kept (plZ Z q v) wx wz)(hZ:∀k,Z k→Z' k):DoneV w B g p x vd (plZ Z q v) s1 ok wx e w':=(d.less (plZ_less hZ)).from_ k
theorem Pl.unbox(h:Pl w B g p x vd Z' q par beh v left s wx)(hZ:∀k,Z k→Z' k):Pl w B g p x vd Z q par beh v left s wx:=
 ⟨h.pw.less (plZ_less hZ),h.blk,h.own,h.qn,fun e=>h.qz (hZ _ e),fun k hk e=>h.vz k hk (hZ _ e)⟩
end
def okF(f:Nat):RecP:=fun s i ks w=>PatchOk f s i ks 0 w
variable{w wx w':World}{B g p q:Nat}{x:Dx}{vd v:Value}{Z:Nat→Prop}{s:Sg}{par beh:Int}{left:List Int}
theorem wupd_any(t:WV)(hk:PPatchC t.kids)(f:Nat)(hf:dW (er t)≤f)(h1:t.kind=1)(h:Pl w B g p x vd Z q par beh v left s wx)(hwf:WF s.1)(hr:∀w',But (pfoot p x g vd) w w'→WOk kW w' w'.heap.size t)(hw:WfW (er t))(hc:wtW (er t)≤1000)(hn:s.1.n+(szW (er t):Nat)≤90000)(hl:s.2.length+2000*szW (er t)+500≤800000)
 {nd:Nd} {AV AK:Option Addr} {nV cV nK cK C:Nat} (hfd:find s.1.l nd.id=some nd) (ha:AOk wx ⟨AV,nV,cV⟩ nd.attrs) (ho:kI.Own wx C (.slice AK nK cK) nd.kids) (hoz:∀k,(Value.slice AK nK cK).ownBlock=some k→Z k):
 Calls Tryz.prog 144 #[.pointer (some ⟨q,0,none⟩),.agg #[.int .i64 t.kind,.string t.tag,.string t.key,.string t.txt,.slice t.sa.A t.sa.n t.sa.c,.slice t.sk.A t.sk.n t.sk.c],.agg #[.int .i64 nd.id,.int .i64 nd.par,.string nd.tag,.string nd.txt,.string nd.key,.slice AV nV cV,.slice AK nK cK,.int .i64 nd.note]] wx
  (DoneV w B g p x vd (plZ Z q v) (takenP (recF f) (er t) nd.id s) (TakenOk (okF f) (er t) nd.id s) wx):=by
 have q1:=err_neq_nil;have q2:=nil_neq_nil;have WB0:Hid (WtB ((wx.alloc (.cells #[.int .i64 t.kind,.string t.tag,.string t.key,.string t.txt,.slice t.sa.A t.sa.n t.sa.c,.slice t.sk.A t.sk.n t.sk.c] 69)).alloc (.cells #[.int .i64 nd.id,.int .i64 nd.par,.string nd.tag,.string nd.txt,.string nd.key,.slice AV nV cV,.slice AK nK cK,.int .i64 nd.note] 48)) wx.heap.size t):=Zh (heap_up (WtB.new wx t));have NB0:Hid (NdB ((wx.alloc (.cells #[.int .i64 t.kind,.string t.tag,.string t.key,.string t.txt,.slice t.sa.A t.sa.n t.sa.c,.slice t.sk.A t.sk.n t.sk.c] 69)).alloc (.cells #[.int .i64 nd.id,.int .i64 nd.par,.string nd.tag,.string nd.txt,.string nd.key,.slice AV nV cV,.slice AK nK cK,.int .i64 nd.note] 48)) (wx.heap.size+1) nd AV nV cV AK nK cK):=Zh (by
  have:=NdB.new (wx.alloc (.cells #[.int .i64 t.kind,.string t.tag,.string t.key,.string t.txt,.slice t.sa.A t.sa.n t.sa.c,.slice t.sk.A t.sk.n t.sk.c] 69)) nd AV nV cV AK nK cK;simpa using this)
 have BX:Hid (Below wx.heap.size wx ((wx.alloc (.cells #[.int .i64 t.kind,.string t.tag,.string t.key,.string t.txt,.slice t.sa.A t.sa.n t.sa.c,.slice t.sk.A t.sk.n t.sk.c] 69)).alloc (.cells #[.int .i64 nd.id,.int .i64 nd.par,.string nd.tag,.string nd.txt,.string nd.key,.slice AV nV cV,.slice AK nK cK,.int .i64 nd.note] 48))):=Zh ((Zb _ _).alloc (by simp) _);have H:=Zh h;have HWF:=Zh hwf;have HR:=Zh hr;have HW:=Zh hw;have HK:=Zh hk;have SZ:=szw_of hw;have z4:t.attrs.length≤1000∧wtL (erL t.kids)≤1000:=by
  rw[er_parts,wtW] at hc;omega
 have hmem:=(find_some hfd).1;have hnm:=may_wf (wf_may hwf nd hmem);have ND:Hid (ndOf s.1.l nd.id=nd):=Zh (by unfold ndOf;rw[hfd];rfl);have KN:Hid (kidsOf s.1.l nd.id=nd.kids):=Zh (kids_at hfd);have N0:Hid (nd.id≠0):=Zh (hwf.tr.ne0 (find_has hfd));have KOK:=Zh (kids_ok hwf nd.id);have NL:nd.kids.length≤200:=hwf.kids_len hmem;have HA:=Zh (joinA_wf (m:=t.attrs) hnm.1 SZ.att);have n8:nd.attrs.length≤8:=hnm.2;have SZK:szW (er t)=1+szL (erL t.kids):=(by rw[szW_kids,er_kids]);obtain⟨zk,hzk⟩:∃zk,szL (erL t.kids)=zk:=⟨_,rfl⟩;rw[SZK,hzk] at hn hl;have HZK:=Zh hzk;have HC:=Zh z4.2;have z5:=z4.1;obtain⟨f2,hf2⟩:∃f2,f=f2+1:=⟨f-1,by rw[dW_kids] at hf;omega⟩;have HF2:Hid (dL (erL t.kids)≤f2):=Zh (by rw[dW_kids,er_kids] at hf;omega);have KD:Hid ((er t).kind=1):=Zh (by rw[er_parts];exact h1);have AT0:=Zh (ha.below BX.out);have OW0:=Zh (ho.below BX.out (Zl));have OWN9:=Zh ho;have HOZ:=Zh hoz;clear h hwf hr hw hk SZ hc SZK hzk z4 hf h1 hmem hnm hfd ha ho hoz;go_enter Tryz.func144,Tryz.ntmps144;go_upto_region 1 with fail;generalize (wx.alloc (.cells #[.int .i64 t.kind,.string t.tag,.string t.key,.string t.txt,.slice t.sa.A t.sa.n t.sa.c,.slice t.sk.A t.sk.n t.sk.c] 69)).alloc (.cells #[.int .i64 nd.id,.int .i64 nd.par,.string nd.tag,.string nd.txt,.string nd.key,.slice AV nV cV,.slice AK nK cK,.int .i64 nd.note] 48)=w1 at WB0 NB0 BX AT0 OW0⊢;obtain⟨gw,hgw⟩:∃k,wx.heap.size=k:=⟨_,rfl⟩;have GE:Hid (wx.heap.size≤gw):=Zh (by omega);have GL:Hid (gw+1<w1.heap.size):=Zh (by rw[←hgw];exact NB0.out.lt);rw[hgw] at WB0 NB0⊢;clear hgw;have H1:Hid (Pl w B g p x vd (fun k=>Z k∨k=gw∨k=gw+1) q par beh v left s w1):=Zh (H.out.box BX.out (fun k hk=>hk.imp id (fun e=>by have:=GE.out;have:=GL.out;omega)));have K1:Hid (Kept (plZ Z q v) wx w1):=Zh (Kept.of_below BX.out);have GZ:Hid (plZ (fun k=>Z k∨k=gw∨k=gw+1) q v gw):=Zh (.inl (.inr (.inl rfl)));have GN:Hid (plZ (fun k=>Z k∨k=gw∨k=gw+1) q v (gw+1)):=Zh (.inl (.inr (.inr rfl)));have LZ:Hid (∀k,Z k→(fun k=>Z k∨k=gw∨k=gw+1) k):=Zh (fun k hk=> .inl hk);obtain⟨gn,hgn⟩:∃k,gw+1=k:=⟨_,rfl⟩;rw[hgn] at NB0 GN H1 GZ LZ⊢;have WT:=Zh (H1.out.pw.read HR.out);have nl8:=AT0.out.len;simp only at nl8;have CJ:=Zh (P3.join_any nd.attrs t.attrs AV t.sa.A nV t.sa.n cV t.sa.c w1 nl8 WT.out.al (by omega) (by have:=WT.out.al;omega) (p3holds AT0.out.holds) (p3holds WT.out.ah));have e4:=WB0.out.c4;have e5:=NB0.out.c5;clear BX GL GE H hgn WT nl8;go_upto_region 2 with(go_at_call 158;refine CJ.out.mono ?_;intro e w3 hg3;obtain⟨AJ,nJ,cJ,rfl,ha3,b3⟩:=gives_aok hg3);have AJ1:=Zh ha3;have H3:=Zh (H1.out.below b3);have K3:Hid (Kept (plZ Z q v) wx w3):=Zh (K1.out.trans (Kept.of_below b3));have WB3:=Zh (WB0.out.below b3);have NB3:Hid (NdB w3 gn nd AV nV cV AK nK cK):=Zh ((b3.block _ NB0.out.lt).trans NB0.out);have AT3:=Zh (AT0.out.below b3);clear CJ e4 e5 ha3 b3 H1 K1 WB0 NB0 AT0;have e5:=NB3.out.c5;have jl:=AJ1.out.len;have j8:=P3.joinA_len nd.attrs t.attrs;have nl8:=AT3.out.len;simp only at jl nl8;obtain⟨sm,hsm⟩:∃sm,P3.sameA (P3.joinA nd.attrs t.attrs) nd.attrs=sm:=⟨_,rfl⟩;have CSM:=Zh (P3.same_at (P3.joinA nd.attrs t.attrs) nd.attrs AJ AV nJ nV cJ cV w3 hsm jl nl8 (by omega) (by omega) (p3holds AJ1.out.holds) (p3holds AT3.out.holds));have HSM:=Zh hsm;clear hsm j8 nl8 OW0;have nJ8:nJ≤1000000:=(by have:=P3.joinA_len nd.attrs t.attrs;omega);clear jl;obtain⟨sE,hsE⟩:∃sE,tak3 (er t) nd.id s=sE:=⟨_,rfl⟩;have HSE:=Zh hsE;have T3:=Zh (tak3_is (t:=t) ND.out);rw[hsE,HSM.out] at T3;clear hsE;go_upto_region 2 with fail;go_cut [18] (fun s18 wx2=>s18 = .bool (!sm)∧Hid (Below w3.heap.size w3 wx2))
 case first=>
  go_wp2_with (go_at_call 159;refine CSM.out.mono ?_;rintro e w4 ⟨rfl,b4⟩;have B4:=Zh b4;clear b4);go_meet;exact⟨rfl,B4⟩
 case rest=>
  obtain⟨rfl,BC⟩:=hcut;obtain⟨w4,rfl⟩:∃w4,w4=wc:=⟨_,rfl⟩;have H4:=Zh (H3.out.below BC.out);have K4:Hid (Kept (plZ Z q v) wx w4):=Zh (K3.out.trans (Kept.of_below BC.out));have WB4:=Zh (WB3.out.below BC.out);have NB4:Hid (NdB w4 gn nd AV nV cV AK nK cK):=Zh ((BC.out.block _ NB3.out.lt).trans NB3.out);have AJ4:=Zh (AJ1.out.below BC.out);clear CSM e5 H3 K3 WB3 NB3 AT3 AJ1 BC;cases sm with
  |true=>
   have EE:Hid (sE=s):=Zh (by rw[T3.out,if_neg (by decide)]);have HE:Hid (Pl w B g p x vd (fun k=>Z k∨k=gw∨k=gn) q par beh v left sE w4):=Zh (by rw[EE.out];exact H4.out);have WE:Hid (WF sE.1):=Zh (by rw[EE.out];exact HWF.out);have nE:sE.1.n≤s.1.n:=(by rw[EE.out];exact Int.le_refl _);have lE:sE.2.length≤s.2.length+1:=(by rw[EE.out];omega);clear H4;have PP:Hid (∀wz,Below w4.heap.size w4 wz→PPre w B g p x vd (plZ (fun k=>Z k∨k=gw∨k=gn) q v) sE wz nd.id nd.kids AK nK cK t.sk.A t.sk.n t.sk.c t.kids):=Zh (fun wz hb=>by
    have HZ2:∀wy,Kept (plZ (fun k=>Z k∨k=gw∨k=gn) q v) wz wy→kI.Own wy C (.slice AK nK cK) nd.kids:=fun wy hy=>(K4.out.trans ((Kept.of_below hb).trans (hy.less (plZ_less LZ.out)))).own OWN9.out (fun k hk=> .inl (HOZ.out k hk))
    have OA:=own_all' (HZ2 wz (Kept.refl _ _));exact {
     pw:=(HE.out.below hb).pw
     wf:=WE.out
     p0:=.inl N0.out
     kids:=by
      have:=(kids_ok WE.out nd.id).1;rwa[←HSE.out,kids_tak3,KN.out,HSE.out] at this
     nod:=by have:=KOK.out.2;rwa[KN.out] at this
     len:=OA.1
     cap:=OA.2.1
     cm:=OA.2.2.1
     nil:=OA.2.2.2.1
     few:=by rw[←OA.1];exact NL
     ids:=fun wy hy=>(own_all' (HZ2 wy hy)).2.2.2.2
     want:=fun w' hb'=>by
      have:=HR.out w' hb';exact⟨this.kl,this.kc,this.kz,this.kh,this.ks⟩
     wfw:=fun k hk=>wfw_kids HW.out _ (by rw[er_kids];exact er_mem hk)
     cnt:=HC.out
     num:=by rw[HZK.out];omega
     log:=by rw[HZK.out];omega})
   have CPT:Hid (∀wz,Below w4.heap.size w4 wz→Calls Tryz.prog 32 #[.pointer (some ⟨g,0,none⟩),.pointer (some ⟨p,0,none⟩),.int .i64 nd.id,.slice AK nK cK,.int .i64 0,.slice t.sk.A t.sk.n t.sk.c] wz (DoneV w B g p x vd (plZ (fun k=>Z k∨k=gw∨k=gn) q v) (takenP (recF f) (er t) nd.id s) (TakenOk (okF f) (er t) nd.id s) w4)):=Zh (fun wz hb=>by
    have e1:takenP (recF f) (er t) nd.id s=patchP (f2+1) sE nd.id nd.kids 0 (erL t.kids):=by
     rw[taken_elem KD.out,kids_tak3,KN.out,HSE.out,hf2,er_kids];rfl
    have e2:TakenOk (okF f) (er t) nd.id s→PatchOk (f2+1) sE nd.id nd.kids 0 (erL t.kids):=fun ok=>by
     have:=(ok.2 KD.out).2;rw[kids_tak3,KN.out,HSE.out,hf2,er_kids] at this;exact this
    rw[e1];refine(HK.out f2 HF2.out _ _ _ _ _ _ _ _ _ _ _ _ _ _ 0 _ _ _ (PP.out wz hb)).mono ?_;intro e w' d;exact(d.from_ (Kept.of_below hb)).and_ e2)
   have p0:=HE.out.blk.c0;have p1:=HE.out.blk.c1;have e0:=NB4.out.c0;have e6:=NB4.out.c6;have e5:=WB4.out.c5;go_upto_region 6 with fail;go_region_held3 (fun w'=>w'.cell? ⟨q,0,none⟩=some (.pointer (some ⟨g,0,none⟩))∧w'.cell? ⟨q,1,none⟩=some (.pointer (some ⟨p,0,none⟩))∧w'.cell? ⟨gn,0,none⟩=some (.int .i64 nd.id)∧w'.cell? ⟨gn,6,none⟩=some (.slice AK nK cK)∧w'.cell? ⟨gw,5,none⟩=some (.slice t.sk.A t.sk.n t.sk.c)) (first|go_keep|exact K9) ((first
    |(go_at_call 32;refine(CPT.out _ (by first|exact Below_drewN Ze _|exact Ze.drew|exact Ze)).mono ?_;rintro e w6 ⟨m6,s6,rfl,d6⟩;have D6:=Zh d6;clear d6;have NB6:Hid (NdB w6 gn nd AV nV cV AK nK cK):=Zh ((D6.out.2.1.block GN.out NB4.out.lt).trans NB4.out);have K9:w6.cell? ⟨q,0,none⟩=some (.pointer (some ⟨g,0,none⟩))∧w6.cell? ⟨q,1,none⟩=some (.pointer (some ⟨p,0,none⟩))∧w6.cell? ⟨gn,0,none⟩=some (.int .i64 nd.id)∧w6.cell? ⟨gn,6,none⟩=some (.slice AK nK cK)∧w6.cell? ⟨gw,5,none⟩=some (.slice t.sk.A t.sk.n t.sk.c):=⟨(HE.out.blk.kept D6.out.2.1 (.inr (.inl rfl))).c0,(HE.out.blk.kept D6.out.2.1 (.inr (.inl rfl))).c1,NB6.out.c0,NB6.out.c6,(WB4.out.kept D6.out.2.1 GZ.out).c5⟩;obtain⟨ev,hev⟩:∃ev,errV m6=ev:=⟨_,rfl⟩;rw[hev])
    |fail))
   all_goals
    go_wp2_with fail;go_ret;rw[←hev];exact DoneV.unbox (wz:=w4) ⟨m6,s6,rfl,D6.out⟩ K4.out LZ.out
  |false=>
   have EE:Hid (sE=doP s (recAttr nd.id (P3.joinA nd.attrs t.attrs))):=Zh (by rw[T3.out,if_pos rfl]);have CT:Hid (∀wz,Below w4.heap.size w4 wz→Calls Tryz.prog 119 _ wz (PwV w B g p x vd (plZ (fun k=>Z k∨k=gw∨k=gn) q v) s (recAttr nd.id (P3.joinA nd.attrs t.attrs)) w4)):=Zh (fun wz hb=>(pw_attr nd.id (P3.joinA nd.attrs t.attrs) AJ nJ cJ (H4.out.pw.on hb) HWF.out (by omega) (by omega) (AJ4.out.below hb) HA.out nJ8).mono (fun e w' d=>d.on hb));have p0:=H4.out.blk.c0;have e0:=NB4.out.c0;obtain⟨m3,hm3⟩:∃k,(applyD s.1 (recAttr nd.id (P3.joinA nd.attrs t.attrs))).1=k:=⟨_,rfl⟩;have HM3:=Zh hm3;clear hm3;go_upto_region 3 with fail;go_region_held3 (fun w'=>w'.cell? ⟨q,0,none⟩=some (.pointer (some ⟨g,0,none⟩))∧w'.cell? ⟨gn,0,none⟩=some (.int .i64 nd.id)) (first|go_keep|exact K9) ((first
    |(go_at_call 119;refine(CT.out _ (by first|exact Below_drewN Ze _|exact Ze.drew|exact Ze)).mono ?_;rintro e w5 ⟨rfl,p5,k5⟩;rw[HM3.out];have H5:=Zh (H4.out.kept p5 k5);have K5:=Zh k5;have K9:=And.intro H5.out.blk.c0 ((k5.cell (q:=⟨gn,0,none⟩) GN.out NB4.out.lt).trans NB4.out.c0);clear p5 k5)
    |fail))
   all_goals
    have KK5:Hid (Kept (plZ Z q v) wx w5):=Zh (K4.out.trans (K5.out.less (plZ_less LZ.out)));have WB5:=Zh (WB4.out.kept K5.out GZ.out);have NB5:Hid (NdB w5 gn nd AV nV cV AK nK cK):=Zh ((K5.out.block GN.out NB4.out.lt).trans NB4.out);clear CT p0 e0 H4 K4 WB4 NB4 K5 K9;by_cases hm0:m3=0
    ·subst hm0;rw[show errV 0 = .nilIface from rfl];have HE:Hid (Pl w B g p x vd (fun k=>Z k∨k=gw∨k=gn) q par beh v left sE w5):=Zh (by rw[EE.out];exact H5.out);have WE:Hid (WF sE.1):=Zh (by rw[EE.out];exact doP_wf HWF.out _);have nE:sE.1.n≤s.1.n:=(by rw[EE.out,doP_n2 _ (show(4:Int)≠1 by decide)];exact Int.le_refl _);have lE:sE.2.length≤s.2.length+1:=(by rw[EE.out];exact doP_len _ _);clear H5;have PP:Hid (∀wz,Below w5.heap.size w5 wz→PPre w B g p x vd (plZ (fun k=>Z k∨k=gw∨k=gn) q v) sE wz nd.id nd.kids AK nK cK t.sk.A t.sk.n t.sk.c t.kids):=Zh (fun wz hb=>by
      have HZ2:∀wy,Kept (plZ (fun k=>Z k∨k=gw∨k=gn) q v) wz wy→kI.Own wy C (.slice AK nK cK) nd.kids:=fun wy hy=>(KK5.out.trans ((Kept.of_below hb).trans (hy.less (plZ_less LZ.out)))).own OWN9.out (fun k hk=> .inl (HOZ.out k hk))
      have OA:=own_all' (HZ2 wz (Kept.refl _ _));exact {
       pw:=(HE.out.below hb).pw
       wf:=WE.out
       p0:=.inl N0.out
       kids:=by
        have:=(kids_ok WE.out nd.id).1;rwa[←HSE.out,kids_tak3,KN.out,HSE.out] at this
       nod:=by have:=KOK.out.2;rwa[KN.out] at this
       len:=OA.1
       cap:=OA.2.1
       cm:=OA.2.2.1
       nil:=OA.2.2.2.1
       few:=by rw[←OA.1];exact NL
       ids:=fun wy hy=>(own_all' (HZ2 wy hy)).2.2.2.2
       want:=fun w' hb'=>by
        have:=HR.out w' hb';exact⟨this.kl,this.kc,this.kz,this.kh,this.ks⟩
       wfw:=fun k hk=>wfw_kids HW.out _ (by rw[er_kids];exact er_mem hk)
       cnt:=HC.out
       num:=by rw[HZK.out];omega
       log:=by rw[HZK.out];omega})
     have CPT:Hid (∀wz,Below w5.heap.size w5 wz→Calls Tryz.prog 32 #[.pointer (some ⟨g,0,none⟩),.pointer (some ⟨p,0,none⟩),.int .i64 nd.id,.slice AK nK cK,.int .i64 0,.slice t.sk.A t.sk.n t.sk.c] wz (DoneV w B g p x vd (plZ (fun k=>Z k∨k=gw∨k=gn) q v) (takenP (recF f) (er t) nd.id s) (TakenOk (okF f) (er t) nd.id s) w5)):=Zh (fun wz hb=>by
      have e1:takenP (recF f) (er t) nd.id s=patchP (f2+1) sE nd.id nd.kids 0 (erL t.kids):=by
       rw[taken_elem KD.out,kids_tak3,KN.out,HSE.out,hf2,er_kids];rfl
      have e2:TakenOk (okF f) (er t) nd.id s→PatchOk (f2+1) sE nd.id nd.kids 0 (erL t.kids):=fun ok=>by
       have:=(ok.2 KD.out).2;rw[kids_tak3,KN.out,HSE.out,hf2,er_kids] at this;exact this
      rw[e1];refine(HK.out f2 HF2.out _ _ _ _ _ _ _ _ _ _ _ _ _ _ 0 _ _ _ (PP.out wz hb)).mono ?_;intro e w' d;exact(d.from_ (Kept.of_below hb)).and_ e2)
     have p0:=HE.out.blk.c0;have p1:=HE.out.blk.c1;have e0:=NB5.out.c0;have e6:=NB5.out.c6;have e5:=WB5.out.c5;go_upto_region 6 with fail;go_region_held3 (fun w'=>w'.cell? ⟨q,0,none⟩=some (.pointer (some ⟨g,0,none⟩))∧w'.cell? ⟨q,1,none⟩=some (.pointer (some ⟨p,0,none⟩))∧w'.cell? ⟨gn,0,none⟩=some (.int .i64 nd.id)∧w'.cell? ⟨gn,6,none⟩=some (.slice AK nK cK)∧w'.cell? ⟨gw,5,none⟩=some (.slice t.sk.A t.sk.n t.sk.c)) (first|go_keep|exact K9) ((first
      |(go_at_call 32;refine(CPT.out _ (by first|exact Below_drewN Ze _|exact Ze.drew|exact Ze)).mono ?_;rintro e w6 ⟨m6,s6,rfl,d6⟩;have D6:=Zh d6;clear d6;have NB6:Hid (NdB w6 gn nd AV nV cV AK nK cK):=Zh ((D6.out.2.1.block GN.out NB5.out.lt).trans NB5.out);have K9:w6.cell? ⟨q,0,none⟩=some (.pointer (some ⟨g,0,none⟩))∧w6.cell? ⟨q,1,none⟩=some (.pointer (some ⟨p,0,none⟩))∧w6.cell? ⟨gn,0,none⟩=some (.int .i64 nd.id)∧w6.cell? ⟨gn,6,none⟩=some (.slice AK nK cK)∧w6.cell? ⟨gw,5,none⟩=some (.slice t.sk.A t.sk.n t.sk.c):=⟨(HE.out.blk.kept D6.out.2.1 (.inr (.inl rfl))).c0,(HE.out.blk.kept D6.out.2.1 (.inr (.inl rfl))).c1,NB6.out.c0,NB6.out.c6,(WB5.out.kept D6.out.2.1 GZ.out).c5⟩;obtain⟨ev,hev⟩:∃ev,errV m6=ev:=⟨_,rfl⟩;rw[hev])
      |fail))
     all_goals
      go_wp2_with fail;go_ret;rw[←hev];exact DoneV.unbox (wz:=w5) ⟨m6,s6,rfl,D6.out⟩ KK5.out LZ.out
    ·rw[err_ne hm0];go_wp2_with fail;go_ret;have:=DoneV.no (s1:=takenP (recF f) (er t) nd.id s) (ok:=TakenOk (okF f) (er t) nd.id s) hm0 (H5.out.unbox LZ.out).pw KK5.out (fun ok=>by
      have:=(ok.2 KD.out).1;rw[ND.out,er_attrs,HSM.out] at this;exact apply_if HM3.out hm0 (this rfl))
     rwa[err_ne hm0] at this
end P19
end Go.Proofs.YtaklfomaibchnaaGreat
