/- A part of what the claimed theorem hangs on. No condition but those stated. -/
import Derived.Deep.RegionHeld3
import Derived.Deep.RegionWith
import Derived.Deep.DrawnRows
import Derived.Deep.DeepCutAuto
import Derived.Deep.CutBlock
import Derived.Maps.OwnSet
import Derived.Maps.OwnOps
import Derived.Test.YtaklfomaibchnaaGreatM1
import Derived.Test.YtaklfomaibchnaaGreatM5
import Derived.Test.YtaklfomaibchnaaGreatM6
import Derived.Test.YtaklfomaibchnaaGreatM8
import Derived.Test.YtaklfomaibchnaaGreatM12
set_option linter.unusedVariables false
set_option linter.unusedSimpArgs false
set_option maxRecDepth 100000
set_option maxHeartbeats 40000000
namespace Go.Proofs.YtaklfomaibchnaaGreat
namespace P11
open Go.RowKit Kd P4
def tellsB(op:Int):Bool:=op==5 || op==6
def IMayC:Prop:=∀(i:In) (w:World),i.a.size≤100000→i.b.size≤100000→Calls Tryz.prog 92 #[.agg #[.int .i64 i.op,.string i.a,.string i.b]] w fun e w'=>e = .returned (.bool (mayI i))∧Below w.heap.size w w'
def TellsC:Prop:=∀(op:Int) (w:World),Calls Tryz.prog 93 #[.int .i64 op] w fun e w'=>e = .returned (.bool (tellsB op))∧Below w.heap.size w w'
theorem bl_call{a w w5:World}(b5:Below w.heap.size w w5)(h:Below a.heap.size a w):Below a.heap.size a w5:=h.trans (b5.mono h.size)
theorem take_at{P:Program}{ops:Array Oper}{Q:Exit→Act→World→Prop}{md:Region.Mode}{S:World→Prop}{d i:Nat}{oi:Oper}{v:Value}{fuel:Nat}{listed:Array Bool}{a:Act}{w:World}(hi:ops[i]? = some oi)(hd:oi.dst=some d)
 (hs:Region.noSelect ops=true) (hf:Region.free md ops listed i=true) (hr:(Region.ready md ops listed).contains i=true)
 (hQ:∀c a w,Q (.panic c) (a.put (some d) v) w→Q (.panic c) a w) (hy:YieldsIf P ops S oi v a) (hS:S w)
 (h:wpAnyH P md ops Q S fuel (listed.setIfInBounds i true) (a.put (some d) v) w):wpAnyH P md ops Q S (fuel+1) listed a w:=
 wpAnyH_take hi hs hf hr (by rw[hd];exact hQ) hy hS (by rw[hd];exact h)
theorem bl_drewN{B:Nat}{a w:World}(h:Below B a w)(n:Nat):Below B a (w.drewN n):=⟨h.os,h.tape,h.output,h.size,h.block⟩
theorem bl_drew{B:Nat}{a w:World}(h:Below B a w):Below B a w.drew:=⟨h.os,h.tape,h.output,h.size,h.block⟩
theorem name_at(s:ByteArray)(w:World){r:Bool}(h:P1.nameB s.data.toList=r)(hs:s.size≤maxLen):Calls Tryz.prog 123 #[.string s] w fun e w'=>e = .returned (.bool r)∧w=w':=by
 subst h;exact P1.may_any s w hs
theorem text_at(s:ByteArray)(w:World){r:Bool}(h:P1.textB s.data.toList=r)(hs:s.size≤maxLen):Calls Tryz.prog 108 #[.string s] w fun e w'=>e = .returned (.bool r)∧w=w':=by
 subst h;exact P1.text_any s w hs
theorem void_at(s:ByteArray)(w:World){r:Bool}(h:P1.voidB s.data.toList=r):Calls Tryz.prog 102 #[.string s] w fun e w'=>e = .returned (.bool r)∧w=w':=by
 subst h;exact P1.void_any s w
theorem tells_c:TellsC:=by
 intro op w;cases h1:(op==5)<;>cases h3:(op==6)<;>
  (have HM:Hid (tellsB op=_):=Zh (by unfold tellsB;rw[h1,h3])
   go_enter Tryz.func93,Tryz.ntmps93;go_wp2_with fail;go_ret;exact⟨by rw[HM.out];rfl,Ze⟩)
theorem imay_c:IMayC:=by
 intro i w ha hb;obtain⟨op,a,b⟩:=i;have ha:a.size≤maxLen:=Nat.le_trans ha (by unfold maxLen;omega);have hb:b.size≤maxLen:=Nat.le_trans hb (by unfold maxLen;omega);have B1:Hid (Below w.heap.size w (w.alloc (.cells #[.int .i64 op,.string a,.string b] 76))):=Zh (Zb _ _);have N1:Hid (XB (w.alloc (.cells #[.int .i64 op,.string a,.string b] 76)) w.heap.size ⟨op,a,b⟩):=Zh (XB.new w ⟨op,a,b⟩);obtain⟨bn,hbn⟩:∃x,P1.nameB a.data.toList=x:=⟨_,rfl⟩;obtain⟨bv,hbv⟩:∃x,P1.voidB a.data.toList=x:=⟨_,rfl⟩;obtain⟨bx,hbx⟩:∃x,P1.textB a.data.toList=x:=⟨_,rfl⟩;obtain⟨bz,hby⟩:∃x,P1.textB b.data.toList=x:=⟨_,rfl⟩;have HM:Hid (mayI ⟨op,a,b⟩=if op=1 then bn && !bv&&bz else if op=3 then bv&&bz else if op=4 then bx&&b.toList.isEmpty else if op=5∨op=6 then bn&&bz else if op=2∨op=7∨op=8 then a.toList.isEmpty&&b.toList.isEmpty else false):=Zh (by unfold mayI;simp only[hbn,hbv,hbx,hby]);have HN:Hid (∀w9,Calls Tryz.prog 123 #[.string a] w9 fun e w'=>e = .returned (.bool bn)∧w9=w'):=Zh (fun w9=>name_at a w9 hbn ha);have HV:Hid (∀w9,Calls Tryz.prog 102 #[.string a] w9 fun e w'=>e = .returned (.bool bv)∧w9=w'):=Zh (fun w9=>void_at a w9 hbv);have HX:Hid (∀w9,Calls Tryz.prog 108 #[.string a] w9 fun e w'=>e = .returned (.bool bx)∧w9=w'):=Zh (fun w9=>text_at a w9 hbx ha);have HY:Hid (∀w9,Calls Tryz.prog 108 #[.string b] w9 fun e w'=>e = .returned (.bool bz)∧w9=w'):=Zh (fun w9=>text_at b w9 hby hb);clear hbn hbv hbx hby;show Calls Tryz.prog 92 #[.agg #[.int .i64 op,.string a,.string b]] w _;go_enter Tryz.func92,Tryz.ntmps92;go_upto_region 1 with fail;generalize w.alloc (.cells #[.int .i64 op,.string a,.string b] 76)=W at B1 N1⊢;have c0:=N1.out.c0;have c1:=N1.out.c1;have c2:=N1.out.c2;simp only at c0 c1 c2;by_cases h1:op=1
 ·subst h1;have HM2:Hid (mayI ⟨1,a,b⟩=(bn && !bv&&bz)):=Zh (by rw[HM.out,if_pos rfl]);clear HM;cases bn
  ·go_wp2_with fail;refine(HN.out _).mono ?_;rintro e w' ⟨rfl,rfl⟩;go_wp2_with fail;go_ret;exact⟨by rw[HM2.out];rfl,B1.out⟩
  cases bv
  ·cases bz<;>(go_wp2_with fail;refine(HN.out _).mono ?_;rintro e w' ⟨rfl,rfl⟩;go_wp2_with fail;refine(HV.out _).mono ?_;rintro e w' ⟨rfl,rfl⟩;go_wp2_with fail;refine(HY.out _).mono ?_;rintro e w' ⟨rfl,rfl⟩;go_wp2_with fail;go_ret;exact⟨by rw[HM2.out];rfl,B1.out⟩)
  ·go_wp2_with fail;refine(HN.out _).mono ?_;rintro e w' ⟨rfl,rfl⟩;go_wp2_with fail;refine(HV.out _).mono ?_;rintro e w' ⟨rfl,rfl⟩;go_wp2_with fail;go_ret;exact⟨by rw[HM2.out];rfl,B1.out⟩
 by_cases h3:op=3
 ·subst h3;have HM2:Hid (mayI ⟨3,a,b⟩=(bv&&bz)):=Zh (by rw[HM.out,if_neg (by decide),if_pos rfl]);clear HM;cases bv
  ·go_wp2_with fail;refine(HV.out _).mono ?_;rintro e w' ⟨rfl,rfl⟩;go_wp2_with fail;go_ret;exact⟨by rw[HM2.out];rfl,B1.out⟩
  ·cases bz<;>(go_wp2_with fail;refine(HV.out _).mono ?_;rintro e w' ⟨rfl,rfl⟩;go_wp2_with fail;refine(HY.out _).mono ?_;rintro e w' ⟨rfl,rfl⟩;go_wp2_with fail;go_ret;exact⟨by rw[HM2.out];rfl,B1.out⟩)
 by_cases h4:op=4
 ·subst h4;have HM2:Hid (mayI ⟨4,a,b⟩=(bx&&b.toList.isEmpty)):=Zh (by rw[HM.out,if_neg (by decide),if_neg (by decide),if_pos rfl]);clear HM;cases bE:b.toList.isEmpty<;>rw[bE] at HM2<;>cases bx<;>
   (go_wp2_with fail;refine(HX.out _).mono ?_;rintro e w' ⟨rfl,rfl⟩;go_wp2_with fail;go_ret;exact⟨by rw[HM2.out];rfl,B1.out⟩)
 by_cases h5:op=5
 ·subst h5;have HM2:Hid (mayI ⟨5,a,b⟩=(bn&&bz)):=Zh (by rw[HM.out,if_neg (by decide),if_neg (by decide),if_neg (by decide),if_pos (by decide)]);clear HM;cases bn
  ·go_wp2_with fail;refine(HN.out _).mono ?_;rintro e w' ⟨rfl,rfl⟩;go_wp2_with fail;go_ret;exact⟨by rw[HM2.out];rfl,B1.out⟩
  ·cases bz<;>(go_wp2_with fail;refine(HN.out _).mono ?_;rintro e w' ⟨rfl,rfl⟩;go_wp2_with fail;refine(HY.out _).mono ?_;rintro e w' ⟨rfl,rfl⟩;go_wp2_with fail;go_ret;exact⟨by rw[HM2.out];rfl,B1.out⟩)
 by_cases h6:op=6
 ·subst h6;have HM2:Hid (mayI ⟨6,a,b⟩=(bn&&bz)):=Zh (by rw[HM.out,if_neg (by decide),if_neg (by decide),if_neg (by decide),if_pos (by decide)]);clear HM;cases bn
  ·go_wp2_with fail;refine(HN.out _).mono ?_;rintro e w' ⟨rfl,rfl⟩;go_wp2_with fail;go_ret;exact⟨by rw[HM2.out];rfl,B1.out⟩
  ·cases bz<;>(go_wp2_with fail;refine(HN.out _).mono ?_;rintro e w' ⟨rfl,rfl⟩;go_wp2_with fail;refine(HY.out _).mono ?_;rintro e w' ⟨rfl,rfl⟩;go_wp2_with fail;go_ret;exact⟨by rw[HM2.out];rfl,B1.out⟩)
 by_cases h2:op=2
 ·subst h2;have HM2:Hid (mayI ⟨2,a,b⟩=(a.toList.isEmpty&&b.toList.isEmpty)):=Zh (by rw[HM.out,if_neg (by decide),if_neg (by decide),if_neg (by decide),if_neg (by decide),if_pos (by decide)]);clear HM HN HV HX HY;cases aE:a.toList.isEmpty<;>cases bE:b.toList.isEmpty<;>rw[aE,bE] at HM2<;>(go_wp2_with fail;go_ret;exact⟨by rw[HM2.out];rfl,B1.out⟩)
 by_cases h7:op=7
 ·subst h7;have HM2:Hid (mayI ⟨7,a,b⟩=(a.toList.isEmpty&&b.toList.isEmpty)):=Zh (by rw[HM.out,if_neg (by decide),if_neg (by decide),if_neg (by decide),if_neg (by decide),if_pos (by decide)]);clear HM HN HV HX HY;cases aE:a.toList.isEmpty<;>cases bE:b.toList.isEmpty<;>rw[aE,bE] at HM2<;>(go_wp2_with fail;go_ret;exact⟨by rw[HM2.out];rfl,B1.out⟩)
 by_cases h8:op=8
 ·subst h8;have HM2:Hid (mayI ⟨8,a,b⟩=(a.toList.isEmpty&&b.toList.isEmpty)):=Zh (by rw[HM.out,if_neg (by decide),if_neg (by decide),if_neg (by decide),if_neg (by decide),if_pos (by decide)]);clear HM HN HV HX HY;cases aE:a.toList.isEmpty<;>cases bE:b.toList.isEmpty<;>rw[aE,bE] at HM2<;>(go_wp2_with fail;go_ret;exact⟨by rw[HM2.out];rfl,B1.out⟩)
 have HM2:Hid (mayI ⟨op,a,b⟩=false):=Zh (by rw[HM.out];simp[h1,h2,h3,h4,h5,h6,h7,h8]);have q1:=int_ne h1;have q2:=int_ne h2;have q3:=int_ne h3;have q4:=int_ne h4;have q5:=int_ne h5;have q6:=int_ne h6;have q7:=int_ne h7;have q8:=int_ne h8;clear HM HN HV HX HY;go_wp2_with fail;go_ret;exact⟨by rw[HM2.out];rfl,B1.out⟩
end P11
namespace P14
open Go.RowKit Kd P4 P5 P11 P12 P13
def WB(w:World)(g:Nat)(t:WV):Prop:=w.heap[g]? = some (.cells #[.int .i64 t.kind,.string t.tag,.string t.key,.string t.txt,.slice t.sa.A t.sa.n t.sa.c,.slice t.sk.A t.sk.n t.sk.c] 69 (0,0))
section
variable{w w':World}{g C:Nat}{t:WV}
theorem WB.new(w:World)(t:WV):WB (w.alloc (.cells #[.int .i64 t.kind,.string t.tag,.string t.key,.string t.txt,.slice t.sa.A t.sa.n t.sa.c,.slice t.sk.A t.sk.n t.sk.c] 69)) w.heap.size t:=heap_alloc_new w _
theorem WB.lt(h:WB w g t):g<w.heap.size:=heap_lt h
theorem WB.below(h:WB w g t)(hb:Below C w w')(hC:g<C):WB w' g t:=(hb.block g hC).trans h
theorem WB.c0(h:WB w g t):w.cell? ⟨g,0,none⟩=some (.int .i64 t.kind):=cell_of_row w g 0 _ _ (0,0) h
theorem WB.c1(h:WB w g t):w.cell? ⟨g,1,none⟩=some (.string t.tag):=cell_of_row w g 1 _ _ (0,0) h
theorem WB.c2(h:WB w g t):w.cell? ⟨g,2,none⟩=some (.string t.key):=cell_of_row w g 2 _ _ (0,0) h
theorem WB.c3(h:WB w g t):w.cell? ⟨g,3,none⟩=some (.string t.txt):=cell_of_row w g 3 _ _ (0,0) h
theorem WB.c4(h:WB w g t):w.cell? ⟨g,4,none⟩=some (.slice t.sa.A t.sa.n t.sa.c):=cell_of_row w g 4 _ _ (0,0) h
theorem WB.c5(h:WB w g t):w.cell? ⟨g,5,none⟩=some (.slice t.sk.A t.sk.n t.sk.c):=cell_of_row w g 5 _ _ (0,0) h
theorem WB.fr(h:WB w g t)(k:Nat):w.frozen? ⟨g,k,none⟩=false:=by simp[World.frozen?,(show w.heap[g]? = _ from h)]
end
def CntP(ts:List WV):Prop:=∀(w:World) (A:Option Addr) (n c:Nat),kW.Holds w w.heap.size A ts→ts.length=n→(∀t∈ts,WOk kW w w.heap.size t)→wtL (erL ts)≤1000→
 Calls Tryz.prog 36 #[.slice A n c] w fun e w'=>e = .returned (.int .i64 (cntL (erL ts):Nat))∧Below w.heap.size w w'
theorem count_of(ts:List WV)(IH:∀t∈ts,CntP t.kids):CntP ts:=by
 intro w A n c hh hn hok hw;have KH:=Zh hh;have KL:=Zh hn;have KS:=Zh hok;have HI:Hid (∀t∈ts,CntP t.kids):=Zh IH;have EL:Hid ((erL ts).length=n):=Zh (by rw[erL_map];simpa using hn);have HC:Hid (∀k,cntL ((erL ts).take k)≤100000):=Zh (fun k=>by
  have h1:=cntL_wt ((erL ts).take k);have h2:wtL (erL ts)=wtL ((erL ts).take k)+wtL ((erL ts).drop k):=(by rw[←wtL_append,List.take_append_drop]);omega)
 have HW:=Zh hw;have hn1:n≤100000:=(by have:=wtL_len (erL ts);have:=EL.out;omega);clear hh hn hok hw IH;go_enter Tryz.func36,Tryz.ntmps36;go_wp2_with fail;go_loopw [3,8] (fun s3 s8 wr=>∃(k:Nat),k≤n∧s8 = .int .i64 k∧s3 = .int .i64 (cntL ((erL ts).take k):Nat)∧Hid (Below w.heap.size w wr)) (fun _ s8 _=>n-(intOf s8).toNat)
 case atStart=>exact⟨0,by omega,rfl,by simp[cntL],Zh Ze⟩
 case round=>
  obtain⟨k,hk,rfl,rfl,HB⟩:=hrel;by_cases hkn:k<n
  ·have hkl:k<ts.length:=(by have:=KL.out;omega);have hke:k<(erL ts).length:=(by have:=EL.out;omega);have SN:=Zh (cntL_take hke);rw[erL_at hkl hke,cnt_parts] at SN;have hd1:=HC.out k;have hd2:=HC.out (k+1);obtain⟨b,o,rfl,hb,g0,g1,g2,g3,g4,g5⟩:=cell_of_w (KH.out.on HB.out) hkl;have CK:Hid (∀wz,Below wr.heap.size wr wz→Calls Tryz.prog 36 #[.slice ts[k].sk.A ts[k].sk.n ts[k].sk.c] wz fun e w'=>e = .returned (.int .i64 (cntL (erL ts[k].kids):Nat))∧Below wz.heap.size wz w'):=Zh (fun wz hz=>by
    have ht:=(KS.out _ (List.getElem_mem hkl)).on (HB.out.trans (hz.mono HB.out.size));exact HI.out _ (List.getElem_mem hkl) wz _ _ _ ht.kh ht.kl ht.ks (by have:=wtL_kids (List.getElem_mem hkl);have:=HW.out;omega))
   generalize ts[k]=d at g0 g1 g2 g3 g4 g5 CK SN;generalize cntL (erL d.kids)=dk at CK SN;generalize cntL ((erL ts).take k)=m at SN hd1⊢;rw[SN.out] at hd2;go_upto_region 5 with fail;have NA:Hid (WB (wr.alloc (.cells #[.int .i64 d.kind,.string d.tag,.string d.key,.string d.txt,.slice d.sa.A d.sa.n d.sa.c,.slice d.sk.A d.sk.n d.sk.c] 69)) wr.heap.size d):=Zh (WB.new wr d);have BA:Hid (Below wr.heap.size wr (wr.alloc (.cells #[.int .i64 d.kind,.string d.tag,.string d.key,.string d.txt,.slice d.sa.A d.sa.n d.sa.c,.slice d.sk.A d.sk.n d.sk.c] 69))):=Zh (Zb _ _);generalize wr.alloc (.cells #[.int .i64 d.kind,.string d.tag,.string d.key,.string d.txt,.slice d.sa.A d.sa.n d.sa.c,.slice d.sk.A d.sk.n d.sk.c] 69)=wa at NA BA⊢;clear g0 g1 g2 g3 g4 g5;have a0:=NA.out.c0;have a5:=NA.out.c5;have BW:=Zh (HB.out.trans (BA.out.mono HB.out.size));obtain⟨kind,hkd⟩:∃x,d.kind=x:=⟨_,rfl⟩;rw[hkd] at a0 SN hd2;by_cases h2:kind=2
   ·subst h2;rw[if_pos rfl] at SN hd2;go_wp2_with fail;go_roundw
    case rel=>exact⟨k+1,by omega,by go_num,by rw[SN.out];go_num,BW⟩
    case measure=>simp[intOf];omega
   ·have q2:=int_ne h2;rw[if_neg h2] at SN hd2;by_cases h1:kind=1
    ·subst h1;rw[if_pos rfl] at SN hd2;go_wp2_with fail;refine(CK.out wa BA.out).mono ?_;rintro e w2 ⟨rfl,b2⟩;have B2:=Zh (BW.out.trans (b2.mono BW.out.size));clear b2;go_wp2_with fail;go_roundw
     case rel=>exact⟨k+1,by omega,by go_num,by rw[SN.out];go_num,B2⟩
     case measure=>simp[intOf];omega
    ·have q1:=int_ne h1;rw[if_neg h1] at SN hd2;go_wp2_with fail;go_roundw
     case rel=>exact⟨k+1,by omega,by go_num,by rw[SN.out];rfl,BW⟩
     case measure=>simp[intOf];omega
  ·obtain rfl:k=n:=by omega
   go_wp2_with fail;go_ret;exact⟨by rw[List.take_of_length_le (by have:=EL.out;omega)];rfl,HB.out⟩
theorem count_kids:∀t:WV,CntP t.kids:=by
 intro t
 induction t using WV.ind with
 |h kind tag key txt sa attrs sk kids ih=>exact count_of kids ih
theorem count_any(ts:List WV):CntP ts:=count_of ts (fun t _=>count_kids t)
section
variable{w w1 w2:World}
end
section
variable{B g:Nat}{t:WV}{A:Option Addr}{n c:Nat}{acc:List In}{w wz:World}
end
structure Rs(w:World)(C:Nat)(A:Option Addr)(n c:Nat)(l:List In):Prop where
 len:l.length=n
 cap:n≤c
 cm:c≤maxLen
 n1:n≤1000
 holds:kX.Holds w C A l
section
variable{w w':World}{C:Nat}{A:Option Addr}{n c:Nat}{l:List In}
theorem Rs.below(h:Rs w C A n c l)(hb:Below w.heap.size w w')(hC:C≤w.heap.size):Rs w' C A n c l:=⟨h.len,h.cap,h.cm,h.n1,h.holds.below hb hC⟩
theorem Rs.back(h:Rs w' C A n c l)(hb:Below w.heap.size w w')(hC:C≤w.heap.size):Rs w C A n c l:=⟨h.len,h.cap,h.cm,h.n1,h.holds.keep fun b _ hlt=>(hb.block b (by omega)).symm⟩
theorem Rs.cons{x:In}{r:List In}(h:Rs w C A n c (x:: r)):∃b o,A=some ⟨b,o,none⟩∧b<C∧w.cell? ⟨b,o,none⟩=some (.int .i64 x.op)∧w.cell? ⟨b,o+1,none⟩=some (.string x.a)∧w.cell? ⟨b,o+2,none⟩=some (.string x.b)∧r.length+1=n∧0<n∧
 (c=1→Rs w C (some ⟨b,o,none⟩) 0 0 r)∧(¬c=1→Rs w C (some ⟨b,o+3,none⟩) (n-1) (c-1) r):=by
 have hl:r.length+1=n:=(by have:=h.len;simpa using this);have hcap:=h.cap;have hcm:=h.cm;have hn1:=h.n1;obtain⟨b,o,rfl,hb,hc⟩:=h.holds.at (k:=0) (by simp);have hd:kX.Holds w C (some ⟨b,o+3,none⟩) r:=by
  have:=h.holds.drop 1;simpa[kX] using this
 refine⟨b,o,rfl,hb,?_,?_,?_,hl,by omega,fun e=>?_,fun e=>⟨by omega,by omega,by omega,by omega,hd⟩⟩
 ·have:=hc 0 _ rfl;simpa using this
 ·have:=hc 1 _ rfl;simpa using this
 ·have:=hc 2 _ rfl;simpa using this
 ·have:r=[]:=List.eq_nil_of_length_eq_zero (by omega);subst this;exact⟨rfl,Zl,by unfold maxLen;omega,by omega,Kind.Holds.nil _ _ _⟩
end
def GatV(w:World)(C:Nat)(ats:List P3.At)(rest:List In)(e:Ending)(w':World):Prop:=∃(A:Option Addr) (n c:Nat) (A2:Option Addr) (n2 c2:Nat),e = .returned (.tuple #[.slice A n c,.slice A2 n2 c2])∧kA.Own w' w.heap.size (.slice A n c) ats∧Rs w C A2 n2 c2 rest∧Below w.heap.size w w'
def GatR(w:World)(C:Nat)(ats:List P3.At)(rest:List In)(s0 s4:Value)(wr:World):Prop:=∃(dn td:List P3.At) (A:Option Addr) (n c:Nat) (A':Option Addr) (n' c':Nat),s0 = .slice A n c∧s4 = .slice A' n' c'∧Hid (dn++td=ats)∧Hid (Rs w C A n c (td.map atI++rest))∧Hid (kA.Own wr w.heap.size (.slice A' n' c') dn)∧Hid (dn.length+n≤1000)∧Hid (Below w.heap.size w wr)
theorem getAttrs_any(ats:List P3.At)(rest:List In)(A:Option Addr)(n c C:Nat)(w:World)(hr:HeadT rest)(h:Rs w C A n c (ats.map atI++rest))(hC:C≤w.heap.size):Calls Tryz.prog 125 #[.slice A n c] w (GatV w C ats rest):=by
 have ST:Hid (GatR w C ats rest (.slice A n c) (.slice none 0 0) w):=Zh ⟨[],ats,A,n,c,none,0,0,rfl,rfl,Zh rfl,Zh h,Zh (Kind.Own.nil kA w _),Zh (by have:=h.n1;simp;omega),Zh Ze⟩;have HR:=Zh hr;have hCw:C≤w.heap.size:=hC;clear h hr;go_enter Tryz.func125,Tryz.ntmps125;go_wp2_with fail;go_loopw [0,4] (fun s0 s4 wr=>GatR w C ats rest s0 s4 wr) (fun s0 _ _=>match s0 with| .slice _ n _=>n|_=>0)
 case atStart=>exact ST.out
 case round=>
  obtain⟨dn,td,A,n,c,A',n',c',rfl,rfl,HA,HL,HO,HN,HB⟩:=hrel;clear ST;have hn1:=HL.out.n1;have hnc:=HL.out.cap;have hcm:=HL.out.cm;have hbr:w.heap.size≤wr.heap.size:=HB.out.size;have hbr2:C≤wr.heap.size:=Nat.le_trans hCw hbr;cases td with
  |nil=>
   have HE:Hid (dn=ats):=Zh (by have:=HA.out;simpa using this);have HL2:Hid (Rs w C A n c rest):=Zh HL.out;clear HL HA;cases rest with
   |nil=>
    obtain rfl:n=0:=by have:=HL2.out.len;simpa using this.symm
    go_wp2_with fail;go_ret2;exact⟨A',n',c',A,0,c,rfl,by rw[←HE.out];exact HO.out,HL2.out,HB.out⟩
   |cons y r=>
    obtain⟨b,o,rfl,hb,g0,_,_,hl,h0,_,_⟩:=(HL2.out.below HB.out hCw).cons;have ht:tellsO y.op=false:=HR.out y rfl;have CT:Hid (Calls Tryz.prog 93 #[.int .i64 y.op] wr fun e w'=>e = .returned (.bool false)∧Below wr.heap.size wr w'):=Zh (by
     have:=tells_c y.op wr;rw[show tellsB y.op=false by rw[←ht];exact Bool.eq_iff_iff.2 (by simp[tellsB,tellsO])] at this;exact this)
    have HY:=Zh ht;clear ht hl;go_wp2_with fail;refine CT.out.mono ?_;rintro e w2 ⟨rfl,b2⟩;have B2:=Zh (HB.out.trans (b2.mono hbr));have O2:=Zh (HO.out.below b2 (Zl));clear b2 CT HB HO;go_wp2_with fail;go_ret2;exact⟨A',n',c',_,n,c,rfl,by rw[←HE.out];exact O2.out,HL2.out,B2.out⟩
  |cons a td=>
   obtain⟨nm,vl,st⟩:=a;have HA2:Hid ((dn++[⟨nm,vl,st⟩])++td=ats):=Zh (by rw[←HA.out];simp);have HL2:Hid (Rs w C A n c (⟨if st then 6 else 5,nm,vl⟩:: (td.map atI++rest))):=Zh HL.out;have hdl:dn.length+n≤1000:=HN.out;clear HA HL HN;obtain⟨b,o,rfl,hb,g0',g1',g2',hl,h0,hR1,hR2⟩:=HL2.out.cons;have G:Hid (∀wz,Below w.heap.size w wz→wz.cell? ⟨b,o,none⟩=some (.int .i64 (if st then 6 else 5))∧wz.cell? ⟨b,o+1,none⟩=some (.string nm)∧wz.cell? ⟨b,o+2,none⟩=some (.string vl)):=Zh (fun wz hz=>⟨(hz.cell (by show b<_;omega)).trans g0',(hz.cell (by show b<_;omega)).trans g1',(hz.cell (by show b<_;omega)).trans g2'⟩);have hR1:=Zh hR1;have hR2:=Zh hR2;clear g0' g1' g2' hl HL2;have i0:(0:Int)<(n:Int):=(by omega);have i1:(1:Int)≤(n:Int):=(by omega);have i2:(n:Int)≤(c:Int):=(by omega);have hcm':c≤9223372036854775807:=(by unfold maxLen at hcm;omega);cases st
   ·have G:=G.out;have CT:Hid (Calls Tryz.prog 93 #[.int .i64 5] wr fun e w'=>e = .returned (.bool true)∧Below wr.heap.size wr w'):=Zh (tells_c 5 wr);obtain⟨g0,g1,g2⟩:=G wr HB.out;simp only[Bool.false_eq_true,if_false,if_true] at g0;have SK0:Hid (∀wz,Below w.heap.size w wz→wz.cell? ⟨b,o,none⟩=some (.int .i64 5)∧wz.cell? ⟨b,o+1,none⟩=some (.string nm)∧wz.cell? ⟨b,o+2,none⟩=some (.string vl)):=Zh (fun wz hz=>by have:=G wz hz;simpa using this);clear G;go_wp2_with fail;refine CT.out.mono ?_;rintro e w2 ⟨rfl,b2⟩;have B2:=Zh (HB.out.trans (b2.mono hbr));have O2:=Zh (HO.out.below b2 (Zl));have hbz:w.heap.size≤w2.heap.size:=B2.out.size;clear b2 CT HB HO g0 g1 g2;obtain⟨g0,g1,g2⟩:=SK0.out w2 B2.out;have SK:=SK0.out w2 B2.out;go_upto_region 3 with fail;go_region_held3 (fun w'=>w'.cell? ⟨b,o,none⟩=some (.int .i64 5)∧w'.cell? ⟨b,o+1,none⟩=some (.string nm)∧w'.cell? ⟨b,o+2,none⟩=some (.string vl)) (first|go_keep|exact SK) ((first
     |(refine kA.step_app rfl (.tmp 15) (.tmp 30) rfl (v:=.slice A' n' c') (l:=dn) (m:=[⟨nm,vl,false⟩]) (B:=w.heap.size) rfl (by repeat (first|exact O2.out|refine Kind.Own.alloc ?_ _|refine Kind.Own.drewN ?_ _|refine Kind.Own.drew ?_)) rfl rfl (fun e=>by cases e) (Kind.Holds.lit (by first|exact heap_alloc_new _ _|exact heap_drew (heap_top rfl)|exact heap_top rfl) rfl) (by omega) (by have:=B2.out.size;simp;omega) ?_;intro v' w12 hown' hgrow hat;obtain⟨A6,n6,c6,rfl,_,_,_,_,_⟩:=hown'.slice;have O6:=Zh hown';have B6:Hid (Below w.heap.size w w12):=Zh (Below.grown (by first|exact(B2.out.alloc B2.out.size _).drew|exact B2.out.alloc B2.out.size _|exact(B2.out.drew).alloc (by simpa using B2.out.size) _) hgrow (by have:=B2.out.size;simp;omega) (fun i hi=>(O2.out.lt hi).1));have SK:=SK0.out w12 B6.out;clear hown' hgrow hat)
     |fail))
    clear SK SK0 g0 g1 g2 B2 O2;by_cases hcap:c=1
    ·have HR1:=Zh (hR1.out hcap);subst hcap;obtain rfl:n=1:=by omega
     clear hR1 hR2;go_wp2_with fail;go_roundw
     case rel=>exact⟨dn++[⟨nm,vl,false⟩],td,_,0,0,A6,n6,c6,rfl,rfl,HA2,HR1,O6,Zh (by simp;omega),B6⟩
     case measure=>exact Nat.one_pos
    ·have HR2:=Zh (hR2.out hcap);have hcq:¬c-1=0:=(by omega);clear hR1 hR2;go_wp2_with fail;go_roundw
     case rel=>exact⟨dn++[⟨nm,vl,false⟩],td,_,n-1,c-1,A6,n6,c6,rfl,rfl,HA2,HR2,O6,Zh (by simp;omega),B6⟩
     case measure=>exact Nat.sub_lt h0 Nat.one_pos
   ·have G:=G.out;have CT:Hid (Calls Tryz.prog 93 #[.int .i64 6] wr fun e w'=>e = .returned (.bool true)∧Below wr.heap.size wr w'):=Zh (tells_c 6 wr);obtain⟨g0,g1,g2⟩:=G wr HB.out;simp only[Bool.false_eq_true,if_false,if_true] at g0;have SK0:Hid (∀wz,Below w.heap.size w wz→wz.cell? ⟨b,o,none⟩=some (.int .i64 6)∧wz.cell? ⟨b,o+1,none⟩=some (.string nm)∧wz.cell? ⟨b,o+2,none⟩=some (.string vl)):=Zh (fun wz hz=>by have:=G wz hz;simpa using this);clear G;go_wp2_with fail;refine CT.out.mono ?_;rintro e w2 ⟨rfl,b2⟩;have B2:=Zh (HB.out.trans (b2.mono hbr));have O2:=Zh (HO.out.below b2 (Zl));have hbz:w.heap.size≤w2.heap.size:=B2.out.size;clear b2 CT HB HO g0 g1 g2;obtain⟨g0,g1,g2⟩:=SK0.out w2 B2.out;have SK:=SK0.out w2 B2.out;go_upto_region 3 with fail;go_region_held3 (fun w'=>w'.cell? ⟨b,o,none⟩=some (.int .i64 6)∧w'.cell? ⟨b,o+1,none⟩=some (.string nm)∧w'.cell? ⟨b,o+2,none⟩=some (.string vl)) (first|go_keep|exact SK) ((first
     |(refine kA.step_app rfl (.tmp 15) (.tmp 30) rfl (v:=.slice A' n' c') (l:=dn) (m:=[⟨nm,vl,true⟩]) (B:=w.heap.size) rfl (by repeat (first|exact O2.out|refine Kind.Own.alloc ?_ _|refine Kind.Own.drewN ?_ _|refine Kind.Own.drew ?_)) rfl rfl (fun e=>by cases e) (Kind.Holds.lit (by first|exact heap_alloc_new _ _|exact heap_drew (heap_top rfl)|exact heap_top rfl) rfl) (by omega) (by have:=B2.out.size;simp;omega) ?_;intro v' w12 hown' hgrow hat;obtain⟨A6,n6,c6,rfl,_,_,_,_,_⟩:=hown'.slice;have O6:=Zh hown';have B6:Hid (Below w.heap.size w w12):=Zh (Below.grown (by first|exact(B2.out.alloc B2.out.size _).drew|exact B2.out.alloc B2.out.size _|exact(B2.out.drew).alloc (by simpa using B2.out.size) _) hgrow (by have:=B2.out.size;simp;omega) (fun i hi=>(O2.out.lt hi).1));have SK:=SK0.out w12 B6.out;clear hown' hgrow hat)
     |fail))
    clear SK SK0 g0 g1 g2 B2 O2;by_cases hcap:c=1
    ·have HR1:=Zh (hR1.out hcap);subst hcap;obtain rfl:n=1:=by omega
     clear hR1 hR2;go_wp2_with fail;go_roundw
     case rel=>exact⟨dn++[⟨nm,vl,true⟩],td,_,0,0,A6,n6,c6,rfl,rfl,HA2,HR1,O6,Zh (by simp;omega),B6⟩
     case measure=>exact Nat.one_pos
    ·have HR2:=Zh (hR2.out hcap);have hcq:¬c-1=0:=(by omega);clear hR1 hR2;go_wp2_with fail;go_roundw
     case rel=>exact⟨dn++[⟨nm,vl,true⟩],td,_,n-1,c-1,A6,n6,c6,rfl,rfl,HA2,HR2,O6,Zh (by simp;omega),B6⟩
     case measure=>exact Nat.sub_lt h0 Nat.one_pos
attribute [local go_sem ↓] Go.wp_at_zero Go.wp_at_succ
def zWV:WV:=.mk 0 ⟨#[]⟩ ⟨#[]⟩ ⟨#[]⟩ ⟨none,0,0⟩ [] ⟨none,0,0⟩ []
def GotV(w:World)(C:Nat)(t:PW)(rest:List In)(e:Ending)(w':World):Prop:=∃(tv:WV) (A2:Option Addr) (n2 c2:Nat),e = .returned (.tuple #[.agg #[.int .i64 tv.kind,.string tv.tag,.string tv.key,.string tv.txt,.slice tv.sa.A tv.sa.n tv.sa.c,.slice tv.sk.A tv.sk.n tv.sk.c],.slice A2 n2 c2])∧er tv=t∧WNew kW w' (fun b=>w.heap.size≤b) tv∧Rs w C A2 n2 c2 rest∧Below w.heap.size w w'
def GotA(w:World)(C:Nat)(ps:List PW)(rest:List In)(e:Ending)(w':World):Prop:=∃(A:Option Addr) (n c:Nat) (ts:List WV) (A2:Option Addr) (n2 c2:Nat),e = .returned (.tuple #[.slice A n c,.slice A2 n2 c2])∧erL ts=ps∧kW.Own w' w.heap.size (.slice A n c) ts∧(∀t∈ts,WNew kW w' (fun b=>w.heap.size≤b∧(Value.slice A n c).ownBlock≠some b) t)∧Rs w C A2 n2 c2 rest∧Below w.heap.size w w'
def Stop(l:List In):Prop:=∀x,l.head? = some x→x.op=2
def GetC(ps:List PW):Prop:=∀(rest:List In) (A:Option Addr) (n c C:Nat) (w:World),(∀t∈ps,WfW t)→Stop rest→Rs w C A n c (backL ps++rest)→C≤w.heap.size→Calls Tryz.prog 25 #[.slice A n c] w (GotA w C ps rest)
theorem el_fin{w wr wf:World}{tv:WV}(z:WB wr w.heap.size zWV)(new:WNew kW wr (fun b=>w.heap.size<b) tv)(hb:Below w.heap.size w wr)(hs:But (fun b=>b=w.heap.size) wr wf):WNew kW wf (fun b=>w.heap.size≤b) tv∧Below w.heap.size w wf:=by
 refine⟨(new.but hs (fun b hb e=>by omega) (fun b cur fr e hc=>?_)).mono fun b _ hb=>Nat.le_of_lt hb,one_end hb hs⟩;subst e;exact heap_ne hc z (by decide) rfl
structure ESt(w wr:World)(g1 g2:Nat)(x:In)(tv:WV):Prop where
 z:WB wr w.heap.size zWV
 l1:w.heap.size<g1
 l2:g1<g2
 x:XB wr g1 x
 t:WB wr g2 tv
 hb:Below w.heap.size w wr
section
variable{w wr w2:World}{x:In}{tag key txt:ByteArray}{sa sk:Sv}{ats:List P3.At}{ks:List WV}{kind:Int}{g1 g2:Nat}
theorem ESt.later(h:ESt w wr g1 g2 x (.mk kind tag key txt sa ats sk ks))(hb:Below wr.heap.size wr w2):ESt w w2 g1 g2 x (.mk kind tag key txt sa ats sk ks):=⟨h.z.below hb h.z.lt,h.l1,h.l2,h.x.below hb h.x.lt,h.t.below hb h.t.lt,h.hb.trans (hb.mono h.hb.size)⟩
theorem ESt.set4(h:ESt w wr g1 g2 x (.mk kind tag key txt sa ats sk ks))(sa':Sv)(ats':List P3.At):ESt w (wr.setCell ⟨g2,4,none⟩ (.slice sa'.A sa'.n sa'.c)) g1 g2 x (.mk kind tag key txt sa' ats' sk ks):=by
 have:=h.l1;have:=h.l2;refine⟨(Below.heap_setCell _ _ _ _ (by simp only;omega)).trans h.z,h.l1,h.l2,(Below.heap_setCell _ _ _ _ (by simp only;omega)).trans h.x,heap_set h.t 4 _,?_⟩;exact h.hb.trans ((But.setCell (S:=fun b=>b=g2) (p:=⟨g2,4,none⟩) (But.refl _ wr) (fun _=>rfl) _).to_below (fun i _ hi=>by omega) h.hb.size)
theorem ESt.set5(h:ESt w wr g1 g2 x (.mk kind tag key txt sa ats sk ks))(sk':Sv)(ks':List WV):ESt w (wr.setCell ⟨g2,5,none⟩ (.slice sk'.A sk'.n sk'.c)) g1 g2 x (.mk kind tag key txt sa ats sk' ks'):=by
 have:=h.l1;have:=h.l2;refine⟨(Below.heap_setCell _ _ _ _ (by simp only;omega)).trans h.z,h.l1,h.l2,(Below.heap_setCell _ _ _ _ (by simp only;omega)).trans h.x,heap_set h.t 5 _,?_⟩;exact h.hb.trans ((But.setCell (S:=fun b=>b=g2) (p:=⟨g2,5,none⟩) (But.refl _ wr) (fun _=>rfl) _).to_below (fun i _ hi=>by omega) h.hb.size)
theorem but2(w:World)(g i:Nat)(u:Value):But (fun b=>b=g) w (w.setCell ⟨g,i,none⟩ u):=But.setCell (S:=fun b=>b=g) (p:=⟨g,i,none⟩) (But.refl _ w) (fun _=>rfl) _
theorem ESt.noA(h:ESt w wr g1 g2 x (.mk kind tag key txt sa ats sk ks)):NoA wr (fun b=>b=g2):=fun b cur fr e hc=>by
 subst e;exact heap_ne hc h.t (by decide) rfl
end
theorem el_new{w wr:World}{g1 g2:Nat}{x:In}{tag key:ByteArray}{sa sk:Sv}{ats:List P3.At}{ks:List WV}{D:Nat}(h:ESt w wr g1 g2 x (.mk 1 tag key zB sa ats sk ks))(ha:AOk wr sa ats)(own:kW.Own wr D (.slice sk.A sk.n sk.c) ks)(hD:w.heap.size<D)(hks:∀t∈ks,WNew kW wr (fun b=>w.heap.size<b) t):
 WNew kW wr (fun b=>w.heap.size<b) (.mk 1 tag key zB sa ats sk ks):=⟨ha,own.base_le (Nat.zero_le _),fun b hb=>by have:=(own.lt hb).1;omega,hks⟩
theorem getOpen_any(tag key:ByteArray)(ats:List P3.At)(kids:List PW)(rest:List In)(A:Option Addr)(n c C:Nat)(w:World)(IH:GetC kids)(hk:∀k∈kids,WfW k)(h:Rs w C A n c (⟨1,tag,key⟩:: (ats.map atI++(backL kids++(⟨2,z0,z0⟩:: rest)))))(hC:C≤w.heap.size):
 Calls Tryz.prog 99 #[.slice A n c] w (GotV w C (.mk 1 tag key z0 ats kids) rest):=by
 have HS:=Zh h;obtain⟨b,o,rfl,hb,g0',g1',g2',hl,h0,hR1,hR2⟩:=h.cons;have HR1:=Zh hR1;have HR2:=Zh hR2;have hcap:=h.cap;have hcm:=h.cm;have HIH:=Zh IH;have HK:=Zh hk;have CG:Hid (∀(wz:World) (A':Option Addr) (n' c':Nat),Below w.heap.size w wz→Rs w C A' n' c' (ats.map atI++(backL kids++(⟨2,z0,z0⟩:: rest)))→Calls Tryz.prog 125 #[.slice A' n' c'] wz (GatV wz C ats (backL kids++(⟨2,z0,z0⟩:: rest)))):=Zh (fun wz A' n' c' hz hr=>
  getAttrs_any ats _ A' n' c' C wz (backL_head hk (HeadT.cons rfl)) (hr.below hz hC) (Nat.le_trans hC hz.size))
 have CA:Hid (∀(wz:World) (A':Option Addr) (n' c':Nat),Below w.heap.size w wz→Rs wz C A' n' c' (backL kids++(⟨2,z0,z0⟩:: rest))→Calls Tryz.prog 25 #[.slice A' n' c'] wz (GotA wz C kids (⟨2,z0,z0⟩:: rest))):=Zh (fun wz A' n' c' hz hr=>
  HIH.out (⟨2,z0,z0⟩:: rest) A' n' c' C wz hk (fun x hx=>by injection hx with hx;rw[←hx]) hr (Nat.le_trans hC hz.size))
 clear h hR1 hR2 IH hk;have hbw:b<w.heap.size:=Nat.lt_of_lt_of_le hb hC;have i1:(1:Int)≤(n:Int):=(by omega);have i2:(n:Int)≤(c:Int):=(by omega);have hcm':c≤9223372036854775807:=(by unfold maxLen at hcm;omega);have hcap1:¬c=1:=(by simp at hl;omega);have HR:=Zh (HR2.out hcap1);have hcq:¬c-1=0:=(by omega);clear HR1 HR2 HS HIH HK hl;go_enter Tryz.func99,Tryz.ntmps99;go_upto_region 1 with fail;have Z0:Hid (WB (w.alloc (.cells #[.int .i64 0,.string ⟨#[]⟩,.string ⟨#[]⟩,.string ⟨#[]⟩,.slice none 0 0,.slice none 0 0] 69)) w.heap.size zWV):=Zh (WB.new w zWV);have B0:Hid (Below w.heap.size w (w.alloc (.cells #[.int .i64 0,.string ⟨#[]⟩,.string ⟨#[]⟩,.string ⟨#[]⟩,.slice none 0 0,.slice none 0 0] 69))):=Zh (Zb _ _);generalize w.alloc (.cells #[.int .i64 0,.string ⟨#[]⟩,.string ⟨#[]⟩,.string ⟨#[]⟩,.slice none 0 0,.slice none 0 0] 69)=wa at Z0 B0⊢;have g0:=(B0.out.cell (p:=⟨b,o,none⟩) hbw).trans g0';have g1:=(B0.out.cell (p:=⟨b,o+1,none⟩) hbw).trans g1';have g2:=(B0.out.cell (p:=⟨b,o+2,none⟩) hbw).trans g2';go_upto_region 2 with fail;have X1:Hid (XB (wa.alloc (.cells #[.int .i64 1,.string tag,.string key] 76)) wa.heap.size ⟨1,tag,key⟩):=Zh (XB.new wa ⟨1,tag,key⟩);have b1:Below wa.heap.size wa (wa.alloc (.cells #[.int .i64 1,.string tag,.string key] 76)):=Zb _ _;generalize wa.alloc (.cells #[.int .i64 1,.string tag,.string key] 76)=wb at X1 b1⊢;have Z1:=Zh (Z0.out.below b1 Z0.out.lt);have B1:=Zh (B0.out.trans (b1.mono B0.out.size));have l1:w.heap.size<wa.heap.size:=Z0.out.lt;generalize wa.heap.size=k1 at X1 l1⊢;clear b1 g0 g1 g2 Z0 B0;have x1:=X1.out.c1;have x2:=X1.out.c2;simp only at x1 x2;go_upto_region 3 with fail;have E2:Hid (ESt w (wb.alloc (.cells #[.int .i64 1,.string tag,.string key,.string ⟨#[]⟩,.slice none 0 0,.slice none 0 0] 69)) k1 wb.heap.size ⟨1,tag,key⟩ (.mk 1 tag key zB ⟨none,0,0⟩ [] ⟨none,0,0⟩ [])):=Zh (by
  have b2:Below wb.heap.size wb (wb.alloc (.cells #[.int .i64 1,.string tag,.string key,.string ⟨#[]⟩,.slice none 0 0,.slice none 0 0] 69)):=Zb _ _;exact⟨Z1.out.below b2 Z1.out.lt,l1,X1.out.lt,X1.out.below b2 X1.out.lt,WB.new wb (.mk 1 tag key zB ⟨none,0,0⟩ [] ⟨none,0,0⟩ []),B1.out.trans (b2.mono B1.out.size)⟩)
 generalize wb.alloc (.cells #[.int .i64 1,.string tag,.string key,.string ⟨#[]⟩,.slice none 0 0,.slice none 0 0] 69)=w2 at E2⊢;generalize wb.heap.size=k2 at E2⊢;clear X1 Z1 B1 x1 x2;go_wp2_with fail;refine(CG.out w2 _ _ _ E2.out.hb HR.out).mono ?_;rintro e w3 ⟨A3,n3,c3,A4,n4,c4,rfl,o3,r4,b3⟩;have E3:=Zh (E2.out.later b3);have R4:=Zh (r4.back E2.out.hb hC);obtain⟨sa,hsa,aok⟩:=AOk.own o3;obtain⟨sA,sn,sc⟩:=sa;injection hsa with e1 e2 e3;subst e1;subst e2;subst e3;have E4:=Zh (E3.out.set4 ⟨A3,n3,c3⟩ ats);have A4k:=Zh (aok.but (but2 w3 k2 4 (.slice A3 n3 c3)) E3.out.noA);have t4:=E3.out.t.c4;have tf:=E3.out.t.fr;simp only[WV.sa] at t4;clear o3 r4 b3 aok E2 CG HR;go_upto_region 4 with fail;generalize w3.setCell ⟨k2,4,none⟩ (.slice A3 n3 c3)=w4 at E4 A4k⊢;clear t4 tf E3;have x0:=E4.out.x.c0;simp only at x0;go_wp2_with fail;refine(CA.out w4 _ _ _ E4.out.hb (R4.out.below E4.out.hb hC)).mono ?_;rintro e w5 ⟨A5,n5,c5,ks,A6,n6,c6,rfl,her,own5,new5,r6,b5⟩;have E5:=Zh (E4.out.later b5);have R6:=Zh (r6.back E4.out.hb hC);have A5k:=Zh (A4k.out.below b5);have HER:=Zh her;have OW5:=Zh own5;have NW5:=Zh new5;have lk:k2<w4.heap.size:=E4.out.t.lt;have lw:w.heap.size<w4.heap.size:=E4.out.z.lt;have E6:=Zh (E5.out.set5 ⟨A5,n5,c5⟩ ks);have N6:Hid (WNew kW (w5.setCell ⟨k2,5,none⟩ (.slice A5 n5 c5)) (fun b=>w.heap.size<b) (.mk 1 tag key zB ⟨A3,n3,c3⟩ ats ⟨A5,n5,c5⟩ ks)):=Zh (el_new E6.out (A5k.out.but (but2 w5 k2 5 _) E5.out.noA) (OW5.out.keep (fun b hb=>Below.heap_setCell _ _ _ _ (show b≠k2 by have:=(OW5.out.lt hb).1;omega))) lw (fun t ht=>((NW5.out t ht).but (but2 w5 k2 5 _) (fun b hb e=>by have:=hb.1;omega) E5.out.noA).mono (fun b _ hb=>by have:=hb.1;omega)));have t5:=E5.out.t.c5;have tf:=E5.out.t.fr;simp only[WV.sk] at t5;clear her own5 new5 r6 b5 x0 E4 A4k CA R4;go_upto_region 6 with fail;generalize w5.setCell ⟨k2,5,none⟩ (.slice A5 n5 c5)=w6 at E6 N6⊢;clear t5 tf E5 A5k OW5 NW5;obtain⟨b6,o6,rfl,hb6,_,_,_,hl6,h06,hR1,hR2⟩:=R6.out.cons;have hnc6:=R6.out.cap;have hcm6:=R6.out.cm;have j1:(1:Int)≤(n6:Int):=(by omega);have j2:(n6:Int)≤(c6:Int):=(by omega);have hcm6':c6≤9223372036854775807:=(by unfold maxLen at hcm6;omega);have t0:=E6.out.t.c0;have t1:=E6.out.t.c1;have t2:=E6.out.t.c2;have t3:=E6.out.t.c3;have t4:=E6.out.t.c4;have t5:=E6.out.t.c5;have z0:=E6.out.z.c0;have z1:=E6.out.z.c1;have z2:=E6.out.z.c2;have z3:=E6.out.z.c3;have z4:=E6.out.z.c4;have z5:=E6.out.z.c5;simp only[WV.kind,WV.tag,WV.key,WV.txt,WV.sa,WV.sk,zWV,zB] at t0 t1 t2 t3 t4 t5 z0 z1 z2 z3 z4 z5;have zf:=E6.out.z.fr;have hzl:w.heap.size<w6.heap.size:=E6.out.z.lt;have hk2:k2≠w.heap.size:=(by have:=E6.out.l1;have:=E6.out.l2;omega);by_cases hcap6:c6=1
 ·have HR6:=Zh (hR1 hcap6);subst hcap6;obtain rfl:n6=1:=by omega
  clear hR1 hR2;go_wp2_with fail;refine bodyPost_ret (v:=.tuple #[.agg #[.int .i64 1,.string tag,.string key,.string ⟨#[]⟩,.slice A3 n3 c3,.slice A5 n5 c5],.slice (some ⟨b6,o6,none⟩) (0) (0)]) (by simp[results,Tryz.results99,go_sem,z0,z1,z2,z3,z4,z5,hzl]) rfl ⟨.mk 1 tag key zB ⟨A3,n3,c3⟩ ats ⟨A5,n5,c5⟩ ks,_,_,_,rfl,by rw[er,HER.out];rfl,?_,HR6.out,?_⟩
  ·exact(el_fin E6.out.z N6.out E6.out.hb (setOne (setOne (setOne (setOne (setOne (setOne (But.refl _ _)))))))).1
  ·exact(el_fin E6.out.z N6.out E6.out.hb (setOne (setOne (setOne (setOne (setOne (setOne (But.refl _ _)))))))).2
 ·have HR6:=Zh (hR2 hcap6);have hcq6:¬c6-1=0:=(by omega);clear hR1 hR2;go_wp2_with fail;refine bodyPost_ret (v:=.tuple #[.agg #[.int .i64 1,.string tag,.string key,.string ⟨#[]⟩,.slice A3 n3 c3,.slice A5 n5 c5],.slice (some ⟨b6,o6+3,none⟩) (n6-1) (c6-1)]) (by simp[results,Tryz.results99,go_sem,z0,z1,z2,z3,z4,z5,hzl]) rfl ⟨.mk 1 tag key zB ⟨A3,n3,c3⟩ ats ⟨A5,n5,c5⟩ ks,_,_,_,rfl,by rw[er,HER.out];rfl,?_,HR6.out,?_⟩
  ·exact(el_fin E6.out.z N6.out E6.out.hb (setOne (setOne (setOne (setOne (setOne (setOne (But.refl _ _)))))))).1
  ·exact(el_fin E6.out.z N6.out E6.out.hb (setOne (setOne (setOne (setOne (setOne (setOne (But.refl _ _)))))))).2
theorem getVoid_any(tag key:ByteArray)(ats:List P3.At)(rest:List In)(A:Option Addr)(n c C:Nat)(w:World)(hT:HeadT rest)(h:Rs w C A n c (⟨3,tag,key⟩:: (ats.map atI++rest)))(hC:C≤w.heap.size):
 Calls Tryz.prog 99 #[.slice A n c] w (GotV w C (.mk 1 tag key z0 ats []) rest):=by
 obtain⟨b,o,rfl,hb,g0',g1',g2',hl,h0,hR1,hR2⟩:=h.cons;have HR1:=Zh hR1;have HR2:=Zh hR2;have hcap:=h.cap;have hcm:=h.cm;have CG:Hid (∀(wz:World) (A':Option Addr) (n' c':Nat),Below w.heap.size w wz→Rs w C A' n' c' (ats.map atI++rest)→Calls Tryz.prog 125 #[.slice A' n' c'] wz (GatV wz C ats rest)):=Zh (fun wz A' n' c' hz hr=>
  getAttrs_any ats _ A' n' c' C wz hT (hr.below hz hC) (Nat.le_trans hC hz.size))
 clear h hR1 hR2 hT hl;have hbw:b<w.heap.size:=Nat.lt_of_lt_of_le hb hC;have i1:(1:Int)≤(n:Int):=(by omega);have i2:(n:Int)≤(c:Int):=(by omega);have hcm':c≤9223372036854775807:=(by unfold maxLen at hcm;omega);by_cases hcap1:c=1
 ·have HR:=Zh (HR1.out hcap1);subst hcap1;obtain rfl:n=1:=by omega
  clear HR1 HR2;go_enter Tryz.func99,Tryz.ntmps99;go_upto_region 1 with fail;have Z0:Hid (WB (w.alloc (.cells #[.int .i64 0,.string ⟨#[]⟩,.string ⟨#[]⟩,.string ⟨#[]⟩,.slice none 0 0,.slice none 0 0] 69)) w.heap.size zWV):=Zh (WB.new w zWV);have B0:Hid (Below w.heap.size w (w.alloc (.cells #[.int .i64 0,.string ⟨#[]⟩,.string ⟨#[]⟩,.string ⟨#[]⟩,.slice none 0 0,.slice none 0 0] 69))):=Zh (Zb _ _);generalize w.alloc (.cells #[.int .i64 0,.string ⟨#[]⟩,.string ⟨#[]⟩,.string ⟨#[]⟩,.slice none 0 0,.slice none 0 0] 69)=wa at Z0 B0⊢;have g0:=(B0.out.cell (p:=⟨b,o,none⟩) hbw).trans g0';have g1:=(B0.out.cell (p:=⟨b,o+1,none⟩) hbw).trans g1';have g2:=(B0.out.cell (p:=⟨b,o+2,none⟩) hbw).trans g2';go_upto_region 2 with fail;have X1:Hid (XB (wa.alloc (.cells #[.int .i64 3,.string tag,.string key] 76)) wa.heap.size ⟨3,tag,key⟩):=Zh (XB.new wa ⟨3,tag,key⟩);have b1:Below wa.heap.size wa (wa.alloc (.cells #[.int .i64 3,.string tag,.string key] 76)):=Zb _ _;generalize wa.alloc (.cells #[.int .i64 3,.string tag,.string key] 76)=wb at X1 b1⊢;have Z1:=Zh (Z0.out.below b1 Z0.out.lt);have B1:=Zh (B0.out.trans (b1.mono B0.out.size));have l1:w.heap.size<wa.heap.size:=Z0.out.lt;generalize wa.heap.size=k1 at X1 l1⊢;clear b1 g0 g1 g2 Z0 B0;have x1:=X1.out.c1;have x2:=X1.out.c2;simp only at x1 x2;go_upto_region 3 with fail;have E2:Hid (ESt w (wb.alloc (.cells #[.int .i64 1,.string tag,.string key,.string ⟨#[]⟩,.slice none 0 0,.slice none 0 0] 69)) k1 wb.heap.size ⟨3,tag,key⟩ (.mk 1 tag key zB ⟨none,0,0⟩ [] ⟨none,0,0⟩ [])):=Zh (by
   have b2:Below wb.heap.size wb (wb.alloc (.cells #[.int .i64 1,.string tag,.string key,.string ⟨#[]⟩,.slice none 0 0,.slice none 0 0] 69)):=Zb _ _;exact⟨Z1.out.below b2 Z1.out.lt,l1,X1.out.lt,X1.out.below b2 X1.out.lt,WB.new wb (.mk 1 tag key zB ⟨none,0,0⟩ [] ⟨none,0,0⟩ []),B1.out.trans (b2.mono B1.out.size)⟩)
  generalize wb.alloc (.cells #[.int .i64 1,.string tag,.string key,.string ⟨#[]⟩,.slice none 0 0,.slice none 0 0] 69)=w2 at E2⊢;generalize wb.heap.size=k2 at E2⊢;clear X1 Z1 B1 x1 x2;go_wp2_with fail;refine(CG.out w2 _ _ _ E2.out.hb HR.out).mono ?_;rintro e w3 ⟨A3,n3,c3,A4,n4,c4,rfl,o3,r4,b3⟩;have E3:=Zh (E2.out.later b3);have R4:=Zh (r4.back E2.out.hb hC);obtain⟨sa,hsa,aok⟩:=AOk.own o3;obtain⟨sA,sn,sc⟩:=sa;injection hsa with e1 e2 e3;subst e1;subst e2;subst e3;have E4:=Zh (E3.out.set4 ⟨A3,n3,c3⟩ ats);have A4k:=Zh (aok.but (but2 w3 k2 4 (.slice A3 n3 c3)) E3.out.noA);have t4:=E3.out.t.c4;have tf:=E3.out.t.fr;simp only[WV.sa] at t4;clear o3 r4 b3 aok E2 CG HR;go_upto_region 4 with fail;generalize w3.setCell ⟨k2,4,none⟩ (.slice A3 n3 c3)=w4 at E4 A4k⊢;clear t4 tf E3;have x0:=E4.out.x.c0;simp only at x0;have N4:Hid (WNew kW w4 (fun b=>w.heap.size<b) (.mk 1 tag key zB ⟨A3,n3,c3⟩ ats ⟨none,0,0⟩ [])):=Zh (el_new (D:=w.heap.size+1) E4.out A4k.out (Kind.Own.nil kW _ _) (Nat.lt_succ_self _) (fun t ht=>by cases ht));have HR6:=R4;have t0:=E4.out.t.c0;have t1:=E4.out.t.c1;have t2:=E4.out.t.c2;have t3:=E4.out.t.c3;have t4:=E4.out.t.c4;have t5:=E4.out.t.c5;have z0:=E4.out.z.c0;have z1:=E4.out.z.c1;have z2:=E4.out.z.c2;have z3:=E4.out.z.c3;have z4:=E4.out.z.c4;have z5:=E4.out.z.c5;simp only[WV.kind,WV.tag,WV.key,WV.txt,WV.sa,WV.sk,zWV,zB] at t0 t1 t2 t3 t4 t5 z0 z1 z2 z3 z4 z5;have zf:=E4.out.z.fr;have hzl:w.heap.size<w4.heap.size:=E4.out.z.lt;have hk2:k2≠w.heap.size:=(by have:=E4.out.l1;have:=E4.out.l2;omega);go_wp2_with fail;refine bodyPost_ret (v:=.tuple #[.agg #[.int .i64 1,.string tag,.string key,.string ⟨#[]⟩,.slice A3 n3 c3,.slice none 0 0],.slice A4 n4 c4]) (by simp[results,Tryz.results99,go_sem,z0,z1,z2,z3,z4,z5,hzl]) rfl ⟨.mk 1 tag key zB ⟨A3,n3,c3⟩ ats ⟨none,0,0⟩ [],_,_,_,rfl,by rw[er,erL];rfl,?_,HR6.out,?_⟩
  ·exact(el_fin E4.out.z N4.out E4.out.hb (setOne (setOne (setOne (setOne (setOne (setOne (But.refl _ _)))))))).1
  ·exact(el_fin E4.out.z N4.out E4.out.hb (setOne (setOne (setOne (setOne (setOne (setOne (But.refl _ _)))))))).2
 ·have HR:=Zh (HR2.out hcap1);have hcq:¬c-1=0:=(by omega);clear HR1 HR2;go_enter Tryz.func99,Tryz.ntmps99;go_upto_region 1 with fail;have Z0:Hid (WB (w.alloc (.cells #[.int .i64 0,.string ⟨#[]⟩,.string ⟨#[]⟩,.string ⟨#[]⟩,.slice none 0 0,.slice none 0 0] 69)) w.heap.size zWV):=Zh (WB.new w zWV);have B0:Hid (Below w.heap.size w (w.alloc (.cells #[.int .i64 0,.string ⟨#[]⟩,.string ⟨#[]⟩,.string ⟨#[]⟩,.slice none 0 0,.slice none 0 0] 69))):=Zh (Zb _ _);generalize w.alloc (.cells #[.int .i64 0,.string ⟨#[]⟩,.string ⟨#[]⟩,.string ⟨#[]⟩,.slice none 0 0,.slice none 0 0] 69)=wa at Z0 B0⊢;have g0:=(B0.out.cell (p:=⟨b,o,none⟩) hbw).trans g0';have g1:=(B0.out.cell (p:=⟨b,o+1,none⟩) hbw).trans g1';have g2:=(B0.out.cell (p:=⟨b,o+2,none⟩) hbw).trans g2';go_upto_region 2 with fail;have X1:Hid (XB (wa.alloc (.cells #[.int .i64 3,.string tag,.string key] 76)) wa.heap.size ⟨3,tag,key⟩):=Zh (XB.new wa ⟨3,tag,key⟩);have b1:Below wa.heap.size wa (wa.alloc (.cells #[.int .i64 3,.string tag,.string key] 76)):=Zb _ _;generalize wa.alloc (.cells #[.int .i64 3,.string tag,.string key] 76)=wb at X1 b1⊢;have Z1:=Zh (Z0.out.below b1 Z0.out.lt);have B1:=Zh (B0.out.trans (b1.mono B0.out.size));have l1:w.heap.size<wa.heap.size:=Z0.out.lt;generalize wa.heap.size=k1 at X1 l1⊢;clear b1 g0 g1 g2 Z0 B0;have x1:=X1.out.c1;have x2:=X1.out.c2;simp only at x1 x2;go_upto_region 3 with fail;have E2:Hid (ESt w (wb.alloc (.cells #[.int .i64 1,.string tag,.string key,.string ⟨#[]⟩,.slice none 0 0,.slice none 0 0] 69)) k1 wb.heap.size ⟨3,tag,key⟩ (.mk 1 tag key zB ⟨none,0,0⟩ [] ⟨none,0,0⟩ [])):=Zh (by
   have b2:Below wb.heap.size wb (wb.alloc (.cells #[.int .i64 1,.string tag,.string key,.string ⟨#[]⟩,.slice none 0 0,.slice none 0 0] 69)):=Zb _ _;exact⟨Z1.out.below b2 Z1.out.lt,l1,X1.out.lt,X1.out.below b2 X1.out.lt,WB.new wb (.mk 1 tag key zB ⟨none,0,0⟩ [] ⟨none,0,0⟩ []),B1.out.trans (b2.mono B1.out.size)⟩)
  generalize wb.alloc (.cells #[.int .i64 1,.string tag,.string key,.string ⟨#[]⟩,.slice none 0 0,.slice none 0 0] 69)=w2 at E2⊢;generalize wb.heap.size=k2 at E2⊢;clear X1 Z1 B1 x1 x2;go_wp2_with fail;refine(CG.out w2 _ _ _ E2.out.hb HR.out).mono ?_;rintro e w3 ⟨A3,n3,c3,A4,n4,c4,rfl,o3,r4,b3⟩;have E3:=Zh (E2.out.later b3);have R4:=Zh (r4.back E2.out.hb hC);obtain⟨sa,hsa,aok⟩:=AOk.own o3;obtain⟨sA,sn,sc⟩:=sa;injection hsa with e1 e2 e3;subst e1;subst e2;subst e3;have E4:=Zh (E3.out.set4 ⟨A3,n3,c3⟩ ats);have A4k:=Zh (aok.but (but2 w3 k2 4 (.slice A3 n3 c3)) E3.out.noA);have t4:=E3.out.t.c4;have tf:=E3.out.t.fr;simp only[WV.sa] at t4;clear o3 r4 b3 aok E2 CG HR;go_upto_region 4 with fail;generalize w3.setCell ⟨k2,4,none⟩ (.slice A3 n3 c3)=w4 at E4 A4k⊢;clear t4 tf E3;have x0:=E4.out.x.c0;simp only at x0;have N4:Hid (WNew kW w4 (fun b=>w.heap.size<b) (.mk 1 tag key zB ⟨A3,n3,c3⟩ ats ⟨none,0,0⟩ [])):=Zh (el_new (D:=w.heap.size+1) E4.out A4k.out (Kind.Own.nil kW _ _) (Nat.lt_succ_self _) (fun t ht=>by cases ht));have HR6:=R4;have t0:=E4.out.t.c0;have t1:=E4.out.t.c1;have t2:=E4.out.t.c2;have t3:=E4.out.t.c3;have t4:=E4.out.t.c4;have t5:=E4.out.t.c5;have z0:=E4.out.z.c0;have z1:=E4.out.z.c1;have z2:=E4.out.z.c2;have z3:=E4.out.z.c3;have z4:=E4.out.z.c4;have z5:=E4.out.z.c5;simp only[WV.kind,WV.tag,WV.key,WV.txt,WV.sa,WV.sk,zWV,zB] at t0 t1 t2 t3 t4 t5 z0 z1 z2 z3 z4 z5;have zf:=E4.out.z.fr;have hzl:w.heap.size<w4.heap.size:=E4.out.z.lt;have hk2:k2≠w.heap.size:=(by have:=E4.out.l1;have:=E4.out.l2;omega);go_wp2_with fail;refine bodyPost_ret (v:=.tuple #[.agg #[.int .i64 1,.string tag,.string key,.string ⟨#[]⟩,.slice A3 n3 c3,.slice none 0 0],.slice A4 n4 c4]) (by simp[results,Tryz.results99,go_sem,z0,z1,z2,z3,z4,z5,hzl]) rfl ⟨.mk 1 tag key zB ⟨A3,n3,c3⟩ ats ⟨none,0,0⟩ [],_,_,_,rfl,by rw[er,erL];rfl,?_,HR6.out,?_⟩
  ·exact(el_fin E4.out.z N4.out E4.out.hb (setOne (setOne (setOne (setOne (setOne (setOne (But.refl _ _)))))))).1
  ·exact(el_fin E4.out.z N4.out E4.out.hb (setOne (setOne (setOne (setOne (setOne (setOne (But.refl _ _)))))))).2
attribute [local go_sem ↓] Go.wp_at_zero Go.wp_at_succ
def litP(kind:Int)(txt:ByteArray):WV:=.mk kind ⟨#[]⟩ ⟨#[]⟩ txt ⟨none,0,0⟩ [] ⟨none,0,0⟩ []
theorem litP_new(w:World)(k:Int)(t:ByteArray)(Q:Nat→Prop):WNew kW w Q (litP k t):=WNew.mk (sk:=⟨none,0,0⟩) (AOk.nil_ w) (Kind.Own.nil kW w 0) (fun b hb=>by cases hb) (fun k hk=>by cases hk)
theorem litP_er(k:Int)(t:ByteArray):er (litP k t) = .mk k z0 z0 t [] []:=by rw[litP,er,erL];rfl
theorem keep6{w:World}{g b o:Nat}{u u0 u1 u2 u3 u4 u5:Value}(h:b≠g)(hc:w.cell? ⟨b,o,none⟩=some u):((((((w.setCell ⟨g,0,none⟩ u0).setCell ⟨g,1,none⟩ u1).setCell ⟨g,2,none⟩ u2).setCell ⟨g,3,none⟩ u3).setCell ⟨g,4,none⟩ u4).setCell ⟨g,5,none⟩ u5).cell? ⟨b,o,none⟩=some u:=by
 refine(World.cell?_of_block ?_).trans hc;have k:∀(w:World) (i:Nat) (u:Value),(w.setCell ⟨g,i,none⟩ u).heap[b]? = w.heap[b]?:=fun w i u=>Below.heap_setCell w _ u b h
 rw[k,k,k,k,k,k]
theorem drew_cell(w:World)(a:Addr):w.drew.cell? a=w.cell? a:=rfl
theorem keep6d{w:World}{g b o:Nat}{u u0 u1 u2 u3 u4 u5:Value}(h:b≠g)(hc:w.cell? ⟨b,o,none⟩=some u):((((((w.setCell ⟨g,0,none⟩ u0).setCell ⟨g,1,none⟩ u1).setCell ⟨g,2,none⟩ u2).setCell ⟨g,3,none⟩ u3).setCell ⟨g,4,none⟩ u4).setCell ⟨g,5,none⟩ u5).drew.cell? ⟨b,o,none⟩=some u:=(drew_cell _ _).trans (keep6 h hc)
theorem getSmall_any(op kind:Int)(a b2 txt:ByteArray)(rest:List In)(A:Option Addr)(n c C:Nat)(w:World)(hk:(op=4∧kind=2∧txt=a)∨(op=8∧kind=3∧txt=⟨#[]⟩)∨(op=7∧kind=4∧txt=⟨#[]⟩))(h:Rs w C A n c (⟨op,a,b2⟩:: rest))(hC:C≤w.heap.size):
 Calls Tryz.prog 62 #[.slice A n c] w (GotV w C (.mk kind z0 z0 txt [] []) rest):=by
 obtain⟨b,o,rfl,hb,g0',g1',g2',hl,h0,hR1,hR2⟩:=h.cons;have HR1:=Zh hR1;have HR2:=Zh hR2;have hcap:=h.cap;have hcm:=h.cm;have hbw:b<w.heap.size:=Nat.lt_of_lt_of_le hb hC;have hbn:b≠w.heap.size:=(by omega);have i1:(1:Int)≤(n:Int):=(by omega);have i2:(n:Int)≤(c:Int):=(by omega);have hcm':c≤9223372036854775807:=(by unfold maxLen at hcm;omega);clear h hR1 hR2 hl g2';simp only at g0' g1';rcases hk with⟨rfl,rfl,rfl⟩|⟨rfl,rfl,rfl⟩|⟨rfl,rfl,rfl⟩
 ·by_cases hcap1:c=1
  ·have HR:=Zh (HR1.out hcap1);subst hcap1;obtain rfl:n=1:=by omega
   clear HR1 HR2;go_enter Tryz.func62,Tryz.ntmps62;go_upto_region 1 with fail;have Z0:Hid (WB (w.alloc (.cells #[.int .i64 0,.string ⟨#[]⟩,.string ⟨#[]⟩,.string ⟨#[]⟩,.slice none 0 0,.slice none 0 0] 69)) w.heap.size zWV):=Zh (WB.new w zWV);have B0:Hid (Below w.heap.size w (w.alloc (.cells #[.int .i64 0,.string ⟨#[]⟩,.string ⟨#[]⟩,.string ⟨#[]⟩,.slice none 0 0,.slice none 0 0] 69))):=Zh (Zb _ _);generalize w.alloc (.cells #[.int .i64 0,.string ⟨#[]⟩,.string ⟨#[]⟩,.string ⟨#[]⟩,.slice none 0 0,.slice none 0 0] 69)=wa at Z0 B0⊢;have g0:=(B0.out.cell (p:=⟨b,o,none⟩) hbw).trans g0';have g1:=(B0.out.cell (p:=⟨b,o+1,none⟩) hbw).trans g1';have z0:=Z0.out.c0;have z1:=Z0.out.c1;have z2:=Z0.out.c2;have z3:=Z0.out.c3;have z4:=Z0.out.c4;have z5:=Z0.out.c5;simp only[WV.kind,WV.tag,WV.key,WV.txt,WV.sa,WV.sk,zWV] at z0 z1 z2 z3 z4 z5;have zf:=Z0.out.fr;have hzl:w.heap.size<wa.heap.size:=Z0.out.lt;clear g0' g1';go_upto_region 3 with fail;have KD:((((((wa.setCell ⟨w.heap.size,0,none⟩ (.int .i64 2)).setCell ⟨w.heap.size,1,none⟩ (.string ⟨#[]⟩)).setCell ⟨w.heap.size,2,none⟩ (.string ⟨#[]⟩)).setCell ⟨w.heap.size,3,none⟩ (.string txt)).setCell ⟨w.heap.size,4,none⟩ (.slice none 0 0)).setCell ⟨w.heap.size,5,none⟩ (.slice none 0 0)).drew.cell? ⟨b,o+1,none⟩=some (.string txt):=keep6d hbn g1;go_region_held3 (fun w'=>w'.cell? ⟨b,o+1,none⟩=some (.string txt)) (go_keep) (fail)
   all_goals (go_wp2_with fail)
   all_goals (refine bodyPost_ret (v:=.tuple #[.agg #[.int .i64 2,.string ⟨#[]⟩,.string ⟨#[]⟩,.string txt,.slice none 0 0,.slice none 0 0],.slice (some ⟨b,o,none⟩) (0) (0)]) (by simp[results,Tryz.results62,go_sem,z0,z1,z2,z3,z4,z5,hzl]) rfl ⟨litP 2 txt,_,_,_,rfl,litP_er _ _,litP_new _ _ _ _,HR.out,?_⟩)
   all_goals exact one_end B0.out (But.drew (setOne (setOne (setOne (setOne (setOne (setOne (But.refl _ _))))))))
  ·have HR:=Zh (HR2.out hcap1);have hcq:¬c-1=0:=(by omega);clear HR1 HR2;go_enter Tryz.func62,Tryz.ntmps62;go_upto_region 1 with fail;have Z0:Hid (WB (w.alloc (.cells #[.int .i64 0,.string ⟨#[]⟩,.string ⟨#[]⟩,.string ⟨#[]⟩,.slice none 0 0,.slice none 0 0] 69)) w.heap.size zWV):=Zh (WB.new w zWV);have B0:Hid (Below w.heap.size w (w.alloc (.cells #[.int .i64 0,.string ⟨#[]⟩,.string ⟨#[]⟩,.string ⟨#[]⟩,.slice none 0 0,.slice none 0 0] 69))):=Zh (Zb _ _);generalize w.alloc (.cells #[.int .i64 0,.string ⟨#[]⟩,.string ⟨#[]⟩,.string ⟨#[]⟩,.slice none 0 0,.slice none 0 0] 69)=wa at Z0 B0⊢;have g0:=(B0.out.cell (p:=⟨b,o,none⟩) hbw).trans g0';have g1:=(B0.out.cell (p:=⟨b,o+1,none⟩) hbw).trans g1';have z0:=Z0.out.c0;have z1:=Z0.out.c1;have z2:=Z0.out.c2;have z3:=Z0.out.c3;have z4:=Z0.out.c4;have z5:=Z0.out.c5;simp only[WV.kind,WV.tag,WV.key,WV.txt,WV.sa,WV.sk,zWV] at z0 z1 z2 z3 z4 z5;have zf:=Z0.out.fr;have hzl:w.heap.size<wa.heap.size:=Z0.out.lt;clear g0' g1';go_upto_region 3 with fail;have KD:((((((wa.setCell ⟨w.heap.size,0,none⟩ (.int .i64 2)).setCell ⟨w.heap.size,1,none⟩ (.string ⟨#[]⟩)).setCell ⟨w.heap.size,2,none⟩ (.string ⟨#[]⟩)).setCell ⟨w.heap.size,3,none⟩ (.string txt)).setCell ⟨w.heap.size,4,none⟩ (.slice none 0 0)).setCell ⟨w.heap.size,5,none⟩ (.slice none 0 0)).drew.cell? ⟨b,o+1,none⟩=some (.string txt):=keep6d hbn g1;go_region_held3 (fun w'=>w'.cell? ⟨b,o+1,none⟩=some (.string txt)) (go_keep) (fail)
   all_goals (go_wp2_with fail)
   all_goals (refine bodyPost_ret (v:=.tuple #[.agg #[.int .i64 2,.string ⟨#[]⟩,.string ⟨#[]⟩,.string txt,.slice none 0 0,.slice none 0 0],.slice (some ⟨b,o+3,none⟩) (n-1) (c-1)]) (by simp[results,Tryz.results62,go_sem,z0,z1,z2,z3,z4,z5,hzl]) rfl ⟨litP 2 txt,_,_,_,rfl,litP_er _ _,litP_new _ _ _ _,HR.out,?_⟩)
   all_goals exact one_end B0.out (But.drew (setOne (setOne (setOne (setOne (setOne (setOne (But.refl _ _))))))))
 ·by_cases hcap1:c=1
  ·have HR:=Zh (HR1.out hcap1);subst hcap1;obtain rfl:n=1:=by omega
   clear HR1 HR2;go_enter Tryz.func62,Tryz.ntmps62;go_upto_region 1 with fail;have Z0:Hid (WB (w.alloc (.cells #[.int .i64 0,.string ⟨#[]⟩,.string ⟨#[]⟩,.string ⟨#[]⟩,.slice none 0 0,.slice none 0 0] 69)) w.heap.size zWV):=Zh (WB.new w zWV);have B0:Hid (Below w.heap.size w (w.alloc (.cells #[.int .i64 0,.string ⟨#[]⟩,.string ⟨#[]⟩,.string ⟨#[]⟩,.slice none 0 0,.slice none 0 0] 69))):=Zh (Zb _ _);generalize w.alloc (.cells #[.int .i64 0,.string ⟨#[]⟩,.string ⟨#[]⟩,.string ⟨#[]⟩,.slice none 0 0,.slice none 0 0] 69)=wa at Z0 B0⊢;have g0:=(B0.out.cell (p:=⟨b,o,none⟩) hbw).trans g0';have g1:=(B0.out.cell (p:=⟨b,o+1,none⟩) hbw).trans g1';have z0:=Z0.out.c0;have z1:=Z0.out.c1;have z2:=Z0.out.c2;have z3:=Z0.out.c3;have z4:=Z0.out.c4;have z5:=Z0.out.c5;simp only[WV.kind,WV.tag,WV.key,WV.txt,WV.sa,WV.sk,zWV] at z0 z1 z2 z3 z4 z5;have zf:=Z0.out.fr;have hzl:w.heap.size<wa.heap.size:=Z0.out.lt;clear g0' g1';go_upto_region 5 with fail;go_region_held3 (fun _=>True) (trivial) (fail)
   all_goals (go_wp2_with fail)
   all_goals (refine bodyPost_ret (v:=.tuple #[.agg #[.int .i64 3,.string ⟨#[]⟩,.string ⟨#[]⟩,.string ⟨#[]⟩,.slice none 0 0,.slice none 0 0],.slice (some ⟨b,o,none⟩) (0) (0)]) (by simp[results,Tryz.results62,go_sem,z0,z1,z2,z3,z4,z5,hzl]) rfl ⟨litP 3 ⟨#[]⟩,_,_,_,rfl,litP_er _ _,litP_new _ _ _ _,HR.out,?_⟩)
   all_goals exact one_end B0.out (But.drew (setOne (setOne (setOne (setOne (setOne (setOne (But.refl _ _))))))))
  ·have HR:=Zh (HR2.out hcap1);have hcq:¬c-1=0:=(by omega);clear HR1 HR2;go_enter Tryz.func62,Tryz.ntmps62;go_upto_region 1 with fail;have Z0:Hid (WB (w.alloc (.cells #[.int .i64 0,.string ⟨#[]⟩,.string ⟨#[]⟩,.string ⟨#[]⟩,.slice none 0 0,.slice none 0 0] 69)) w.heap.size zWV):=Zh (WB.new w zWV);have B0:Hid (Below w.heap.size w (w.alloc (.cells #[.int .i64 0,.string ⟨#[]⟩,.string ⟨#[]⟩,.string ⟨#[]⟩,.slice none 0 0,.slice none 0 0] 69))):=Zh (Zb _ _);generalize w.alloc (.cells #[.int .i64 0,.string ⟨#[]⟩,.string ⟨#[]⟩,.string ⟨#[]⟩,.slice none 0 0,.slice none 0 0] 69)=wa at Z0 B0⊢;have g0:=(B0.out.cell (p:=⟨b,o,none⟩) hbw).trans g0';have g1:=(B0.out.cell (p:=⟨b,o+1,none⟩) hbw).trans g1';have z0:=Z0.out.c0;have z1:=Z0.out.c1;have z2:=Z0.out.c2;have z3:=Z0.out.c3;have z4:=Z0.out.c4;have z5:=Z0.out.c5;simp only[WV.kind,WV.tag,WV.key,WV.txt,WV.sa,WV.sk,zWV] at z0 z1 z2 z3 z4 z5;have zf:=Z0.out.fr;have hzl:w.heap.size<wa.heap.size:=Z0.out.lt;clear g0' g1';go_upto_region 5 with fail;go_region_held3 (fun _=>True) (trivial) (fail)
   all_goals (go_wp2_with fail)
   all_goals (refine bodyPost_ret (v:=.tuple #[.agg #[.int .i64 3,.string ⟨#[]⟩,.string ⟨#[]⟩,.string ⟨#[]⟩,.slice none 0 0,.slice none 0 0],.slice (some ⟨b,o+3,none⟩) (n-1) (c-1)]) (by simp[results,Tryz.results62,go_sem,z0,z1,z2,z3,z4,z5,hzl]) rfl ⟨litP 3 ⟨#[]⟩,_,_,_,rfl,litP_er _ _,litP_new _ _ _ _,HR.out,?_⟩)
   all_goals exact one_end B0.out (But.drew (setOne (setOne (setOne (setOne (setOne (setOne (But.refl _ _))))))))
 ·by_cases hcap1:c=1
  ·have HR:=Zh (HR1.out hcap1);subst hcap1;obtain rfl:n=1:=by omega
   clear HR1 HR2;go_enter Tryz.func62,Tryz.ntmps62;go_upto_region 1 with fail;have Z0:Hid (WB (w.alloc (.cells #[.int .i64 0,.string ⟨#[]⟩,.string ⟨#[]⟩,.string ⟨#[]⟩,.slice none 0 0,.slice none 0 0] 69)) w.heap.size zWV):=Zh (WB.new w zWV);have B0:Hid (Below w.heap.size w (w.alloc (.cells #[.int .i64 0,.string ⟨#[]⟩,.string ⟨#[]⟩,.string ⟨#[]⟩,.slice none 0 0,.slice none 0 0] 69))):=Zh (Zb _ _);generalize w.alloc (.cells #[.int .i64 0,.string ⟨#[]⟩,.string ⟨#[]⟩,.string ⟨#[]⟩,.slice none 0 0,.slice none 0 0] 69)=wa at Z0 B0⊢;have g0:=(B0.out.cell (p:=⟨b,o,none⟩) hbw).trans g0';have g1:=(B0.out.cell (p:=⟨b,o+1,none⟩) hbw).trans g1';have z0:=Z0.out.c0;have z1:=Z0.out.c1;have z2:=Z0.out.c2;have z3:=Z0.out.c3;have z4:=Z0.out.c4;have z5:=Z0.out.c5;simp only[WV.kind,WV.tag,WV.key,WV.txt,WV.sa,WV.sk,zWV] at z0 z1 z2 z3 z4 z5;have zf:=Z0.out.fr;have hzl:w.heap.size<wa.heap.size:=Z0.out.lt;clear g0' g1';go_upto_region 7 with fail;go_region_held3 (fun _=>True) (trivial) (fail)
   all_goals (go_wp2_with fail)
   all_goals (refine bodyPost_ret (v:=.tuple #[.agg #[.int .i64 4,.string ⟨#[]⟩,.string ⟨#[]⟩,.string ⟨#[]⟩,.slice none 0 0,.slice none 0 0],.slice (some ⟨b,o,none⟩) (0) (0)]) (by simp[results,Tryz.results62,go_sem,z0,z1,z2,z3,z4,z5,hzl]) rfl ⟨litP 4 ⟨#[]⟩,_,_,_,rfl,litP_er _ _,litP_new _ _ _ _,HR.out,?_⟩)
   all_goals exact one_end B0.out (But.drew (setOne (setOne (setOne (setOne (setOne (setOne (But.refl _ _))))))))
  ·have HR:=Zh (HR2.out hcap1);have hcq:¬c-1=0:=(by omega);clear HR1 HR2;go_enter Tryz.func62,Tryz.ntmps62;go_upto_region 1 with fail;have Z0:Hid (WB (w.alloc (.cells #[.int .i64 0,.string ⟨#[]⟩,.string ⟨#[]⟩,.string ⟨#[]⟩,.slice none 0 0,.slice none 0 0] 69)) w.heap.size zWV):=Zh (WB.new w zWV);have B0:Hid (Below w.heap.size w (w.alloc (.cells #[.int .i64 0,.string ⟨#[]⟩,.string ⟨#[]⟩,.string ⟨#[]⟩,.slice none 0 0,.slice none 0 0] 69))):=Zh (Zb _ _);generalize w.alloc (.cells #[.int .i64 0,.string ⟨#[]⟩,.string ⟨#[]⟩,.string ⟨#[]⟩,.slice none 0 0,.slice none 0 0] 69)=wa at Z0 B0⊢;have g0:=(B0.out.cell (p:=⟨b,o,none⟩) hbw).trans g0';have g1:=(B0.out.cell (p:=⟨b,o+1,none⟩) hbw).trans g1';have z0:=Z0.out.c0;have z1:=Z0.out.c1;have z2:=Z0.out.c2;have z3:=Z0.out.c3;have z4:=Z0.out.c4;have z5:=Z0.out.c5;simp only[WV.kind,WV.tag,WV.key,WV.txt,WV.sa,WV.sk,zWV] at z0 z1 z2 z3 z4 z5;have zf:=Z0.out.fr;have hzl:w.heap.size<wa.heap.size:=Z0.out.lt;clear g0' g1';go_upto_region 7 with fail;go_region_held3 (fun _=>True) (trivial) (fail)
   all_goals (go_wp2_with fail)
   all_goals (refine bodyPost_ret (v:=.tuple #[.agg #[.int .i64 4,.string ⟨#[]⟩,.string ⟨#[]⟩,.string ⟨#[]⟩,.slice none 0 0,.slice none 0 0],.slice (some ⟨b,o+3,none⟩) (n-1) (c-1)]) (by simp[results,Tryz.results62,go_sem,z0,z1,z2,z3,z4,z5,hzl]) rfl ⟨litP 4 ⟨#[]⟩,_,_,_,rfl,litP_er _ _,litP_new _ _ _ _,HR.out,?_⟩)
   all_goals exact one_end B0.out (But.drew (setOne (setOne (setOne (setOne (setOne (setOne (But.refl _ _))))))))
attribute [local go_sem ↓] Go.wp_at_zero Go.wp_at_succ
theorem get_elem(op:Int)(tag key:ByteArray)(r rest:List In)(t:PW)(A:Option Addr)(n c C:Nat)(w:World)(hop:op=1∨op=3)(h:Rs w C A n c (⟨op,tag,key⟩:: r))(hC:C≤w.heap.size)
 (CE:∀wz:World,Below w.heap.size w wz→Calls Tryz.prog 99 #[.slice A n c] wz (GotV wz C t rest)):Calls Tryz.prog 62 #[.slice A n c] w (GotV w C t rest):=by
 obtain⟨b,o,rfl,hb,g0',_,_,hl,h0,_,_⟩:=h.cons;have HCE:=Zh CE;have hbw:b<w.heap.size:=Nat.lt_of_lt_of_le hb hC;have q4:(op==4)=false:=(by rcases hop with rfl|rfl<;>rfl);have q8:(op==8)=false:=(by rcases hop with rfl|rfl<;>rfl);have q7:(op==7)=false:=(by rcases hop with rfl|rfl<;>rfl);simp only at g0';clear h hl CE hop;go_enter Tryz.func62,Tryz.ntmps62;go_upto_region 1 with fail;have Z0:Hid (WB (w.alloc (.cells #[.int .i64 0,.string ⟨#[]⟩,.string ⟨#[]⟩,.string ⟨#[]⟩,.slice none 0 0,.slice none 0 0] 69)) w.heap.size zWV):=Zh (WB.new w zWV);have B0:Hid (Below w.heap.size w (w.alloc (.cells #[.int .i64 0,.string ⟨#[]⟩,.string ⟨#[]⟩,.string ⟨#[]⟩,.slice none 0 0,.slice none 0 0] 69))):=Zh (Zb _ _);generalize w.alloc (.cells #[.int .i64 0,.string ⟨#[]⟩,.string ⟨#[]⟩,.string ⟨#[]⟩,.slice none 0 0,.slice none 0 0] 69)=wa at Z0 B0⊢;have g0:=(B0.out.cell (p:=⟨b,o,none⟩) hbw).trans g0';have CE:=Zh (HCE.out wa B0.out);have hzl:w.heap.size<wa.heap.size:=Z0.out.lt;clear g0' HCE;go_wp2_with fail;refine CE.out.mono ?_;rintro e w2 ⟨tv,A2,n2,c2,rfl,her,new2,r2,b2⟩;have Z2:=Zh (Z0.out.below b2 Z0.out.lt);have B2:=Zh (B0.out.trans (b2.mono B0.out.size));have R2:=Zh (r2.back B0.out hC);have N2:Hid (WNew kW w2 (fun b=>w.heap.size<b) tv):=Zh (new2.mono (fun b _ hb=>by omega));have HER:=Zh her;have z0:=Z2.out.c0;have z1:=Z2.out.c1;have z2:=Z2.out.c2;have z3:=Z2.out.c3;have z4:=Z2.out.c4;have z5:=Z2.out.c5;simp only[WV.kind,WV.tag,WV.key,WV.txt,WV.sa,WV.sk,zWV] at z0 z1 z2 z3 z4 z5;have zf:=Z2.out.fr;have hz2:w.heap.size<w2.heap.size:=Z2.out.lt;clear her new2 r2 b2 g0 CE Z0 hzl;go_wp2_with fail;refine bodyPost_ret (v:=.tuple #[.agg #[.int .i64 tv.kind,.string tv.tag,.string tv.key,.string tv.txt,.slice tv.sa.A tv.sa.n tv.sa.c,.slice tv.sk.A tv.sk.n tv.sk.c],.slice A2 n2 c2]) (by simp[results,Tryz.results62,go_sem,z0,z1,z2,z3,z4,z5,hz2]) rfl ⟨tv,A2,n2,c2,rfl,HER.out,?_,R2.out,?_⟩
 ·exact(el_fin Z2.out N2.out B2.out (setOne (setOne (setOne (setOne (setOne (setOne (But.refl _ _)))))))).1
 ·exact(el_fin Z2.out N2.out B2.out (setOne (setOne (setOne (setOne (setOne (setOne (But.refl _ _)))))))).2
theorem back_tx(t:ByteArray):backW (.mk 2 z0 z0 t [] [])=[⟨4,t,z0⟩]:=by simp[backW]
theorem back_nd:backW (.mk 3 z0 z0 z0 [] [])=[⟨8,z0,z0⟩]:=by simp[backW]
theorem back_al:backW (.mk 4 z0 z0 z0 [] [])=[⟨7,z0,z0⟩]:=by simp[backW]
def GetOneC(t:PW):Prop:=∀(rest:List In) (A:Option Addr) (n c C:Nat) (w:World),HeadT rest→Rs w C A n c (backW t++rest)→C≤w.heap.size→Calls Tryz.prog 62 #[.slice A n c] w (GotV w C t rest)
theorem get_one{t:PW}(hwf:WfW t)(IH:GetC t.kids):GetOneC t:=by
 intro rest A n c C w hT h hC;cases hwf with
 |el hm ha hk=>
  rw[back_open (may_open hm)] at h;simp only[List.cons_append,List.append_assoc,List.nil_append] at h;exact get_elem 1 _ _ _ rest _ A n c C w (.inl rfl) h hC (fun wz hz=>getOpen_any _ _ _ _ rest A n c C wz IH hk (h.below hz hC) (Nat.le_trans hC hz.size))
 |vo hm ha=>
  rw[back_void (may_void hm)] at h;simp only[List.cons_append] at h;exact get_elem 3 _ _ _ rest _ A n c C w (.inr rfl) h hC (fun wz hz=>getVoid_any _ _ _ rest A n c C wz hT (h.below hz hC) (Nat.le_trans hC hz.size))
 |tx hm=>
  rw[back_tx] at h;exact getSmall_any 4 2 _ _ _ rest A n c C w (.inl ⟨rfl,rfl,rfl⟩) h hC
 |nd=>
  rw[back_nd] at h;exact getSmall_any 8 3 _ _ _ rest A n c C w (.inr (.inl ⟨rfl,rfl,rfl⟩)) h hC
 |al=>
  rw[back_al] at h;exact getSmall_any 7 4 _ _ _ rest A n c C w (.inr (.inr ⟨rfl,rfl,rfl⟩)) h hC
theorem backW_op{t:PW}(h:WfW t):∃x r,backW t=x:: r∧x.op≠2:=by
 cases h with
 |el hm=>exact⟨_,_,back_open (may_open hm),show(1:Int)≠2 by decide⟩
 |vo hm=>exact⟨_,_,back_void (may_void hm),show(3:Int)≠2 by decide⟩
 |tx=>exact⟨_,_,back_tx _,show(4:Int)≠2 by decide⟩
 |nd=>exact⟨_,_,back_nd,show(8:Int)≠2 by decide⟩
 |al=>exact⟨_,_,back_al,show(7:Int)≠2 by decide⟩
theorem Stop.head{l:List In}(h:Stop l):HeadT l:=fun x hx=>by rw[h x hx];rfl
def GaR(w:World)(C:Nat)(ps:List PW)(rest:List In)(s0 s4:Value)(wr:World):Prop:=∃(dn td:List PW) (A:Option Addr) (n c:Nat) (A':Option Addr) (n' c':Nat) (us:List WV),s0 = .slice A n c∧s4 = .slice A' n' c'∧Hid (dn++td=ps)∧Hid (erL us=dn)∧Hid (Rs w C A n c (backL td++rest))∧Hid (kW.Own wr w.heap.size (.slice A' n' c') us)∧Hid (∀t∈us,WNew kW wr (fun b=>w.heap.size≤b∧(Value.slice A' n' c').ownBlock≠some b) t)∧Hid (us.length+n≤1000)∧Hid (Below w.heap.size w wr)
theorem getAll_of(ps:List PW)(IH:∀t∈ps,GetC t.kids):GetC ps:=by
 intro rest A n c C w hwf hst h hC;have ST:Hid (GaR w C ps rest (.slice A n c) (.slice none 0 0) w):=Zh ⟨[],ps,A,n,c,none,0,0,[],rfl,rfl,Zh rfl,Zh rfl,Zh h,Zh (Kind.Own.nil kW w _),Zh (fun t ht=>by cases ht),Zh (by have:=h.n1;simp;omega),Zh Ze⟩;have HS:=Zh hst;have HWF:=Zh hwf;have HI:=Zh IH;clear h hst hwf IH;go_enter Tryz.func25,Tryz.ntmps25;go_wp2_with fail;go_loopw [0,4] (fun s0 s4 wr=>GaR w C ps rest s0 s4 wr) (fun s0 _ _=>match s0 with| .slice _ n _=>n|_=>0)
 case atStart=>exact ST.out
 case round=>
  obtain⟨dn,td,A,n,c,A',n',c',us,rfl,rfl,HA,HU,HL,HO,HNW,HN,HB⟩:=hrel;clear ST;have hbr:w.heap.size≤wr.heap.size:=HB.out.size;have hbr2:C≤wr.heap.size:=Nat.le_trans hC hbr;have hn1:=HL.out.n1;cases td with
  |nil=>
   have HE:Hid (dn=ps):=Zh (by have:=HA.out;simpa using this);have HL2:Hid (Rs w C A n c rest):=Zh HL.out;clear HL HA;cases rest with
   |nil=>
    obtain rfl:n=0:=by have:=HL2.out.len;simpa using this.symm
    go_wp2_with fail;go_ret2;exact⟨A',n',c',us,A,0,c,rfl,by rw[HU.out,HE.out],HO.out,HNW.out,HL2.out,HB.out⟩
   |cons y r=>
    obtain⟨b,o,rfl,hb,g0,_,_,hl,h0,_,_⟩:=(HL2.out.below HB.out hC).cons;have hy:y.op=2:=HS.out y rfl;rw[hy] at g0;clear hl hy;go_wp2_with fail;go_ret2;exact⟨A',n',c',us,_,n,c,rfl,by rw[HU.out,HE.out],HO.out,HNW.out,HL2.out,HB.out⟩
  |cons t td=>
   have hmem:t∈ps:=(by rw[←HA.out];simp);have hwt:=HWF.out t hmem;have HA2:Hid ((dn++[t])++td=ps):=Zh (by rw[←HA.out];simp);have hT:HeadT (backL td++rest):=backL_head (fun k hk=>HWF.out k (by rw[←HA.out];simp[hk])) HS.out.head;have hL:Rs wr C A n c (backW t++(backL td++rest)):=(by have:=HL.out.below HB.out hC;rw[backL,List.append_assoc] at this;exact this);have CG:Hid (Calls Tryz.prog 62 #[.slice A n c] wr (GotV wr C t (backL td++rest))):=Zh (get_one hwt (HI.out t hmem) (backL td++rest) A n c C wr hT hL hbr2);have HLT:Hid ((backL td++rest).length<n):=Zh (by
    have h1:=hL.len;have h2:=backW_pos hwt;rw[List.length_append] at h1;omega)
   obtain⟨x,r,hx,hxo⟩:=backW_op hwt;rw[hx] at hL;obtain⟨b,o,rfl,hb,g0,_,_,hl,h0,_,_⟩:=hL.cons;have q1:(x.op != 2)=true:=(by simp[hxo]);have q2:(x.op==2)=false:=(by simp[hxo]);have i0:(0:Int)<(n:Int):=(by omega);have hul:us.length+n≤1000:=HN.out;clear hL hx hxo hl hT hwt hmem HA HN HL;generalize x.op=xo at g0 q1 q2;go_wp2_with fail;refine CG.out.mono ?_;rintro e w5 ⟨tv,A2,n2,c2,rfl,her,new5,r5,b5⟩;have b6:Below wr.heap.size wr (w5.alloc (.cells #[.int .i64 tv.kind,.string tv.tag,.string tv.key,.string tv.txt,.slice tv.sa.A tv.sa.n tv.sa.c,.slice tv.sk.A tv.sk.n tv.sk.c] 69)):=b5.alloc b5.size _;have bb:Below w5.heap.size w5 (w5.alloc (.cells #[.int .i64 tv.kind,.string tv.tag,.string tv.key,.string tv.txt,.slice tv.sa.A tv.sa.n tv.sa.c,.slice tv.sk.A tv.sk.n tv.sk.c] 69)):=Zb _ _;have K6:Hid (WB (w5.alloc (.cells #[.int .i64 tv.kind,.string tv.tag,.string tv.key,.string tv.txt,.slice tv.sa.A tv.sa.n tv.sa.c,.slice tv.sk.A tv.sk.n tv.sk.c] 69)) w5.heap.size tv):=Zh (WB.new w5 tv);have T6:Hid (WNew kW (w5.alloc (.cells #[.int .i64 tv.kind,.string tv.tag,.string tv.key,.string tv.txt,.slice tv.sa.A tv.sa.n tv.sa.c,.slice tv.sk.A tv.sk.n tv.sk.c] 69)) (fun b=>w.heap.size≤b∧(Value.slice A' n' c').ownBlock≠some b) tv):=Zh ((new5.later bb).mono fun b _ hb=>⟨by omega,fun e=>by have:=(HO.out.lt e).2;omega⟩);have HER:=Zh her;have B6:=Zh (HB.out.trans (b6.mono hbr));have O6:Hid (kW.Own (w5.alloc (.cells #[.int .i64 tv.kind,.string tv.tag,.string tv.key,.string tv.txt,.slice tv.sa.A tv.sa.n tv.sa.c,.slice tv.sk.A tv.sk.n tv.sk.c] 69)) w.heap.size (.slice A' n' c') us):=Zh (HO.out.below b6 (Zl));have N6:Hid (∀t∈us,WNew kW (w5.alloc (.cells #[.int .i64 tv.kind,.string tv.tag,.string tv.key,.string tv.txt,.slice tv.sa.A tv.sa.n tv.sa.c,.slice tv.sk.A tv.sk.n tv.sk.c] 69)) (fun b=>w.heap.size≤b∧(Value.slice A' n' c').ownBlock≠some b) t):=Zh (fun t ht=>(HNW.out t ht).later b6);have R5:=Zh (r5.back HB.out hC);have HN2:Hid (n2<n):=Zh (by have:=R5.out.len;have:=HLT.out;omega);clear her new5 r5 b5 b6 bb g0 q1 q2 CG HO HNW HLT;go_upto_region 4 with fail;generalize w5.alloc (.cells #[.int .i64 tv.kind,.string tv.tag,.string tv.key,.string tv.txt,.slice tv.sa.A tv.sa.n tv.sa.c,.slice tv.sk.A tv.sk.n tv.sk.c] 69)=w6 at K6 T6 B6 O6 N6⊢;generalize w5.heap.size=g6 at K6⊢;have a0:=K6.out.c0;have a1:=K6.out.c1;have a2:=K6.out.c2;have a3:=K6.out.c3;have a4:=K6.out.c4;have a5:=K6.out.c5;have hb6:w.heap.size≤w6.heap.size:=B6.out.size;go_wp2_with (at_builtin;refine kW.wp_app rfl _ _ rfl (v:=.slice A' n' c') (l:=us) (m:=[tv]) (B:=w.heap.size) (A:=some ⟨w6.heap.size,0,none⟩) (n:=1) (c:=1) rfl (O6.out.alloc _) rfl rfl (fun e=>by cases e) (Kind.Holds.lit (heap_alloc_new _ _) rfl) (by omega) (by simp;omega) ?_;intro v7 w7 hown7 hgrow7 hat7;obtain⟨A7,n7,c7,rfl,_,_,_,_,_⟩:=hown7.slice;have GB:=wants_grew (K:=kW) (by decide) (Q:=fun b=>w.heap.size≤b) (k:=tv) O6.out N6.out T6.out hgrow7 hat7;have O7:=Zh hown7;have G7:=Zh GB.1;have B7:Hid (Below w.heap.size w w7):=Zh ((B6.out.alloc hb6 _).grown hgrow7 (by simp;omega) (fun i hi=>(O6.out.lt hi).1));clear hown7 hgrow7 hat7 GB a0 a1 a2 a3 a4 a5);go_roundw
   case rel=>exact⟨dn++[t],td,A2,n2,c2,A7,n7,c7,us++[tv],rfl,rfl,HA2,Zh (by rw[erL_append,HU.out,←HER.out];simp[erL]),R5,O7,G7,Zh (by have:=HN2.out;simp;omega),B7⟩
   case measure=>exact HN2.out
theorem getAll_kids:∀t:PW,GetC t.kids:=by
 intro t
 induction t using PW.ind with
 |h kind tag key txt attrs kids ih=>exact getAll_of kids ih
theorem getAll_any(ps:List PW):GetC ps:=getAll_of ps (fun t _=>getAll_kids t)
end P14
namespace P13
open Go.RowKit Kd P4
theorem infoStr:(Tryz.prog.info? 9).map (fun i=>(i.zero,i.size,i.bytes))=some (some (.string ⟨#[]⟩),1,16):=by kernel_rfl
def kStr:Kind Tryz.prog ByteArray where
 t:=127
 e:=9
 size:=1
 bytes:=16
 z:=.string ⟨#[]⟩
 cs:=fun s=>[.string s]
 ht:=Tryz.underlying127
 info:=info_ex infoStr
 hzs:=rfl
 hpos:=by decide
 hbb:=by decide
 len:=fun _=>rfl
 one:=fun a u hu=>by simp at hu;subst hu;rfl
theorem cell_str{w:World}{B:Nat}{A:Option Addr}{l:List ByteArray}(h:kStr.Holds w B A l){k:Nat}(hk:k<l.length):∃b o,A=some ⟨b,o,none⟩∧b<B∧w.cell? ⟨b,o+k,none⟩=some (.string l[k]):=by
 obtain⟨b,o,hA,hb,hc⟩:=h.at hk;refine⟨b,o,hA,hb,?_⟩;have:=hc 0 _ rfl;rw[show k*kStr.size+0=k from Nat.mul_one k] at this;exact this
theorem toList_inj{s t:ByteArray}(h:s.toList=t.toList):s=t:=by
 rw[ByteArray.toList_eq,ByteArray.toList_eq] at h;cases s;cases t;simp only[Array.toList_inj] at h;subst h;rfl
theorem str_ne{s t:ByteArray}(h:s≠t):(s.toList==t.toList)=false:=beq_eq_false_iff_ne.2 (fun e=>h (toList_inj e))
theorem str_eq{s t:ByteArray}(h:s=t):(s.toList==t.toList)=true:=by subst h;exact beq_self_eq_true _
theorem sindex_yes(l:List ByteArray)(t:ByteArray)(A:Option Addr)(n c:Nat)(w:World)(hn:l.length=n)(hn2:n≤1000000)(ht:t∈l)(H:kStr.Holds w w.heap.size A l):
 Calls Tryz.prog 152 #[.slice A n c,.string t] w fun e w'=>(∃k:Nat,e = .returned (.int .i64 k))∧w=w':=by
 have HH:=Zh H;have HN:=Zh hn;have HT:=Zh ht;clear H hn ht;go_enter Tryz.func152,Tryz.ntmps152;go_wp2_with fail;go_loop [8] (fun i=>∃k:Nat,k≤n∧i = .int .i64 k∧Hid (∀j (h:j<l.length),j<k→l[j]≠t)) (fun i=>n-(intOf i).toNat)
 case atStart=>exact⟨0,by omega,rfl,Zh (fun j _ h=>by omega)⟩
 case round=>
  obtain⟨k,hk,rfl,HJ⟩:=hrel;by_cases hlt:k<n
  ·have hkl:k<l.length:=(by have:=HN.out;omega);obtain⟨b,o,rfl,hb,hc⟩:=cell_str HH.out hkl;by_cases he:t=l[k]
   ·have hq:(t.toList==l[k].toList)=true:=str_eq he;clear he;go_wp2;go_ret;exact⟨⟨k,rfl⟩,rfl⟩
   ·have hq:(t.toList==l[k].toList)=false:=str_ne he;have HE:=Zh he;clear he;go_wp2;go_round
    case rel=>
     refine⟨k+1,by omega,by go_num,Zh (fun j hj hjk=>?_)⟩;by_cases e:j=k
     ·subst e;exact fun e2=>HE.out e2.symm
     ·exact HJ.out j hj (by omega)
    case measure=>simp[intOf];omega
  ·exfalso;obtain⟨j,hj,e⟩:=List.mem_iff_getElem.1 HT.out;exact HJ.out j hj (by have:=HN.out;omega) e
theorem sindex_no(l:List ByteArray)(t:ByteArray)(A:Option Addr)(n c:Nat)(w:World)(hn:l.length=n)(hn2:n≤1000000)(ht:t∉l)(H:kStr.Holds w w.heap.size A l):
 Calls Tryz.prog 152 #[.slice A n c,.string t] w fun e w'=>e = .returned (.int .i64 (-1))∧w=w':=by
 have HH:=Zh H;have HN:=Zh hn;have HT:=Zh ht;clear H hn ht;go_enter Tryz.func152,Tryz.ntmps152;go_wp2_with fail;go_loop [8] (fun i=>∃k:Nat,k≤n∧i = .int .i64 k) (fun i=>n-(intOf i).toNat)
 case atStart=>exact⟨0,by omega,rfl⟩
 case round=>
  obtain⟨k,hk,rfl⟩:=hrel;by_cases hlt:k<n
  ·have hkl:k<l.length:=(by have:=HN.out;omega);obtain⟨b,o,rfl,hb,hc⟩:=cell_str HH.out hkl;have hq:(t.toList==l[k].toList)=false:=str_ne (fun e=>HT.out (e▸List.getElem_mem hkl));go_wp2;go_round
   case rel=>exact⟨k+1,by omega,by go_num⟩
   case measure=>simp[intOf];omega
  ·go_wp2;go_ret;exact⟨rfl,rfl⟩
theorem scontains_any(l:List ByteArray)(t:ByteArray)(A:Option Addr)(n c:Nat)(w:World){r:Bool}(hr:r=true↔t∈l)(hn:l.length=n)(hn2:n≤1000000)(H:kStr.Holds w w.heap.size A l):
 Calls Tryz.prog 124 #[.slice A n c,.string t] w fun e w'=>e = .returned (.bool r)∧w=w':=by
 have HH:=Zh H;have HN:=Zh hn;clear H hn;by_cases ht:t∈l
 ·have HT:=Zh ht;obtain rfl:r=true:=hr.2 ht;clear ht hr;go_enter Tryz.func124,Tryz.ntmps124;go_wp2_with fail;refine(sindex_yes l t A n c w HN.out hn2 HT.out HH.out).mono ?_;rintro e w' ⟨⟨k,rfl⟩,rfl⟩;have hk:(0:Int)≤(k:Int):=(by omega);go_wp2_with fail;go_ret;exact⟨rfl,rfl⟩
 ·have HT:=Zh ht;obtain rfl:r=false:=by cases r with|true=>exact absurd (hr.1 rfl) ht|false=>rfl
  clear ht hr;go_enter Tryz.func124,Tryz.ntmps124;go_wp2_with fail;refine(sindex_no l t A n c w HN.out hn2 HT.out HH.out).mono ?_;rintro e w' ⟨rfl,rfl⟩;go_wp2_with fail;go_ret;exact⟨rfl,rfl⟩
end P13
namespace Mv
open Go.RowKit Kd Go.ChangeMaps Go.MapKept
open Go.Maps (Keyed)
section
variable{P:Program}{w w':World}{k:TypeId}{b n s:Nat}{f:Lit→Option Value}
def RV(v:Value):Option (DataW Value×List MemPlace):=some (.held v,[])
def ofD:DataW Value→Value
 | .held v=>v
 |_=>undef
def viewD(D:DataW Value)(x:Lit):Option Value:=if Maps.has D x then some (ofD (D.atKey x .nil)) else none
theorem has_view(D:DataW Value)(x:Lit):Maps.has D x=(viewD D x).isSome:=by unfold viewD;cases Maps.has D x<;>rfl
def MapIs(P:Program)(k:TypeId)(w:World)(b n s:Nat)(f:Lit→Option Value):Prop:=∃D:DataW Value,w.ownsMap P k RV b n D∧Maps.size D=s∧∀x,f x=viewD D x
theorem MapIs.made(P:Program)(k:TypeId)(w:World):MapIs P k (w.alloc (.map #[] 0)) w.heap.size 0 0 (fun _=>none):=⟨.map [],World.ownsMap_made w P k RV,rfl,fun _=>rfl⟩
theorem MapIs.lt(h:MapIs P k w b n s f):b<w.heap.size:=by obtain⟨D,h,_⟩:=h;exact h.lt
theorem MapIs.blk(h:MapIs P k w b n s f):∃es clock,w.heap[b]? = some (.map es clock):=by obtain⟨D,⟨es,cl,hb,_⟩,_⟩:=h;exact⟨es,cl,hb⟩
theorem MapIs.kept(h:MapIs P k w b n s f)(hb:w'.heap[b]? = w.heap[b]?):MapIs P k w' b n s f:=by
 obtain⟨D,⟨es,cl,h1,h2⟩,h3⟩:=h;exact⟨D,⟨es,cl,hb.trans h1,h2⟩,h3⟩
theorem MapIs.below{C:Nat}(h:MapIs P k w b n s f)(hb:Below C w w')(hC:b<C):MapIs P k w' b n s f:=h.kept (hb.block b hC)
theorem MapIs.alloc(h:MapIs P k w b n s f)(o:Obj):MapIs P k (w.alloc o) b n s f:=h.kept (Below.heap_alloc w o b h.lt)
theorem MapIs.mono(h:MapIs P k w b n s f){m:Nat}(hm:n≤m):MapIs P k w b m s f:=by
 obtain⟨D,h1,h2⟩:=h;exact⟨D,h1.mono hm,h2⟩
theorem viewD_of{D:DataW Value}(h:w.ownsMap P k RV b n D)(K:Keyed P k){t e:TypeId}(ht:P.underlying t=some (.map k e)){z:Value}(hz:(zeroValue e).run P w = .ok z w){key:Value}{x:Lit}(hkey:keyOf P k key=some x)(c:Bool):
 (Instr.lookup t (.map (some b)) key c).run P w = .ok (if c then .tuple #[(viewD D x).getD z,.bool (viewD D x).isSome] else(viewD D x).getD z) w:=by
 obtain⟨es,clock,hb,F,_,rfl⟩:=h;rcases Maps.fit_look c K ht hz hb F hkey with⟨hrun,_,hat⟩|⟨e0,y,_,_,hrun,hRv,hat,_⟩
 ·have hv:viewD (DataW.map ((es.toList.map (WideElems.rg P k RV)).foldr DataW.insert [])) x=none:=by
   unfold viewD;rw[Maps.has_false_of_atKey hat];rfl
  rw[hv];rw[hrun];cases c<;>rfl
 ·have hy:y=(.held e0.val,[]):=by
   have:RV e0.val=some y:=hRv;exact(Option.some.inj this).symm
  have hv:viewD (DataW.map ((es.toList.map (WideElems.rg P k RV)).foldr DataW.insert [])) x=some e0.val:=by
   unfold viewD;rw[Maps.has_true_of_atKey hat,hat .nil,hy];rfl
  rw[hv];rw[hrun];cases c<;>rfl
theorem MapIs.look_ok(h:MapIs P k w b n s f)(K:Keyed P k){t e:TypeId}(ht:P.underlying t=some (.map k e)){z:Value}(hz:(zeroValue e).run P w = .ok z w){key:Value}{x:Lit}(hkey:keyOf P k key=some x):
 (Instr.lookup t (.map (some b)) key true).run P w = .ok (.tuple #[(f x).getD z,.bool (f x).isSome]) w:=by
 obtain⟨D,h1,_,h3⟩:=h;rw[h3 x];exact viewD_of h1 K ht hz hkey true
theorem view_put{D:DataW Value}(hD:Maps.IsMap D){x:Lit}(hx:WideAt.IsKeyLit x)(v:Value):viewD (D.put x (.held v)) x=some v∧∀y,y≠x→viewD (D.put x (.held v)) y=viewD D y:=by
 refine⟨?_,fun y e=>?_⟩
 ·unfold viewD;rw[Maps.has_put_same hD hx,Maps.atKey_put_same hD hx];rfl
 ·unfold viewD;rw[Maps.has_put_other e,Maps.atKey_put_other e]
def PutF(f f':Lit→Option Value)(x:Lit)(v:Option Value):Prop:=f' x=v∧∀y,y≠x→f' y=f y
theorem MapIs.store(h:MapIs P k w b n s f)(K:Keyed P k){t e:TypeId}(ht:P.underlying t=some (.map k e))(hn:n<maxLen){key val:Value}{x:Lit}(hkey:keyOf P k key=some x){f':Lit→Option Value}(hf:PutF f f' x (some val)):
 ∃w',(Instr.mapUpdate t (.map (some b)) key val).run P w = .ok () w'∧MapIs P k w' b (n+1) (if(f x).isSome then s else s+1) f'∧w.grownBy w' (some b):=by
 obtain⟨D,h1,h2,h3⟩:=h;obtain⟨w',hr,hD,hg⟩:=h1.update K ht hn hkey (val:=val) (d:=.held val) (ps:=[]) rfl;refine⟨w',hr,⟨_,hD,?_,fun y=>?_⟩,hg⟩
 ·rw[Maps.size_put (h1.tidy K),has_view,←h3 x,h2]
 ·by_cases e:y=x
  ·subst e;rw[(view_put h1.isMap (K.key hkey) val).1,hf.1]
  ·rw[(view_put h1.isMap (K.key hkey) val).2 y e,hf.2 y e,h3 y]
end
section
variable{P:Program}{ops:Array Oper}{rest:List Oper}{o:Oper}{a:Act}{Q:Exit→Act→World→Prop}{w:World}{k:TypeId}{b n s:Nat}{f:Lit→Option Value}
theorem wp_look_ok(hg:o.guard=none)(m x:Operand){t e:TypeId}(hop:o.op=Op.lookup t m x true)(K:Keyed P k)(ht:P.underlying t=some (.map k e)){z:Value}(hz:(zeroValue e).run P w = .ok z w)
 (hm:a.eval m = .map (some b)) (h:MapIs P k w b n s f) {key:Value} {l:Lit} (hx:a.eval x=key) (hkey:keyOf P k key=some l)
 (hK:wpList P ops Q rest (a.put o.dst (.tuple #[(f l).getD z,.bool (f l).isSome])) w):wpList P ops Q (o:: rest) a w:=by
 refine wpList_plain hg fun K' hK'=>?_
 unfold Oper.wp;simp[execOp,hop,hm,hx,h.look_ok K ht hz hkey,Result.andThen];exact hK' _ _ hK
end
theorem map_ne{w:World}{b g:Nat}{es:Array MapEntry}{clock:Nat}{cur:Array Value}{t:TypeId}{fr:Nat×Nat}(h:w.heap[b]? = some (.map es clock))(h':w.heap[g]? = some (.cells cur t fr)):b≠g:=by
 rintro rfl;rw[h] at h';injection h' with h';cases h'
end Mv
namespace P13
open Go.RowKit Kd P4 P11 P12 Mv
structure Pl where
 m:Nat
 sk:Bool
theorem infoPl:(Tryz.prog.info? 124).map (fun i=>(i.zero,i.size,i.bytes))=some (some (.agg #[.map none,.bool false]),2,16):=by kernel_rfl
def kPl:Kind Tryz.prog Pl where
 t:=126
 e:=124
 size:=2
 bytes:=16
 z:=.agg #[.map none,.bool false]
 cs:=fun a=>[.map (some a.m),.bool a.sk]
 ht:=Tryz.underlying126
 info:=info_ex infoPl
 hzs:=rfl
 hpos:=by decide
 hbb:=by decide
 len:=fun _=>rfl
 one:=fun a u hu=>by simp at hu;rcases hu with rfl|rfl<;>rfl
theorem lawS:Go.Maps.Keyed Tryz.prog 9:=Go.Maps.string_keyed Tryz.underlying9
theorem zeroU(w:World):(zeroValue 158).run Tryz.prog w = .ok (.agg #[]) w:=by kernel_rfl
def skB(L:List In):Bool:=L.any (fun y=>decide (y.op=7))
def hasK(L:List In)(s:List UInt8):Bool:=!s.isEmpty&&L.any (fun y=>makesO y.op&&(y.b.toList==s))
def keysF(L:List In):Lit→Option Value
 | .string s=>if hasK L s then some (.agg #[]) else none
 |_=>none
theorem keysF_nil:keysF []=fun _=>none:=by
 funext x;cases x<;>simp[keysF,hasK]
def keyedB(x:In):Bool:=makesO x.op && !x.b.toList.isEmpty
theorem hasK_snoc(L:List In)(x:In)(s:List UInt8):hasK (L++[x]) s=(hasK L s || (keyedB x&&(x.b.toList==s))):=by
 unfold hasK keyedB;rw[List.any_append,List.any_cons,List.any_nil,Bool.or_false];by_cases h:x.b.toList=s
 ·subst h;cases x.b.toList.isEmpty<;>cases makesO x.op<;>simp
 ·have h':(x.b.toList==s)=false:=beq_eq_false_iff_ne.2 h;rw[h'];simp
theorem keysF_not{L:List In}{x:In}(h:keyedB x=false):keysF (L++[x])=keysF L:=by
 funext y;cases y<;>simp[keysF,hasK_snoc,h]
theorem keysF_put{L:List In}{x:In}(h:keyedB x=true):PutF (keysF L) (keysF (L++[x])) (.string x.b.toList) (some (.agg #[])):=by
 constructor
 ·simp[keysF,hasK_snoc,h]
 ·intro y hy;cases y with
  |string s=>
   have hs:(x.b.toList==s)=false:=beq_eq_false_iff_ne.2 (fun e=>hy (by rw[e]));simp[keysF,hasK_snoc,hs]
  |_=>rfl
def FrIs(w:World)(B p k:Nat)(P:List (List In))(nm:Option (List (List UInt8))):Prop:=
 ∃(g c d:Nat) (ps:List Pl) (A:Option Addr) (n c':Nat) (td:List ByteArray),B≤p∧P.length=d+1∧d≤8∧w.heap[p]? = some (.cells #[.slice (some ⟨g,0,none⟩) (d+1) c,.bool nm.isSome,.slice A n c'] 129 (0,0))∧
  kPl.Own w B (.slice (some ⟨g,0,none⟩) (d+1) c) ps∧kStr.Own w B (.slice A n c') td∧ps.length=d+1∧(ps.map Pl.m).Nodup∧
  (∀i (h:i<ps.length) (h2:i<P.length),B≤ps[i].m∧ps[i].sk=skB P[i]∧∃s,MapIs Tryz.prog 9 w ps[i].m k s (keysF P[i]))∧td.map (·.toList)=nm.getD []∧td.length=n∧n≤k
theorem wp_look_unit{P:Program}{ops:Array Oper}{rest:List Oper}{o:Oper}{a:Act}{Q:Exit→Act→World→Prop}{w:World}{k:TypeId}{b n s:Nat}{f:Lit→Option Value}(hg:o.guard=none)(m x:Operand){t e:TypeId}(hop:o.op=Op.lookup t m x true)(K:Go.Maps.Keyed P k)(ht:P.underlying t=some (.map k e))(hz:(zeroValue e).run P w = .ok (.agg #[]) w)
 (hm:a.eval m = .map (some b)) (h:MapIs P k w b n s f) {key:Value} {l:Lit} (hx:a.eval x=key) (hkey:keyOf P k key=some l) {r:Bool} (hr:f l=if r then some (.agg #[]) else none)
 (hK:wpList P ops Q rest (a.put o.dst (.tuple #[.agg #[],.bool r])) w):wpList P ops Q (o:: rest) a w:=by
 refine wp_look_ok hg m x hop K ht hz hm h hx hkey ?_;rw[hr];cases r<;>exact hK
theorem depth_any(p d c:Nat)(A:Option Addr)(w:World)(h0:w.cell? ⟨p,0,none⟩=some (.slice A (d+1) c))(hd:d≤1000):
 Calls Tryz.prog 61 #[.pointer (some ⟨p,0,none⟩)] w fun e w'=>e = .returned (.int .i64 d)∧w=w':=by
 have hw:IntKind.i64.wrap ((d:Int)+1-1)=d:=by
  simp[IntKind.wrap,IntKind.bits,IntKind.signed];omega
 go_enter Tryz.func61,Tryz.ntmps61;go_wp2_with fail;go_ret;exact⟨by first|rfl|simp,rfl⟩
theorem here_any(p g d c:Nat)(w:World)(h0:w.cell? ⟨p,0,none⟩=some (.slice (some ⟨g,0,none⟩) (d+1) c))(hd:d≤1000):
 Calls Tryz.prog 95 #[.pointer (some ⟨p,0,none⟩)] w fun e w'=>e = .returned (.pointer (some ⟨g,d*2,none⟩))∧∃j,w'=w.drewN j:=by
 have HD:Hid (∀w9:World,w9.cell? ⟨p,0,none⟩=some (.slice (some ⟨g,0,none⟩) (d+1) c)→_):=Zh (fun w9 h9=>depth_any p d c (some ⟨g,0,none⟩) w9 h9 hd);have i0:(0:Int)≤(d:Int):=(by omega);have i1:(d:Int)<(d:Int)+1:=(by omega);go_enter Tryz.func95,Tryz.ntmps95;go_upto_region 1 with fail;go_region_held3 (fun w'=>w'.cell? ⟨p,0,none⟩=some (.slice (some ⟨g,0,none⟩) (d+1) c)) (go_keep) ((first
  |(go_at_call 61;refine(HD.out _ (by first|assumption|go_keep)).mono ?_;rintro e w' ⟨rfl,rfl⟩)
  |fail))
 go_wp2_with fail;go_ret;exact⟨by first|rfl|simp,1,rfl⟩
theorem begins_any(op:Int)(w:World):Calls Tryz.prog 98 #[.int .i64 op] w fun e w'=>e = .returned (.bool (makesO op))∧w=w':=by
 by_cases h1:op=1
 ·subst h1;go_enter Tryz.func98,Tryz.ntmps98;go_wp2_with fail;go_ret;exact⟨rfl,rfl⟩
 by_cases h3:op=3
 ·subst h3;go_enter Tryz.func98,Tryz.ntmps98;go_wp2_with fail;go_ret;exact⟨rfl,rfl⟩
 have e:makesO op=false:=(by simp[makesO,h1,h3]);rw[e];have q1:=int_ne h1;have q3:=int_ne h3;go_enter Tryz.func98,Tryz.ntmps98;go_wp2_with fail;go_ret;exact⟨rfl,rfl⟩
theorem keyed_any(op:Int)(a b:ByteArray)(w:World):Calls Tryz.prog 96 #[.agg #[.int .i64 op,.string a,.string b]] w fun e w'=>e = .returned (.bool (keyedB ⟨op,a,b⟩))∧Below w.heap.size w w':=by
 have B1:Hid (Below w.heap.size w (w.alloc (.cells #[.int .i64 op,.string a,.string b] 76))):=Zh (Zb _ _);have N1:Hid (XB (w.alloc (.cells #[.int .i64 op,.string a,.string b] 76)) w.heap.size ⟨op,a,b⟩):=Zh (XB.new w ⟨op,a,b⟩);obtain⟨r,hr⟩:∃r,makesO op=r:=⟨_,rfl⟩;have HB:Hid (∀w9,Calls Tryz.prog 98 #[.int .i64 op] w9 fun e w'=>e = .returned (.bool r)∧w9=w'):=Zh (fun w9=>by subst hr;exact begins_any op w9);have hk:keyedB ⟨op,a,b⟩=(r && !b.toList.isEmpty):=(by unfold keyedB;rw[hr]);rw[hk];go_enter Tryz.func96,Tryz.ntmps96;go_upto_region 1 with fail;generalize w.alloc (.cells #[.int .i64 op,.string a,.string b] 76)=W at B1 N1⊢;have c0:=N1.out.c0;have c2:=N1.out.c2;simp only at c0 c2;cases r
 ·go_wp2_with fail;refine(HB.out _).mono ?_;rintro e w' ⟨rfl,rfl⟩;go_wp2_with fail;go_ret;exact⟨rfl,B1.out⟩
 ·by_cases hb:b.toList=[]
  ·have hq:(b.toList==(⟨#[]⟩:ByteArray).toList)=true:=(by rw[hb];simp[ByteArray.toList_eq]);have hE:b.toList.isEmpty=true:=(by rw[hb];rfl);go_wp2_with fail;refine(HB.out _).mono ?_;rintro e w' ⟨rfl,rfl⟩;go_wp2_with fail;go_ret;exact⟨by rw[hE];rfl,B1.out⟩
  ·have hq:(b.toList==[])=false:=beq_eq_false_iff_ne.2 hb;have hE:b.toList.isEmpty=false:=(by cases h:b.toList with|nil=>exact absurd h hb|cons _ _=>rfl);go_wp2_with fail;refine(HB.out _).mono ?_;rintro e w' ⟨rfl,rfl⟩;go_wp2_with fail;go_ret;exact⟨by rw[hE];rfl,B1.out⟩
theorem has_any(g o m n s:Nat)(f:Lit→Option Value)(key:ByteArray)(w:World)(h0:w.cell? ⟨g,o,none⟩=some (.map (some m)))(M:MapIs Tryz.prog 9 w m n s f)(hk:key.size≤maxLen){r:Bool}(hr:f (.string key.toList)=if r then some (.agg #[]) else none):
 Calls Tryz.prog 97 #[.pointer (some ⟨g,o,none⟩),.string key] w fun e w'=>e = .returned (.bool r)∧Below w.heap.size w w':=by
 have HM:=Zh M;have HK:Hid (keyOf Tryz.prog 9 (.string key)=some (.string key.toList)):=Zh (by rw[ByteArray.toList_eq];exact Go.WideMaps.keyOf_string_mk Tryz.underlying9 hk);have HR:=Zh hr;clear M hk hr;go_enter Tryz.func97,Tryz.ntmps97;go_wp2_with (at_lookup;refine wp_look_unit rfl _ _ rfl lawS Tryz.underlying122 (zeroU _) rfl HM.out rfl HK.out HR.out ?_);go_ret;exact⟨rfl,Zb _ _⟩
theorem newPlace_any(w:World):Calls Tryz.prog 58 #[] w fun e w'=>∃m,e = .returned (.agg #[.map (some m),.bool false])∧w.heap.size≤m∧MapIs Tryz.prog 9 w' m 0 0 (fun _=>none)∧Below w.heap.size w w':=by
 have hmm:=@run_makeMap Tryz.prog;go_enter Tryz.func58,Tryz.ntmps58;go_wp2_with fail;refine bodyPost_ret (v:=.agg #[.map (some (w.heap.size+1)),.bool false]) (by simp[results,Tryz.results58,go_sem]) rfl ⟨w.heap.size+1,rfl,by omega,?_,?_⟩
 ·have:=MapIs.made Tryz.prog 9 (w.alloc (.cells #[.map (some (w.heap.size+1)),.bool false] 124));simpa using this
 ·exact((Below.refl _ w).alloc (Zl) _).alloc (by simp) _
theorem mayTell_any(p n c:Nat)(A:Option Addr)(tl:Bool)(td:List ByteArray)(s:ByteArray)(w:World){r:Bool}(hr:r=true↔tl=true∧n<8∧s∉td)(h1:w.cell? ⟨p,1,none⟩=some (.bool tl))(h2:w.cell? ⟨p,2,none⟩=some (.slice A n c))
 (hn:td.length=n) (hn2:n≤1000000) (H:kStr.Holds w w.heap.size A td):
 Calls Tryz.prog 94 #[.pointer (some ⟨p,0,none⟩),.string s] w fun e w'=>e = .returned (.bool r)∧w=w':=by
 have HH:=Zh H;have HN:=Zh hn;clear H hn;cases tl with
 |false=>
  obtain rfl:r=false:=by cases r with|true=>exact absurd (hr.1 rfl).1 (by decide)|false=>rfl
  clear hr;go_enter Tryz.func94,Tryz.ntmps94;go_wp2_with fail;go_ret;exact⟨rfl,rfl⟩
 |true=>
  by_cases h8:n<8
  ·have i8:(n:Int)<8:=(by omega);by_cases hs:s∈td
   ·obtain rfl:r=false:=by cases r with|true=>exact absurd hs (hr.1 rfl).2.2|false=>rfl
    have HC:Hid (∀w9:World,kStr.Holds w9 w9.heap.size A td→Calls Tryz.prog 124 #[.slice A n c,.string s] w9 fun e w'=>e = .returned (.bool true)∧w9=w'):=Zh (fun w9 h9=>scontains_any td s A n c w9 ⟨fun _=>hs,fun _=>rfl⟩ HN.out hn2 h9);clear hr hs;go_enter Tryz.func94,Tryz.ntmps94;go_wp2_with fail;refine(HC.out _ HH.out).mono ?_;rintro e w' ⟨rfl,rfl⟩;go_wp2_with fail;go_ret;exact⟨rfl,rfl⟩
   ·obtain rfl:r=true:=hr.2 ⟨rfl,h8,hs⟩;have HC:Hid (∀w9:World,kStr.Holds w9 w9.heap.size A td→Calls Tryz.prog 124 #[.slice A n c,.string s] w9 fun e w'=>e = .returned (.bool false)∧w9=w'):=Zh (fun w9 h9=>scontains_any td s A n c w9 ⟨fun e=>(by cases e),fun e=>absurd e hs⟩ HN.out hn2 h9);clear hr hs;go_enter Tryz.func94,Tryz.ntmps94;go_wp2_with fail;refine(HC.out _ HH.out).mono ?_;rintro e w' ⟨rfl,rfl⟩;go_wp2_with fail;go_ret;exact⟨rfl,rfl⟩
  ·have i8:¬(n:Int)<8:=(by omega);obtain rfl:r=false:=by cases r with|true=>exact absurd (hr.1 rfl).2.1 h8|false=>rfl
   clear hr;go_enter Tryz.func94,Tryz.ntmps94;go_wp2_with fail;go_ret;exact⟨rfl,rfl⟩
end P13
end Go.Proofs.YtaklfomaibchnaaGreat
