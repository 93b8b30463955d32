/- A part of what the claimed theorem hangs on. No condition but those stated. -/
import Derived.Deep.RegionWith
import Derived.Deep.RegionHeld3
import Derived.Test.YtaklfomaibchnaaGreatM1
import Derived.Test.YtaklfomaibchnaaGreatM3
import Derived.Test.YtaklfomaibchnaaGreatM4
import Derived.Test.YtaklfomaibchnaaGreatM5
import Derived.Test.YtaklfomaibchnaaGreatM7
import Derived.Test.YtaklfomaibchnaaGreatM8
import Derived.Test.YtaklfomaibchnaaGreatM12
import Derived.Test.YtaklfomaibchnaaGreatM15
import Derived.Test.YtaklfomaibchnaaGreatM16
set_option linter.unusedVariables false
set_option linter.unusedSimpArgs false
set_option maxRecDepth 100000
set_option maxHeartbeats 40000000
namespace Go.Proofs.YtaklfomaibchnaaGreat
namespace P13
open Go.RowKit Kd P4 P5 P11 P12 Mv
theorem place_cells{w:World}{B g n c:Nat}{ps:List Pl}(h:kPl.Own w B (.slice (some ⟨g,0,none⟩) n c) ps){i:Nat}(hi:i<ps.length):
 w.cell? ⟨g,i*2,none⟩=some (.map (some ps[i].m))∧w.cell? ⟨g,i*2+1,none⟩=some (.bool ps[i].sk)∧g<w.heap.size:=by
 obtain⟨A,n',c',hv,_,_,_,_,hh⟩:=h.slice;injection hv with e1 e2 e3;subst e1;obtain⟨b,o,hA,hb,hc⟩:=hh.at hi;injection hA with hA;injection hA with h1 h2;subst h1;subst h2;have c0:=hc 0 _ rfl;have c1:=hc 1 _ rfl;refine⟨?_,?_,hb⟩
 ·rw[show 0+(i*kPl.size+0)=i*2 by show 0+(i*2+0)=_;omega] at c0;exact c0
 ·rw[show 0+(i*kPl.size+1)=i*2+1 by show 0+(i*2+1)=_;omega] at c1;exact c1
theorem tells_at(op:Int)(w:World){r:Bool}(hr:tellsO op=r):Calls Tryz.prog 93 #[.int .i64 op] w fun e w'=>e = .returned (.bool r)∧w=w':=by
 subst hr;by_cases h5:op=5
 ·subst h5;go_enter Tryz.func93,Tryz.ntmps93;go_wp2_with fail;go_ret;exact⟨rfl,rfl⟩
 by_cases h6:op=6
 ·subst h6;go_enter Tryz.func93,Tryz.ntmps93;go_wp2_with fail;go_ret;exact⟨rfl,rfl⟩
 have e:tellsO op=false:=(by simp[tellsO,h5,h6]);rw[e];have q5:=int_ne h5;have q6:=int_ne h6;go_enter Tryz.func93,Tryz.ntmps93;go_wp2_with fail;go_ret;exact⟨rfl,rfl⟩
structure FrC(w:World)(p g d:Nat)(nmv sk rt rk:Bool)(a b:ByteArray):Prop where
 T:∀w9,Below w.heap.size w w9→Calls Tryz.prog 94 #[.pointer (some ⟨p,0,none⟩),.string a] w9 fun e w'=>e = .returned (.bool rt)∧w9=w'
 D:∀w9,Below w.heap.size w w9→Calls Tryz.prog 61 #[.pointer (some ⟨p,0,none⟩)] w9 fun e w'=>e = .returned (.int .i64 d)∧w9=w'
 H:∀w9,Below w.heap.size w w9→Calls Tryz.prog 95 #[.pointer (some ⟨p,0,none⟩)] w9 fun e w'=>e = .returned (.pointer (some ⟨g,d*2,none⟩))∧∃j,w'=w9.drewN j
 S:∀w9,Below w.heap.size w w9→Calls Tryz.prog 97 #[.pointer (some ⟨g,d*2,none⟩),.string b] w9 fun e w'=>e = .returned (.bool rk)∧Below w9.heap.size w9 w'
 K:∀w9,Below w.heap.size w w9→w9.cell? ⟨g,d*2+1,none⟩=some (.bool sk)
theorem lastP_at{P:List (List In)}{d:Nat}(h:P.length=d+1):lastP P=P[d]'(by omega):=by
 rw[lastP];exact getLastD_at (s:=P) (d:=d) (by omega) h
theorem frC_of{w:World}{B p k:Nat}{P:List (List In)}{nm:Option (List (List UInt8))}(h:FrIs w B p k P nm)(hk:k≤1000)(a b:ByteArray)(hb:b.size≤maxLen):
 ∃g d,P.length=d+1∧d≤8∧FrC w p g d nm.isSome (skB (lastP P)) (decide (attrN nm a.toList 0=0)) (hasK (lastP P) b.toList) a b:=by
 obtain⟨g,c,d,ps,A,n,c',td,hBp,hPl,hd,hp,O,T,hpl,hnd,hat,htd,htn,hnk⟩:=h;refine⟨g,d,hPl,hd,?_⟩;have hpw:p<w.heap.size:=heap_lt hp;have c0:=cell_of_row w p 0 _ _ (0,0) hp;have c1:=cell_of_row w p 1 _ _ (0,0) hp;have c2:=cell_of_row w p 2 _ _ (0,0) hp;have cc0:w.cell? ⟨p,0,none⟩=some (.slice (some ⟨g,0,none⟩) (d+1) c):=c0;have cc1:w.cell? ⟨p,1,none⟩=some (.bool nm.isSome):=c1;have cc2:w.cell? ⟨p,2,none⟩=some (.slice A n c'):=c2;obtain⟨k0,k1,hg⟩:=place_cells O (i:=d) (by omega);obtain⟨hm,hsk,s,M⟩:=hat d (by omega) (by omega);rw[lastP_at hPl];have MW:=M.lt;obtain⟨A',n',c9,hv,_,_,_,_,TH⟩:=T.slice;injection hv with e1 e2 e3;subst e1;subst e2;subst e3;have hr:decide (attrN nm a.toList 0=0)=true↔nm.isSome=true∧n<8∧a∉td:=by
  rw[decide_eq_true_iff];cases nm with
  |none=>simp[attrN]
  |some ns=>
   have htd:td.map (·.toList)=ns:=htd;have hl:ns.length=n:=(by rw[←htd,List.length_map,htn]);have hin:a.toList∈ns↔a∈td:=by
    rw[←htd,List.mem_map];exact⟨fun⟨x,hx,e⟩=>toList_inj e▸hx,fun h=>⟨a,h,rfl⟩⟩
   rw[attrN_some];constructor
   ·intro h;split at h
    ·cases h
    ·rename_i hno;exact⟨rfl,by omega,fun e=>hno (.inl (hin.2 e))⟩
   ·rintro⟨_,h8,hn⟩;rw[if_neg];rintro(e|e)
    ·exact hn (hin.1 e)
    ·omega
 refine⟨fun w9 h9=>?_,fun w9 h9=>?_,fun w9 h9=>?_,fun w9 h9=>?_,fun w9 h9=>?_⟩
 ·exact mayTell_any p n c' A nm.isSome td a w9 hr ((h9.cell (p:=⟨p,1,none⟩) hpw).trans cc1) ((h9.cell (p:=⟨p,2,none⟩) hpw).trans cc2) htn (by omega) (TH.on h9)
 ·exact depth_any p d c _ w9 ((h9.cell (p:=⟨p,0,none⟩) hpw).trans cc0) (by omega)
 ·exact here_any p g d c w9 ((h9.cell (p:=⟨p,0,none⟩) hpw).trans cc0) (by omega)
 ·refine has_any g (d*2) ps[d].m k s (keysF P[d]) b w9 ((h9.cell (p:=⟨g,d*2,none⟩) hg).trans k0) (M.below h9 MW) hb ?_;rfl
 ·rw[←hsk];exact(h9.cell (p:=⟨g,d*2+1,none⟩) hg).trans k1
def codeF(bm bt rt sk kb rk:Bool)(op:Int)(d:Nat):Nat:=
 if bm=false then 7 else if bt=true then(if rt=true then 0 else 9) else if op=2 then(if d=0 then 8 else 0) else if sk=true then 11 else if(kb&&rk)=true then 10 else if op=1∧d=8 then 12 else 0
theorem wrong_code{P:List (List In)}{nm:Option (List (List UInt8))}{d:Nat}(hP:P.length=d+1)(hd:d≤8)(x:In):
 wrongV P nm x=codeF (mayI x) (tellsO x.op) (decide (attrN nm x.a.toList 0=0)) (skB (lastP P)) (keyedB x) (hasK (lastP P) x.b.toList) x.op d:=by
 have e1:attrN nm x.a.toList 0=if decide (attrN nm x.a.toList 0=0)=true then 0 else 9:=by
  cases nm with
  |none=>rfl
  |some ns=>
   rw[attrN_some];split<;>simp
 have e2:(makesO x.op && !x.b.toList.isEmpty&&(lastP P).any (keyB x))=(keyedB x&&hasK (lastP P) x.b.toList):=by
  unfold keyedB hasK keyB;cases makesO x.op<;>cases x.b.toList.isEmpty<;>simp
 unfold wrongV codeF;rw[e2];have e3:(P.length≤1)=(d=0):=(by simp only[eq_iff_iff];omega);have e4:(9≤P.length)=(d=8):=(by simp only[eq_iff_iff];omega);simp only[e3,e4];rw[show((lastP P).any fun y=>decide (y.op=7))=skB (lastP P) from rfl];split
 ·rfl
 split
 ·exact e1
 rfl
theorem fault_any{w:World}{B p k:Nat}{P:List (List In)}{nm:Option (List (List UInt8))}(h:FrIs w B p k P nm)(hk:k≤1000)(i:In)(ha:i.a.size≤300)(hb:i.b.size≤300):
 Calls Tryz.prog 59 #[.pointer (some ⟨p,0,none⟩),.agg #[.int .i64 i.op,.string i.a,.string i.b]] w fun e w'=>e = .returned (errV (wrongV P nm i:Nat))∧Below w.heap.size w w':=by
 obtain⟨op,a,b⟩:=i;have ha:a.size≤300:=ha;have hb:b.size≤300:=hb;obtain⟨g,d,hP,hd,C⟩:=frC_of h hk a b (by unfold maxLen;omega);have hw:=wrong_code (nm:=nm) hP hd ⟨op,a,b⟩;simp only at hw;have HM:Hid (∀w9,Calls Tryz.prog 92 #[.agg #[.int .i64 op,.string a,.string b]] w9 fun e w'=>e = .returned (.bool (mayI ⟨op,a,b⟩))∧Below w9.heap.size w9 w'):=Zh (fun w9=>imay_c ⟨op,a,b⟩ w9 (Nat.le_trans ha (by omega)) (Nat.le_trans hb (by omega)));have HL:Hid (∀w9,Calls Tryz.prog 93 #[.int .i64 op] w9 fun e w'=>e = .returned (.bool (tellsO op))∧w9=w'):=Zh (fun w9=>tells_at op w9 rfl);have HK:Hid (∀w9,Calls Tryz.prog 96 #[.agg #[.int .i64 op,.string a,.string b]] w9 fun e w'=>e = .returned (.bool (keyedB ⟨op,a,b⟩))∧Below w9.heap.size w9 w'):=Zh (fun w9=>keyed_any op a b w9);have HT:Hid (tellsO op=true→(op==2)=false∧(op != 2)=true∧(op==1)=false∧keyedB ⟨op,a,b⟩=false):=Zh (fun e=>by
  simp only[tellsO,decide_eq_true_eq] at e;refine⟨int_ne (by omega),by rw[bne,int_ne (by omega)];rfl,int_ne (by omega),?_⟩;simp only[keyedB,makesO];rw[decide_eq_false (by omega)];rfl)
 have HK2:Hid (op=2→keyedB ⟨op,a,b⟩=false):=Zh (fun e=>by subst e;rfl);rw[hw];clear hw h ha hb hk;have CC:=Zh C;clear C;generalize mayI ⟨op,a,b⟩=bm at HM⊢;generalize tellsO op=bt at HL HT⊢;generalize decide (attrN nm a.toList 0=0)=rt at CC⊢;generalize skB (lastP P)=sk at CC⊢;generalize hasK (lastP P) b.toList=rk at CC⊢;generalize keyedB ⟨op,a,b⟩=kb at HK HT HK2⊢;generalize nm.isSome=nmv at CC;clear hP nm P;obtain⟨cd,hcd⟩:∃x,codeF bm bt rt sk kb rk op d=x:=⟨_,rfl⟩;rw[hcd];have HC:=Zh hcd;clear hcd;have B1:Hid (Below w.heap.size w (w.alloc (.cells #[.int .i64 op,.string a,.string b] 76))):=Zh (Zb _ _);have N1:Hid (XB (w.alloc (.cells #[.int .i64 op,.string a,.string b] 76)) w.heap.size ⟨op,a,b⟩):=Zh (XB.new w ⟨op,a,b⟩);go_enter Tryz.func59,Tryz.ntmps59;go_upto_region 1 with fail;generalize w.alloc (.cells #[.int .i64 op,.string a,.string b] 76)=W at B1 N1⊢;have hxw:w.heap.size≤w.heap.size:=Zl;obtain⟨x,hx⟩:∃x,x=w.heap.size:=⟨_,rfl⟩;have HX:=Zh hx;rw[←hx] at N1⊢;clear hx hxw;have c0:=N1.out.c0;have c1:=N1.out.c1;have c2:=N1.out.c2;simp only at c0 c1 c2;cases bm with
 |false=>
  obtain rfl:cd=7:=by rw[←HC.out];rfl
  go_wp2_with fail;refine(HM.out _).mono ?_;rintro e w1 ⟨rfl,b1⟩;go_wp2_with fail;go_ret;exact⟨rfl,B1.out.trans (b1.mono B1.out.size)⟩
 |true=>
 go_wp2_with fail;refine(HM.out _).mono ?_;rintro e w1 ⟨rfl,b1⟩;have B2:=Zh (B1.out.trans (b1.mono B1.out.size));have N2:=Zh (N1.out.below b1 N1.out.lt);clear b1 c0 c1 c2 N1 B1 HM;have c0:=N2.out.c0;have c1:=N2.out.c1;have c2:=N2.out.c2;simp only at c0 c1 c2;have SKEEP:Hid (∀wz,Below w1.heap.size w1 wz→wz.cell? ⟨x,0,none⟩=some (.int .i64 op)∧wz.cell? ⟨x,1,none⟩=some (.string a)∧wz.cell? ⟨x,2,none⟩=some (.string b)):=Zh (fun wz h=>by
  have N:=N2.out.below h N2.out.lt;exact⟨N.c0,N.c1,N.c2⟩)
 have BW:Hid (Below w1.heap.size w1 w1):=Zh Ze;have BT:Hid (∀wz,Below w1.heap.size w1 wz→Below w.heap.size w wz):=Zh (fun wz h=>B2.out.trans (h.mono B2.out.size));have CT:Hid (∀wz,Below w1.heap.size w1 wz→Calls Tryz.prog 94 #[.pointer (some ⟨p,0,none⟩),.string a] wz fun e w'=>e = .returned (.bool rt)∧wz=w'):=Zh (fun wz h=>CC.out.T wz (BT.out wz h));have CD:Hid (∀wz,Below w1.heap.size w1 wz→Calls Tryz.prog 61 #[.pointer (some ⟨p,0,none⟩)] wz fun e w'=>e = .returned (.int .i64 d)∧wz=w'):=Zh (fun wz h=>CC.out.D wz (BT.out wz h));have CH:Hid (∀wz,Below w1.heap.size w1 wz→Calls Tryz.prog 95 #[.pointer (some ⟨p,0,none⟩)] wz fun e w'=>e = .returned (.pointer (some ⟨g,d*2,none⟩))∧∃j,w'=wz.drewN j):=Zh (fun wz h=>CC.out.H wz (BT.out wz h));have CHS:Hid (∀wz,Below w1.heap.size w1 wz→Calls Tryz.prog 97 #[.pointer (some ⟨g,d*2,none⟩),.string b] wz fun e w'=>e = .returned (.bool rk)∧Below wz.heap.size wz w'):=Zh (fun wz h=>CC.out.S wz (BT.out wz h));have CKY:Hid (∀wz,Below w1.heap.size w1 wz→Calls Tryz.prog 96 #[.agg #[.int .i64 op,.string a,.string b]] wz fun e w'=>e = .returned (.bool kb)∧Below wz.heap.size wz w'):=Zh (fun wz _=>HK.out wz);have KS:Hid (∀wz,Below w1.heap.size w1 wz→wz.cell? ⟨g,d*2+1,none⟩=some (.bool sk)):=Zh (fun wz h=>CC.out.K wz (BT.out wz h));clear BT CC HK N2;cases bt with
 |true=>
  obtain⟨q2,q2n,q1,rfl⟩:=HT.out rfl;cases rt with
  |false=>
   obtain rfl:cd=9:=by rw[←HC.out];rfl
   go_wp2_with fail;refine(HL.out _).mono ?_;rintro e w' ⟨rfl,rfl⟩;go_wp2_with fail;refine(CT.out _ BW.out).mono ?_;rintro e w' ⟨rfl,rfl⟩;go_wp2_with fail;go_ret;exact⟨rfl,B2.out⟩
  |true=>
   obtain rfl:cd=0:=by rw[←HC.out];rfl
   go_wp2_with fail;refine(HL.out _).mono ?_;rintro e w' ⟨rfl,rfl⟩;go_wp2_with fail;refine(CT.out _ BW.out).mono ?_;rintro e w' ⟨rfl,rfl⟩;go_wp2_with fail;refine(HL.out _).mono ?_;rintro e w' ⟨rfl,rfl⟩;go_upto_region 9 with fail;refine wp_region_held_drew (S:=fun w'=>w'.cell? ⟨x,0,none⟩=some (.int .i64 op)∧w'.cell? ⟨x,1,none⟩=some (.string a)∧w'.cell? ⟨x,2,none⟩=some (.string b)) (by kernel_rfl) (SKEEP.out _ (bl_drew BW.out)) (fun hHeld=>?_);refine Zt 0 51 ?_;refine Zr [1] ?_;refine AllReadyH.cons rfl (fun K hK=>?_) ?_
   ·rw[if_pos (by rfl)];go_simp;go_at_call 96;refine(CKY.out _ (by first|exact BW.out|exact bl_drew BW.out)).mono ?_;rintro e w5 ⟨rfl,b5⟩;have BW:Hid (Below w1.heap.size w1 w5):=Zh (by first|exact bl_call b5 BW.out|exact bl_call b5 (bl_drew BW.out));clear b5;refine hK.out _ _ ?_ (fun hHeld=>?_)
    ·exact SKEEP.out _ BW.out
    clear hK K;(try simp only[Zs]);refine Zt 2 53 ?_;refine Zi 3 54 ?_;refine Zi 4 55 ?_;refine Zi 5 56 ?_;refine Zi 6 57 ?_;refine Zi 7 58 ?_;refine Zt 8 59 ?_;refine Zt 9 50 ?_;refine wpAnyH_done (by kernel_rfl) ?_ _;(try simp only[Act.put,List.getElem_toArray,List.getElem_cons_succ,List.getElem_cons_zero,List.setIfInBounds_toArray,List.set_cons_zero,List.set_cons_succ]);go_wp2_with fail;go_ret;exact⟨rfl,B2.out.trans (BW.out.mono B2.out.size)⟩
   exact AllReadyH.nil
 |false=>
  clear HT;by_cases h2:op=2
  ·have q2:(op==2)=true:=int_eq h2;have q2n:(op != 2)=false:=(by rw[bne,q2];rfl);have q1:(op==1)=false:=int_ne (by omega);obtain rfl:=HK2.out h2;by_cases h0:d=0
   ·subst h0;obtain rfl:cd=8:=by rw[←HC.out];simp[codeF,h2]
    clear HC h2;go_wp2_with fail;refine(HL.out _).mono ?_;rintro e w' ⟨rfl,rfl⟩;go_wp2_with fail;refine(CD.out _ BW.out).mono ?_;rintro e w' ⟨rfl,rfl⟩;go_wp2_with fail;go_ret;exact⟨rfl,B2.out⟩
   ·have q0:((d:Int)==0)=false:=int_ne (by omega);obtain rfl:cd=0:=by rw[←HC.out];simp[codeF,h2,h0]
    clear HC h2 h0;go_wp2_with fail;refine(HL.out _).mono ?_;rintro e w' ⟨rfl,rfl⟩;go_wp2_with fail;refine(CD.out _ BW.out).mono ?_;rintro e w' ⟨rfl,rfl⟩;go_upto_region 9 with fail;refine wp_region_held_drew (S:=fun w'=>w'.cell? ⟨x,0,none⟩=some (.int .i64 op)∧w'.cell? ⟨x,1,none⟩=some (.string a)∧w'.cell? ⟨x,2,none⟩=some (.string b)) (by kernel_rfl) (SKEEP.out _ (bl_drew BW.out)) (fun hHeld=>?_);refine Zt 0 51 ?_;refine Zr [1] ?_;refine AllReadyH.cons rfl (fun K hK=>?_) ?_
    ·rw[if_pos (by rfl)];go_simp;go_at_call 96;refine(CKY.out _ (by first|exact BW.out|exact bl_drew BW.out)).mono ?_;rintro e w5 ⟨rfl,b5⟩;have BW:Hid (Below w1.heap.size w1 w5):=Zh (by first|exact bl_call b5 BW.out|exact bl_call b5 (bl_drew BW.out));clear b5;refine hK.out _ _ ?_ (fun hHeld=>?_)
     ·exact SKEEP.out _ BW.out
     clear hK K;(try simp only[Zs]);refine Zt 2 53 ?_;refine Zi 3 54 ?_;refine Zi 4 55 ?_;refine Zi 5 56 ?_;refine Zi 6 57 ?_;refine Zi 7 58 ?_;refine Zt 8 59 ?_;refine Zt 9 50 ?_;refine wpAnyH_done (by kernel_rfl) ?_ _;(try simp only[Act.put,List.getElem_toArray,List.getElem_cons_succ,List.getElem_cons_zero,List.setIfInBounds_toArray,List.set_cons_zero,List.set_cons_succ]);go_wp2_with fail;go_ret;exact⟨rfl,B2.out.trans (BW.out.mono B2.out.size)⟩
    exact AllReadyH.nil
  ·have q2:(op==2)=false:=int_ne h2;have q2n:(op != 2)=true:=(by rw[bne,q2];rfl);have ks:=KS.out _ BW.out;cases sk with
   |true=>
    obtain rfl:cd=11:=by rw[←HC.out];simp[codeF,h2]
    clear HC h2;go_wp2_with fail;refine(HL.out _).mono ?_;rintro e w' ⟨rfl,rfl⟩;go_wp2_with fail;refine(HL.out _).mono ?_;rintro e w' ⟨rfl,rfl⟩;go_wp2_with fail;refine(CH.out _ BW.out).mono ?_;rintro e w5 ⟨rfl,j5,hw5⟩;have BW:Hid (Below w1.heap.size w1 w5):=Zh (hw5▸bl_drewN BW.out _);have ks:=KS.out _ BW.out;clear hw5;go_wp2_with fail;go_ret;exact⟨rfl,B2.out.trans (BW.out.mono B2.out.size)⟩
   |false=>
    obtain⟨z1,hz1⟩:∃z,(op==1)=z:=⟨_,rfl⟩;obtain⟨z8,hz8⟩:∃z,((d:Int)==8)=z:=⟨_,rfl⟩;have HC2:Hid (cd=if(kb&&rk)=true then 10 else if(z1&&z8)=true then 12 else 0):=Zh (by
     rw[←HC.out,←hz1,←hz8];have e:(op=1∧d=8)=(((op==1)&&((d:Int)==8))=true):=by
      simp only[Bool.and_eq_true,beq_iff_eq,eq_iff_iff];omega
     simp only[codeF,h2,e];rfl)
    clear HC h2;go_wp2_with fail;refine(HL.out _).mono ?_;rintro e w' ⟨rfl,rfl⟩;go_wp2_with fail;refine(HL.out _).mono ?_;rintro e w' ⟨rfl,rfl⟩;go_wp2_with fail;refine(CH.out _ BW.out).mono ?_;rintro e w5 ⟨rfl,j5,hw5⟩;have BW:Hid (Below w1.heap.size w1 w5):=Zh (hw5▸bl_drewN BW.out _);have ks:=KS.out _ BW.out;clear hw5;go_upto_region 9 with fail;clear ks;cases kb with
    |false=>
     cases z1 with
     |false=>
      obtain rfl:cd=0:=by rw[HC2.out];rfl
      refine wp_region_held_drew (S:=fun w'=>w'.cell? ⟨x,0,none⟩=some (.int .i64 op)∧w'.cell? ⟨x,1,none⟩=some (.string a)∧w'.cell? ⟨x,2,none⟩=some (.string b)) (by kernel_rfl) (SKEEP.out _ (bl_drew BW.out)) (fun hHeld=>?_);refine Zt 0 51 ?_;refine Zr [1] ?_;refine AllReadyH.cons rfl (fun K hK=>?_) ?_
      ·rw[if_pos (by rfl)];go_simp;go_at_call 96;refine(CKY.out _ (by first|exact BW.out|exact bl_drew BW.out)).mono ?_;rintro e w5 ⟨rfl,b5⟩;have BW:Hid (Below w1.heap.size w1 w5):=Zh (by first|exact bl_call b5 BW.out|exact bl_call b5 (bl_drew BW.out));clear b5;refine hK.out _ _ ?_ (fun hHeld=>?_)
       ·exact SKEEP.out _ BW.out
       clear hK K;(try simp only[Zs]);refine Zt 2 53 ?_;refine Zi 3 54 ?_;refine Zi 4 55 ?_;refine Zi 5 56 ?_;refine Zi 6 57 ?_;refine Zi 7 58 ?_;refine Zt 8 59 ?_;refine Zt 9 50 ?_;refine wpAnyH_done (by kernel_rfl) ?_ _;(try simp only[Act.put,List.getElem_toArray,List.getElem_cons_succ,List.getElem_cons_zero,List.setIfInBounds_toArray,List.set_cons_zero,List.set_cons_succ]);go_wp2_with fail;go_ret;exact⟨rfl,B2.out.trans (BW.out.mono B2.out.size)⟩
      exact AllReadyH.nil
     |true=>
      cases z8 with
      |false=>
       obtain rfl:cd=0:=by rw[HC2.out];rfl
       refine wp_region_held_drew (S:=fun w'=>w'.cell? ⟨x,0,none⟩=some (.int .i64 op)∧w'.cell? ⟨x,1,none⟩=some (.string a)∧w'.cell? ⟨x,2,none⟩=some (.string b)) (by kernel_rfl) (SKEEP.out _ (bl_drew BW.out)) (fun hHeld=>?_);refine Zt 0 51 ?_;refine Zr [1] ?_;refine AllReadyH.cons rfl (fun K hK=>?_) ?_
       ·rw[if_pos (by rfl)];go_simp;go_at_call 96;refine(CKY.out _ (by first|exact BW.out|exact bl_drew BW.out)).mono ?_;rintro e w5 ⟨rfl,b5⟩;have BW:Hid (Below w1.heap.size w1 w5):=Zh (by first|exact bl_call b5 BW.out|exact bl_call b5 (bl_drew BW.out));clear b5;refine hK.out _ _ ?_ (fun hHeld=>?_)
        ·exact SKEEP.out _ BW.out
        clear hK K;(try simp only[Zs]);refine Zt 2 53 ?_;refine Zi 3 54 ?_;refine Zi 4 55 ?_;refine Zi 5 56 ?_;refine Zi 6 57 ?_;refine Zi 7 58 ?_;refine Zt 8 59 ?_;refine Zt 9 50 ?_;refine wpAnyH_done (by kernel_rfl) ?_ _;(try simp only[Act.put,List.getElem_toArray,List.getElem_cons_succ,List.getElem_cons_zero,List.setIfInBounds_toArray,List.set_cons_zero,List.set_cons_succ]);go_wp2_with fail;refine(CD.out _ BW.out).mono ?_;rintro e w' ⟨rfl,rfl⟩;go_wp2_with fail;go_ret;exact⟨rfl,B2.out.trans (BW.out.mono B2.out.size)⟩
       exact AllReadyH.nil
      |true=>
       obtain rfl:cd=12:=by rw[HC2.out];rfl
       refine wp_region_held_drew (S:=fun w'=>w'.cell? ⟨x,0,none⟩=some (.int .i64 op)∧w'.cell? ⟨x,1,none⟩=some (.string a)∧w'.cell? ⟨x,2,none⟩=some (.string b)) (by kernel_rfl) (SKEEP.out _ (bl_drew BW.out)) (fun hHeld=>?_);refine Zt 0 51 ?_;refine Zr [1] ?_;refine AllReadyH.cons rfl (fun K hK=>?_) ?_
       ·rw[if_pos (by rfl)];go_simp;go_at_call 96;refine(CKY.out _ (by first|exact BW.out|exact bl_drew BW.out)).mono ?_;rintro e w5 ⟨rfl,b5⟩;have BW:Hid (Below w1.heap.size w1 w5):=Zh (by first|exact bl_call b5 BW.out|exact bl_call b5 (bl_drew BW.out));clear b5;refine hK.out _ _ ?_ (fun hHeld=>?_)
        ·exact SKEEP.out _ BW.out
        clear hK K;(try simp only[Zs]);refine Zt 2 53 ?_;refine Zi 3 54 ?_;refine Zi 4 55 ?_;refine Zi 5 56 ?_;refine Zi 6 57 ?_;refine Zi 7 58 ?_;refine Zt 8 59 ?_;refine Zt 9 50 ?_;refine wpAnyH_done (by kernel_rfl) ?_ _;(try simp only[Act.put,List.getElem_toArray,List.getElem_cons_succ,List.getElem_cons_zero,List.setIfInBounds_toArray,List.set_cons_zero,List.set_cons_succ]);go_wp2_with fail;refine(CD.out _ BW.out).mono ?_;rintro e w' ⟨rfl,rfl⟩;go_wp2_with fail;go_ret;exact⟨rfl,B2.out.trans (BW.out.mono B2.out.size)⟩
       exact AllReadyH.nil
    |true=>
     cases rk with
     |true=>
      obtain rfl:cd=10:=by rw[HC2.out];rfl
      refine wp_region_held_drew (S:=fun w'=>w'.cell? ⟨x,0,none⟩=some (.int .i64 op)∧w'.cell? ⟨x,1,none⟩=some (.string a)∧w'.cell? ⟨x,2,none⟩=some (.string b)) (by kernel_rfl) (SKEEP.out _ (bl_drew BW.out)) (fun hHeld=>?_);refine Zt 0 51 ?_;refine Zr [1] ?_;refine AllReadyH.cons rfl (fun K hK=>?_) ?_
      ·rw[if_pos (by rfl)];go_simp;go_at_call 96;refine(CKY.out _ (by first|exact BW.out|exact bl_drew BW.out)).mono ?_;rintro e w5 ⟨rfl,b5⟩;have BW:Hid (Below w1.heap.size w1 w5):=Zh (by first|exact bl_call b5 BW.out|exact bl_call b5 (bl_drew BW.out));clear b5;refine hK.out _ _ ?_ (fun hHeld=>?_)
       ·exact SKEEP.out _ BW.out
       clear hK K;(try simp only[Zs]);refine Zt 2 53 ?_;refine Zt 3 54 ?_;refine Zt 5 56 ?_;refine Zt 6 57 ?_;refine Zr [4] ?_;refine AllReadyH.cons rfl (fun K hK=>?_) ?_
       ·rw[if_pos (by rfl)];go_simp;go_at_call 95;refine(CH.out _ (by first|exact BW.out|exact bl_drew BW.out)).mono ?_;rintro e w5 ⟨rfl,j5,hw5⟩;have BW:Hid (Below w1.heap.size w1 w5):=Zh (by first|exact hw5▸bl_drewN BW.out _|exact hw5▸bl_drewN (bl_drew BW.out) _);clear hw5;refine hK.out _ _ ?_ (fun hHeld=>?_)
        ·exact SKEEP.out _ BW.out
        clear hK K;(try simp only[Zs]);refine Zr [7] ?_;refine AllReadyH.cons rfl (fun K hK=>?_) ?_
        ·rw[if_pos (by rfl)];go_simp;go_at_call 97;refine(CHS.out _ (by first|exact BW.out|exact bl_drew BW.out)).mono ?_;rintro e w5 ⟨rfl,b5⟩;have BW:Hid (Below w1.heap.size w1 w5):=Zh (by first|exact bl_call b5 BW.out|exact bl_call b5 (bl_drew BW.out));clear b5;refine hK.out _ _ ?_ (fun hHeld=>?_)
         ·exact SKEEP.out _ BW.out
         clear hK K;(try simp only[Zs]);refine Zt 8 59 ?_;refine Zt 9 50 ?_;refine wpAnyH_done (by kernel_rfl) ?_ _;(try simp only[Act.put,List.getElem_toArray,List.getElem_cons_succ,List.getElem_cons_zero,List.setIfInBounds_toArray,List.set_cons_zero,List.set_cons_succ]);go_wp2_with fail;go_ret;exact⟨rfl,B2.out.trans (BW.out.mono B2.out.size)⟩
        exact AllReadyH.nil
       exact AllReadyH.nil
      exact AllReadyH.nil
     |false=>
      cases z1 with
      |false=>
       obtain rfl:cd=0:=by rw[HC2.out];rfl
       refine wp_region_held_drew (S:=fun w'=>w'.cell? ⟨x,0,none⟩=some (.int .i64 op)∧w'.cell? ⟨x,1,none⟩=some (.string a)∧w'.cell? ⟨x,2,none⟩=some (.string b)) (by kernel_rfl) (SKEEP.out _ (bl_drew BW.out)) (fun hHeld=>?_);refine Zt 0 51 ?_;refine Zr [1] ?_;refine AllReadyH.cons rfl (fun K hK=>?_) ?_
       ·rw[if_pos (by rfl)];go_simp;go_at_call 96;refine(CKY.out _ (by first|exact BW.out|exact bl_drew BW.out)).mono ?_;rintro e w5 ⟨rfl,b5⟩;have BW:Hid (Below w1.heap.size w1 w5):=Zh (by first|exact bl_call b5 BW.out|exact bl_call b5 (bl_drew BW.out));clear b5;refine hK.out _ _ ?_ (fun hHeld=>?_)
        ·exact SKEEP.out _ BW.out
        clear hK K;(try simp only[Zs]);refine Zt 2 53 ?_;refine Zt 3 54 ?_;refine Zt 5 56 ?_;refine Zt 6 57 ?_;refine Zr [4] ?_;refine AllReadyH.cons rfl (fun K hK=>?_) ?_
        ·rw[if_pos (by rfl)];go_simp;go_at_call 95;refine(CH.out _ (by first|exact BW.out|exact bl_drew BW.out)).mono ?_;rintro e w5 ⟨rfl,j5,hw5⟩;have BW:Hid (Below w1.heap.size w1 w5):=Zh (by first|exact hw5▸bl_drewN BW.out _|exact hw5▸bl_drewN (bl_drew BW.out) _);clear hw5;refine hK.out _ _ ?_ (fun hHeld=>?_)
         ·exact SKEEP.out _ BW.out
         clear hK K;(try simp only[Zs]);refine Zr [7] ?_;refine AllReadyH.cons rfl (fun K hK=>?_) ?_
         ·rw[if_pos (by rfl)];go_simp;go_at_call 97;refine(CHS.out _ (by first|exact BW.out|exact bl_drew BW.out)).mono ?_;rintro e w5 ⟨rfl,b5⟩;have BW:Hid (Below w1.heap.size w1 w5):=Zh (by first|exact bl_call b5 BW.out|exact bl_call b5 (bl_drew BW.out));clear b5;refine hK.out _ _ ?_ (fun hHeld=>?_)
          ·exact SKEEP.out _ BW.out
          clear hK K;(try simp only[Zs]);refine Zt 8 59 ?_;refine Zt 9 50 ?_;refine wpAnyH_done (by kernel_rfl) ?_ _;(try simp only[Act.put,List.getElem_toArray,List.getElem_cons_succ,List.getElem_cons_zero,List.setIfInBounds_toArray,List.set_cons_zero,List.set_cons_succ]);go_wp2_with fail;go_ret;exact⟨rfl,B2.out.trans (BW.out.mono B2.out.size)⟩
         exact AllReadyH.nil
        exact AllReadyH.nil
       exact AllReadyH.nil
      |true=>
       cases z8 with
       |false=>
        obtain rfl:cd=0:=by rw[HC2.out];rfl
        refine wp_region_held_drew (S:=fun w'=>w'.cell? ⟨x,0,none⟩=some (.int .i64 op)∧w'.cell? ⟨x,1,none⟩=some (.string a)∧w'.cell? ⟨x,2,none⟩=some (.string b)) (by kernel_rfl) (SKEEP.out _ (bl_drew BW.out)) (fun hHeld=>?_);refine Zt 0 51 ?_;refine Zr [1] ?_;refine AllReadyH.cons rfl (fun K hK=>?_) ?_
        ·rw[if_pos (by rfl)];go_simp;go_at_call 96;refine(CKY.out _ (by first|exact BW.out|exact bl_drew BW.out)).mono ?_;rintro e w5 ⟨rfl,b5⟩;have BW:Hid (Below w1.heap.size w1 w5):=Zh (by first|exact bl_call b5 BW.out|exact bl_call b5 (bl_drew BW.out));clear b5;refine hK.out _ _ ?_ (fun hHeld=>?_)
         ·exact SKEEP.out _ BW.out
         clear hK K;(try simp only[Zs]);refine Zt 2 53 ?_;refine Zt 3 54 ?_;refine Zt 5 56 ?_;refine Zt 6 57 ?_;refine Zr [4] ?_;refine AllReadyH.cons rfl (fun K hK=>?_) ?_
         ·rw[if_pos (by rfl)];go_simp;go_at_call 95;refine(CH.out _ (by first|exact BW.out|exact bl_drew BW.out)).mono ?_;rintro e w5 ⟨rfl,j5,hw5⟩;have BW:Hid (Below w1.heap.size w1 w5):=Zh (by first|exact hw5▸bl_drewN BW.out _|exact hw5▸bl_drewN (bl_drew BW.out) _);clear hw5;refine hK.out _ _ ?_ (fun hHeld=>?_)
          ·exact SKEEP.out _ BW.out
          clear hK K;(try simp only[Zs]);refine Zr [7] ?_;refine AllReadyH.cons rfl (fun K hK=>?_) ?_
          ·rw[if_pos (by rfl)];go_simp;go_at_call 97;refine(CHS.out _ (by first|exact BW.out|exact bl_drew BW.out)).mono ?_;rintro e w5 ⟨rfl,b5⟩;have BW:Hid (Below w1.heap.size w1 w5):=Zh (by first|exact bl_call b5 BW.out|exact bl_call b5 (bl_drew BW.out));clear b5;refine hK.out _ _ ?_ (fun hHeld=>?_)
           ·exact SKEEP.out _ BW.out
           clear hK K;(try simp only[Zs]);refine Zt 8 59 ?_;refine Zt 9 50 ?_;refine wpAnyH_done (by kernel_rfl) ?_ _;(try simp only[Act.put,List.getElem_toArray,List.getElem_cons_succ,List.getElem_cons_zero,List.setIfInBounds_toArray,List.set_cons_zero,List.set_cons_succ]);go_wp2_with fail;refine(CD.out _ BW.out).mono ?_;rintro e w' ⟨rfl,rfl⟩;go_wp2_with fail;go_ret;exact⟨rfl,B2.out.trans (BW.out.mono B2.out.size)⟩
          exact AllReadyH.nil
         exact AllReadyH.nil
        exact AllReadyH.nil
       |true=>
        obtain rfl:cd=12:=by rw[HC2.out];rfl
        refine wp_region_held_drew (S:=fun w'=>w'.cell? ⟨x,0,none⟩=some (.int .i64 op)∧w'.cell? ⟨x,1,none⟩=some (.string a)∧w'.cell? ⟨x,2,none⟩=some (.string b)) (by kernel_rfl) (SKEEP.out _ (bl_drew BW.out)) (fun hHeld=>?_);refine Zt 0 51 ?_;refine Zr [1] ?_;refine AllReadyH.cons rfl (fun K hK=>?_) ?_
        ·rw[if_pos (by rfl)];go_simp;go_at_call 96;refine(CKY.out _ (by first|exact BW.out|exact bl_drew BW.out)).mono ?_;rintro e w5 ⟨rfl,b5⟩;have BW:Hid (Below w1.heap.size w1 w5):=Zh (by first|exact bl_call b5 BW.out|exact bl_call b5 (bl_drew BW.out));clear b5;refine hK.out _ _ ?_ (fun hHeld=>?_)
         ·exact SKEEP.out _ BW.out
         clear hK K;(try simp only[Zs]);refine Zt 2 53 ?_;refine Zt 3 54 ?_;refine Zt 5 56 ?_;refine Zt 6 57 ?_;refine Zr [4] ?_;refine AllReadyH.cons rfl (fun K hK=>?_) ?_
         ·rw[if_pos (by rfl)];go_simp;go_at_call 95;refine(CH.out _ (by first|exact BW.out|exact bl_drew BW.out)).mono ?_;rintro e w5 ⟨rfl,j5,hw5⟩;have BW:Hid (Below w1.heap.size w1 w5):=Zh (by first|exact hw5▸bl_drewN BW.out _|exact hw5▸bl_drewN (bl_drew BW.out) _);clear hw5;refine hK.out _ _ ?_ (fun hHeld=>?_)
          ·exact SKEEP.out _ BW.out
          clear hK K;(try simp only[Zs]);refine Zr [7] ?_;refine AllReadyH.cons rfl (fun K hK=>?_) ?_
          ·rw[if_pos (by rfl)];go_simp;go_at_call 97;refine(CHS.out _ (by first|exact BW.out|exact bl_drew BW.out)).mono ?_;rintro e w5 ⟨rfl,b5⟩;have BW:Hid (Below w1.heap.size w1 w5):=Zh (by first|exact bl_call b5 BW.out|exact bl_call b5 (bl_drew BW.out));clear b5;refine hK.out _ _ ?_ (fun hHeld=>?_)
           ·exact SKEEP.out _ BW.out
           clear hK K;(try simp only[Zs]);refine Zt 8 59 ?_;refine Zt 9 50 ?_;refine wpAnyH_done (by kernel_rfl) ?_ _;(try simp only[Act.put,List.getElem_toArray,List.getElem_cons_succ,List.getElem_cons_zero,List.setIfInBounds_toArray,List.set_cons_zero,List.set_cons_succ]);go_wp2_with fail;refine(CD.out _ BW.out).mono ?_;rintro e w' ⟨rfl,rfl⟩;go_wp2_with fail;go_ret;exact⟨rfl,B2.out.trans (BW.out.mono B2.out.size)⟩
          exact AllReadyH.nil
         exact AllReadyH.nil
        exact AllReadyH.nil
structure Fr(w:World)(B p k g c d:Nat)(A:Option Addr)(n c':Nat)(tl:Bool)(ps:List Pl)(td:List ByteArray)(P:List (List In)):Prop where
 base:B≤p
 len:P.length=d+1
 d8:d≤8
 blk:w.heap[p]? = some (.cells #[.slice (some ⟨g,0,none⟩) (d+1) c,.bool tl,.slice A n c'] 129 (0,0))
 own:kPl.Own w B (.slice (some ⟨g,0,none⟩) (d+1) c) ps
 told:kStr.Own w B (.slice A n c') td
 pl:ps.length=d+1
 nd:(ps.map Pl.m).Nodup
 at_:∀i (h:i<ps.length) (h2:i<P.length),B≤ps[i].m∧ps[i].sk=skB P[i]∧∃s,MapIs Tryz.prog 9 w ps[i].m k s (keysF P[i])
 tlen:td.length=n
 nk:n≤k
theorem FrIs.fr{w:World}{B p k:Nat}{P:List (List In)}{nm:Option (List (List UInt8))}(h:FrIs w B p k P nm):
 ∃g c d A n c' ps td,Fr w B p k g c d A n c' nm.isSome ps td P∧td.map (·.toList)=nm.getD []:=by
 obtain⟨g,c,d,ps,A,n,c',td,h1,h2,h3,h4,h5,h6,h7,h8,h9,h10,h11,h12⟩:=h;exact⟨g,c,d,A,n,c',ps,td,⟨h1,h2,h3,h4,h5,h6,h7,h8,h9,h11,h12⟩,h10⟩
section
variable{w w':World}{B p k g c d:Nat}{A:Option Addr}{n c':Nat}{tl:Bool}{ps:List Pl}{td:List ByteArray}{P:List (List In)}
theorem Fr.is{nm:Option (List (List UInt8))}(h:Fr w B p k g c d A n c' tl ps td P)(ht:tl=nm.isSome)(hn:td.map (·.toList)=nm.getD []):FrIs w B p k P nm:=by
 subst ht;exact⟨g,c,d,ps,A,n,c',td,h.base,h.len,h.d8,h.blk,h.own,h.told,h.pl,h.nd,h.at_,hn,h.tlen,h.nk⟩
theorem Fr.lt(h:Fr w B p k g c d A n c' tl ps td P):p<w.heap.size:=heap_lt h.blk
theorem Fr.size(h:Fr w B p k g c d A n c' tl ps td P):B≤w.heap.size:=by have:=h.base;have:=h.lt;omega
theorem Fr.c0(h:Fr w B p k g c d A n c' tl ps td P):w.cell? ⟨p,0,none⟩=some (.slice (some ⟨g,0,none⟩) (d+1) c):=cell_of_row w p 0 _ _ (0,0) h.blk
theorem Fr.c1(h:Fr w B p k g c d A n c' tl ps td P):w.cell? ⟨p,1,none⟩=some (.bool tl):=cell_of_row w p 1 _ _ (0,0) h.blk
theorem Fr.c2(h:Fr w B p k g c d A n c' tl ps td P):w.cell? ⟨p,2,none⟩=some (.slice A n c'):=cell_of_row w p 2 _ _ (0,0) h.blk
theorem Fr.frozen(h:Fr w B p k g c d A n c' tl ps td P)(i:Nat):w.frozen? ⟨p,i,none⟩=false:=by simp[World.frozen?,h.blk]
theorem Fr.below(h:Fr w B p k g c d A n c' tl ps td P)(b:Below w.heap.size w w'):Fr w' B p k g c d A n c' tl ps td P:=
 ⟨h.base,h.len,h.d8,(b.block p h.lt).trans h.blk,h.own.below b (Zl),h.told.below b (Zl),h.pl,h.nd,fun i h1 h2=>by
  obtain⟨e1,e2,s,e3⟩:=h.at_ i h1 h2;exact⟨e1,e2,s,e3.below b e3.lt⟩,h.tlen,h.nk⟩
theorem Fr.mono(h:Fr w B p k g c d A n c' tl ps td P){k':Nat}(hk:k≤k'):Fr w B p k' g c d A n c' tl ps td P:=
 ⟨h.base,h.len,h.d8,h.blk,h.own,h.told,h.pl,h.nd,fun i h1 h2=>by
  obtain⟨e1,e2,s,e3⟩:=h.at_ i h1 h2;exact⟨e1,e2,s,e3.mono hk⟩,h.tlen,by have:=h.nk;omega⟩
theorem Fr.ne_own(h:Fr w B p k g c d A n c' tl ps td P):g≠p:=by
 rintro rfl;obtain⟨x,hx⟩:=h.own.ty (g:=g) rfl;exact heap_ne hx h.blk (by decide) rfl
theorem Fr.ne_told(h:Fr w B p k g c d A n c' tl ps td P){j:Nat}(hj:(Value.slice A n c').ownBlock=some j):j≠p:=by
 rintro rfl;obtain⟨x,hx⟩:=h.told.ty hj;exact heap_ne hx h.blk (by decide) rfl
theorem Fr.ne_map(h:Fr w B p k g c d A n c' tl ps td P){i:Nat}(h1:i<ps.length):ps[i].m≠p∧ps[i].m≠g∧∀j,(Value.slice A n c').ownBlock=some j→ps[i].m≠j:=by
 obtain⟨_,_,s,M⟩:=h.at_ i h1 (by have:=h.len;have:=h.pl;omega);obtain⟨es,cl,hb⟩:=M.blk;refine⟨map_ne hb h.blk,?_,fun j hj=>?_⟩
 ·obtain⟨x,hx⟩:=h.own.ty (g:=g) rfl;exact map_ne hb hx
 ·obtain⟨x,hx⟩:=h.told.ty hj;exact map_ne hb hx
theorem Fr.maps_kept(h:Fr w B p k g c d A n c' tl ps td P)(hb:∀i (h:i<ps.length),w'.heap[ps[i].m]? = w.heap[ps[i].m]?):
 ∀i (h:i<ps.length) (h2:i<P.length),B≤ps[i].m∧ps[i].sk=skB P[i]∧∃s,MapIs Tryz.prog 9 w' ps[i].m k s (keysF P[i]):=fun i h1 h2=>by
 obtain⟨e1,e2,s,e3⟩:=h.at_ i h1 h2;exact⟨e1,e2,s,e3.kept (hb i h1)⟩
theorem Fr.tell{a:ByteArray}{A2:Option Addr}{n2 c2:Nat}(h:Fr w B p k g c d A n c' tl ps td P)(hg:w.grownBy w' (Value.slice A n c').ownBlock)(ho:kStr.Own w' B (.slice A2 n2 c2) (td++[a]))(hn2:n2=n+1):
 Fr (w'.setCell ⟨p,2,none⟩ (.slice A2 n2 c2)) B p (k+1) g c d A2 n2 c2 tl ps (td++[a]) P∧Below B w (w'.setCell ⟨p,2,none⟩ (.slice A2 n2 c2)):=by
 have b1:But (fun j=>(Value.slice A n c').ownBlock=some j) w w':=But.of_grown hg (fun i hi _=>hi);have hp:w'.heap[p]? = _:=(b1.block p h.lt (fun e=>h.ne_told e rfl)).trans h.blk;have b2:But (fun j=>(Value.slice A n c').ownBlock=some j∨j=p) w (w'.setCell ⟨p,2,none⟩ (.slice A2 n2 c2)):=But.setCell (b1.mono fun _ _ e=> .inl e) (fun _=> .inr rfl) _;have hgt:(Value.slice A n c').ownBlock≠some g:=fun e=>by
  obtain⟨x,hx⟩:=h.own.ty (g:=g) rfl;obtain⟨y,hy⟩:=h.told.ty e;exact heap_ne hx hy (by decide) rfl
 have hs:=h.size;refine⟨(Fr.mk h.base h.len h.d8 (heap_set hp 2 _) ?_ ?_ h.pl h.nd ?_ (by rw[List.length_append,h.tlen,hn2];rfl) (by have:=h.nk;omega)),?_⟩
 ·exact h.own.but b2 fun j hj e=>by
   have:j=g:=(Option.some.inj hj).symm;subst this;rcases e with e|e
   ·exact hgt e
   ·exact h.ne_own e
 ·exact ho.keep fun j hj=>Below.heap_setCell _ _ _ _ (by
   rintro rfl;obtain⟨x,hx⟩:=ho.ty hj;exact heap_ne hx hp (by decide) rfl)
 ·have:=(h.mono (Nat.le_succ k)).maps_kept (w':=w'.setCell ⟨p,2,none⟩ (.slice A2 n2 c2)) (fun i h1=>by
   obtain⟨_,_,s,M⟩:=h.at_ i h1 (by have:=h.len;have:=h.pl;omega);refine b2.block _ M.lt ?_;rintro(e|e)
   ·exact(h.ne_map h1).2.2 _ e rfl
   ·exact(h.ne_map h1).1 e)
  exact this
 ·refine b2.to_below (fun i hi e=>?_) hs;rcases e with e|rfl
  ·exact(h.told.lt e).1
  ·exact h.base
theorem Fr.turn(h:Fr w B p k g c d A n c' tl ps td P)(t2:Bool):
 Fr ((w.setCell ⟨p,1,none⟩ (.bool t2)).setCell ⟨p,2,none⟩ (.slice none 0 0)) B p k g c d none 0 0 t2 ps [] P∧Below B w ((w.setCell ⟨p,1,none⟩ (.bool t2)).setCell ⟨p,2,none⟩ (.slice none 0 0)):=by
 have b2:But (fun j=>j=p) w ((w.setCell ⟨p,1,none⟩ (.bool t2)).setCell ⟨p,2,none⟩ (.slice none 0 0)):=But.setCell (p:=⟨p,2,none⟩) (But.setCell (p:=⟨p,1,none⟩) (But.refl (fun j=>j=p) w) (fun _=>rfl) _) (fun _=>rfl) _;refine⟨(Fr.mk h.base h.len h.d8 (heap_set (heap_set h.blk 1 _) 2 _) ?_ (Kind.Own.nil _ _ _) h.pl h.nd ?_ rfl (Nat.zero_le _)),b2.to_below (fun i _ e=>by subst e;exact h.base) h.size⟩
 ·exact h.own.but b2 fun j hj e=>by
   have:j=g:=(Option.some.inj hj).symm;subst this;exact h.ne_own e
 ·exact h.maps_kept (fun i h1=>by
   obtain⟨_,_,s,M⟩:=h.at_ i h1 (by have:=h.len;have:=h.pl;omega);exact b2.block _ M.lt (h.ne_map h1).1)
theorem nodup_at{l:List Nat}(h:l.Nodup){i j:Nat}(hi:i<l.length)(hj:j<l.length)(e:l[i]=l[j]):i=j:=by
 rcases Nat.lt_trichotomy i j with h1|h1|h1
 ·exact absurd e (List.pairwise_iff_getElem.1 h i j hi hj h1)
 ·exact h1
 ·exact absurd e.symm (List.pairwise_iff_getElem.1 h j i hj hi h1)
theorem set_last{α:Type}{l:List α}{d:Nat}(h:l.length=d+1)(y:α):l.dropLast++[y]=l.set d y:=by
 refine List.ext_getElem (by simp[h]) fun i h1 h2=>?_
 rw[List.getElem_set];have h3:i<d+1:=(by simpa[h] using h2);by_cases e:d=i
 ·subst e;rw[if_pos rfl,List.getElem_append_right (by simp[h])];simp[h]
 ·rw[if_neg e,List.getElem_append_left (by simp[h];omega),List.getElem_dropLast]
def lastX(P:List (List In))(x:In):List (List In):=P.dropLast++[lastP P++[x]]
theorem lastX_len(h:P.length=d+1)(x:In):(lastX P x).length=d+1:=by simp[lastX,h]
theorem lastX_at(h:P.length=d+1)(x:In){i:Nat}(h2:i<(lastX P x).length):(lastX P x)[i]=if h3:d=i then P[i]'(by omega)++[x] else P[i]'(by rw[lastX_len h] at h2;omega):=by
 have e:lastX P x=P.set d (lastP P++[x]):=(by rw[lastX];exact set_last h _);rw[List.getElem_of_eq e,List.getElem_set];by_cases hd:d=i
 ·subst hd;rw[if_pos rfl,dif_pos rfl,lastP_at h]
 ·rw[if_neg hd,dif_neg hd]
theorem skB_snoc{L:List In}{x:In}(h:x.op≠7):skB (L++[x])=skB L:=by
 unfold skB;rw[List.any_append,List.any_cons,List.any_nil,Bool.or_false,decide_eq_false h,Bool.or_false]
theorem skB_seven{L:List In}{x:In}(h:x.op=7):skB (L++[x])=true:=by
 unfold skB;rw[List.any_append,List.any_cons,decide_eq_true h];simp
theorem Fr.put_none{x:In}(h:Fr w B p k g c d A n c' tl ps td P)(hk:keyedB x=false)(h7:x.op≠7):Fr w B p k g c d A n c' tl ps td (lastX P x):=by
 refine Fr.mk h.base (lastX_len h.len x) h.d8 h.blk h.own h.told h.pl h.nd (fun i h1 h2=>?_) h.tlen h.nk;obtain⟨e1,e2,s,e3⟩:=h.at_ i h1 (by rw[lastX_len h.len] at h2;have:=h.len;omega);rw[lastX_at h.len x h2];split
 ·rw[skB_snoc h7,keysF_not hk];exact⟨e1,e2,s,e3⟩
 ·exact⟨e1,e2,s,e3⟩
theorem Fr.map(h:Fr w B p k g c d A n c' tl ps td P):∃s,MapIs Tryz.prog 9 w (ps[d]'(by have:=h.pl;omega)).m k s (keysF (lastP P)):=by
 obtain⟨_,_,s,M⟩:=h.at_ d (by have:=h.pl;omega) (by have:=h.len;omega);rw[lastP_at h.len];exact⟨s,M⟩
theorem Fr.put_key{x:In}{s':Nat}(h:Fr w B p k g c d A n c' tl ps td P)(h7:x.op≠7)(hg:w.grownBy w' (some (ps[d]'(by have:=h.pl;omega)).m))(hm:MapIs Tryz.prog 9 w' (ps[d]'(by have:=h.pl;omega)).m (k+1) s' (keysF (lastP P++[x]))):
 Fr w' B p (k+1) g c d A n c' tl ps td (lastX P x)∧Below B w w':=by
 have hd:d<ps.length:=(by have:=h.pl;omega);have b1:But (fun j=>j=ps[d].m) w w':=But.of_grown hg (fun i hi _=>(Option.some.inj hi).symm);obtain⟨hB,_,_,_⟩:=h.at_ d hd (by have:=h.len;omega);refine⟨Fr.mk h.base (lastX_len h.len x) h.d8 ((b1.block p h.lt (fun e=>(h.ne_map hd).1 e.symm)).trans h.blk) (h.own.but b1 fun j hj e=>?_) (h.told.but b1 fun j hj e=>(h.ne_map hd).2.2 j hj e.symm) h.pl h.nd (fun i h1 h2=>?_) h.tlen (by have:=h.nk;omega),b1.to_below (fun i _ e=>by subst e;exact hB) h.size⟩
 ·have:j=g:=(Option.some.inj hj).symm;subst this;exact(h.ne_map hd).2.1 e.symm
 ·obtain⟨e1,e2,s,e3⟩:=h.at_ i h1 (by rw[lastX_len h.len] at h2;have:=h.len;omega);rw[lastX_at h.len x h2];split
  ·rename_i e;subst e;rw[lastP_at h.len] at hm;rw[skB_snoc h7];exact⟨e1,e2,s',hm⟩
  ·rename_i e;refine⟨e1,e2,s,(e3.mono (Nat.le_succ k)).kept (b1.block _ e3.lt ?_)⟩;intro e5;have hnd:=h.nd;refine e ?_;have e6:(ps.map Pl.m)[i]'(by simpa using h1)=(ps.map Pl.m)[d]'(by simpa using hd):=(by simpa using e5);exact(nodup_at hnd (by simpa using h1) (by simpa using hd) e6).symm
theorem pl_cells_set:∀(l:List Pl) (i:Nat) (h:i<l.length),kPl.cells (l.set i ⟨l[i].m,true⟩)=(kPl.cells l).set (i*2+1) (.bool true)
 |[],i,h=>by simp at h
 |a:: l,0,_=>by simp[Kind.cells,kPl]
 |a:: l,i+1,h=>by
  have ih:=pl_cells_set l i (by simpa using h);have e:∀(a:Pl) (l:List Pl),kPl.cells (a:: l) = .map (some a.m):: .bool a.sk:: kPl.cells l:=fun a l=>rfl
  rw[List.set_cons_succ,e,e,show(i+1)*2+1=(i*2+1)+1+1 by omega,List.set_cons_succ,List.set_cons_succ,←ih];rfl
theorem Fr.skip{x:In}(h:Fr w B p k g c d A n c' tl ps td P)(h7:x.op=7):
 Fr (w.setCell ⟨g,d*2+1,none⟩ (.bool true)) B p (k+1) g c d A n c' tl (ps.set d ⟨(ps[d]'(by have:=h.pl;omega)).m,true⟩) td (lastX P x)∧Below B w (w.setCell ⟨g,d*2+1,none⟩ (.bool true)):=by
 have hd:d<ps.length:=(by have:=h.pl;omega);have b1:But (fun j=>j=g) w (w.setCell ⟨g,d*2+1,none⟩ (.bool true)):=But.setCell (p:=⟨g,d*2+1,none⟩) (But.refl (fun j=>j=g) w) (fun _=>rfl) _;have hk:keyedB x=false:=(by simp[keyedB,makesO,h7]);have hgB:B≤g:=(h.own.lt (g:=g) rfl).1;have em:(ps.set d ⟨ps[d].m,true⟩).map Pl.m=ps.map Pl.m:=by
  refine List.ext_getElem (by simp) fun i h1 h2=>?_
  rw[List.getElem_map,List.getElem_map,List.getElem_set];split
  ·rename_i e;subst e;rfl
  ·rfl
 refine⟨Fr.mk h.base (lastX_len h.len x) h.d8 ((b1.block p h.lt (fun e=>h.ne_own e.symm)).trans h.blk) ?_ (h.told.but b1 fun j hj e=>?_) (by rw[List.length_set];exact h.pl) (by rw[em];exact h.nd) (fun i h1 h2=>?_) h.tlen (by have:=h.nk;omega),b1.to_below (fun i _ e=>by subst e;exact hgB) h.size⟩
 ·exact h.own.set_ h.pl (by rw[List.length_set]) (pl_cells_set ps d hd)
 ·subst e;obtain⟨x,hx⟩:=h.own.ty (g:=j) rfl;obtain⟨y,hy⟩:=h.told.ty hj;exact heap_ne hx hy (by decide) rfl
 ·have h1':i<ps.length:=(by rw[List.length_set] at h1;exact h1);obtain⟨e1,e2,s,e3⟩:=h.at_ i h1' (by rw[lastX_len h.len] at h2;have:=h.len;omega);have e4:MapIs Tryz.prog 9 (w.setCell ⟨g,d*2+1,none⟩ (.bool true)) ps[i].m (k+1) s (keysF (P[i]'(by rw[lastX_len h.len] at h2;have:=h.len;omega))):=(e3.mono (Nat.le_succ k)).kept (b1.block _ e3.lt (h.ne_map h1').2.1);rw[lastX_at h.len x h2];by_cases e:d=i
  ·subst e;rw[dif_pos rfl,skB_seven h7,keysF_not hk,List.getElem_set_self];exact⟨e1,rfl,s,e4⟩
  ·rw[dif_neg e,List.getElem_set_ne e];exact⟨e1,e2,s,e4⟩
theorem Fr.push{g2 c2 n2 m:Nat}(h:Fr w B p k g c d A n c' tl ps td P)(hd7:d≤7)(hg:w.grownBy w' (some g))(ho:kPl.Own w' B (.slice (some ⟨g2,0,none⟩) n2 c2) (ps++[⟨m,false⟩]))(hn2:n2=d+1+1)
 (hm:MapIs Tryz.prog 9 w m 0 0 (fun _=>none)) (hmB:B≤m) (hnew:∀i (h:i<ps.length),ps[i].m≠m):
 Fr (w'.setCell ⟨p,0,none⟩ (.slice (some ⟨g2,0,none⟩) n2 c2)) B p k g2 c2 (d+1) A n c' tl (ps++[⟨m,false⟩]) td (P++[[]])∧Below B w (w'.setCell ⟨p,0,none⟩ (.slice (some ⟨g2,0,none⟩) n2 c2)):=by
 subst hn2;have b1:But (fun j=>j=g) w w':=But.of_grown hg (fun i hi _=>(Option.some.inj hi).symm);have hp:w'.heap[p]? = _:=(b1.block p h.lt (fun e=>h.ne_own e.symm)).trans h.blk;have b2:But (fun j=>j=g∨j=p) w (w'.setCell ⟨p,0,none⟩ (.slice (some ⟨g2,0,none⟩) (d+1+1) c2)):=But.setCell (b1.mono fun _ _ e=> .inl e) (fun _=> .inr rfl) _;have hgB:B≤g:=(h.own.lt (g:=g) rfl).1;have hmne:m≠p∧m≠g:=by
  obtain⟨es,cl,hb⟩:=hm.blk;refine⟨map_ne hb h.blk,?_⟩;obtain⟨x,hx⟩:=h.own.ty (g:=g) rfl;exact map_ne hb hx
 refine⟨Fr.mk h.base (by rw[List.length_append,h.len];rfl) (by omega) (heap_set hp 0 _) (ho.keep fun j hj=>?_) (h.told.but b2 fun j hj e=>?_) (by rw[List.length_append,h.pl];rfl) ?_ (fun i h1 h2=>?_) h.tlen h.nk,b2.to_below (fun i _ e=>?_) h.size⟩
 ·refine Below.heap_setCell _ _ _ _ ?_;rintro rfl;obtain⟨x,hx⟩:=ho.ty hj;exact heap_ne hx hp (by decide) rfl
 ·rcases e with e|e
  ·subst e;obtain⟨x,hx⟩:=h.own.ty (g:=j) rfl;obtain⟨y,hy⟩:=h.told.ty hj;exact heap_ne hx hy (by decide) rfl
  ·exact h.ne_told hj e
 ·rw[List.map_append,List.nodup_append];refine⟨h.nd,by simp,fun a ha b hb=>?_⟩;obtain⟨i,hi,rfl⟩:=List.mem_iff_getElem.1 ha;simp only[List.map_cons,List.map_nil,List.mem_singleton] at hb;subst hb;rw[List.getElem_map];exact hnew i (by simpa using hi)
 ·by_cases hi:i<ps.length
  ·have hi2:i<P.length:=(by have:=h.len;have:=h.pl;omega);obtain⟨e1,e2,s,e3⟩:=h.at_ i hi hi2;rw[List.getElem_append_left hi,List.getElem_append_left hi2];refine⟨e1,e2,s,e3.kept (b2.block _ e3.lt ?_)⟩;rintro(e|e)
   ·exact(h.ne_map hi).2.1 e
   ·exact(h.ne_map hi).1 e
  ·have hi2:¬i<P.length:=(by have:=h.len;have:=h.pl;omega);rw[List.getElem_append_right (by omega),List.getElem_append_right (by omega)];have h0:i-ps.length=0:=(by rw[List.length_append] at h1;simp only[List.length_cons,List.length_nil] at h1;omega);have h0':i-P.length=0:=(by have:=h.len;have:=h.pl;omega);simp only[h0,h0',List.getElem_cons_zero];refine⟨hmB,rfl,0,?_⟩;rw[keysF_nil];exact(hm.mono (Nat.zero_le k)).kept (b2.block _ hm.lt (fun e=>e.elim hmne.2 hmne.1))
 ·rcases e with rfl|rfl
  ·exact hgB
  ·exact h.base
theorem own_form{α:Type}{Pr:Program}{K:Kind Pr α}{w:World}{B:Nat}{v:Value}{l:List α}(h:K.Own w B v l)(hl:0<l.length):∃g n c,v = .slice (some ⟨g,0,none⟩) n c∧l.length=n:=by
 rcases h.form with⟨_,rfl⟩|⟨g,c,_,hv,_⟩
 ·simp at hl
 ·exact⟨g,_,c,hv,rfl⟩
theorem Fr.cap(h:Fr w B p k g c d A n c' tl ps td P):d+1≤c:=by
 obtain⟨A',n',c9,hv,e1,e2,_,_,_⟩:=h.own.slice;injection hv with h1 h2 h3;subst h2;subst h3;exact e2
theorem Fr.place(h:Fr w B p k g c d A n c' tl ps td P):w.cell? ⟨g,d*2,none⟩=some (.map (some (ps[d]'(by have:=h.pl;omega)).m))∧w.cell? ⟨g,d*2+1,none⟩=some (.bool (ps[d]'(by have:=h.pl;omega)).sk)∧w.frozen? ⟨g,d*2+1,none⟩=false:=by
 obtain⟨h1,h2,_⟩:=place_cells h.own (i:=d) (by have:=h.pl;omega);obtain⟨x,hx⟩:=h.own.ty (g:=g) rfl;exact⟨h1,h2,by simp[World.frozen?,hx]⟩
theorem Fr.pop{e:Nat}(h:Fr w B p k g c e A n c' tl ps td P)(he:e=d+1):
 Fr (w.setCell ⟨p,0,none⟩ (.slice (some ⟨g,0,none⟩) e c)) B p k g c d A n c' tl (ps.take e) td P.dropLast∧Below B w (w.setCell ⟨p,0,none⟩ (.slice (some ⟨g,0,none⟩) e c)):=by
 subst he;have b1:But (fun j=>j=p) w (w.setCell ⟨p,0,none⟩ (.slice (some ⟨g,0,none⟩) (d+1) c)):=But.setCell (p:=⟨p,0,none⟩) (But.refl (fun j=>j=p) w) (fun _=>rfl) _;have hpl:=h.pl;have hln:=h.len;refine⟨Fr.mk h.base (by rw[List.length_dropLast,hln];rfl) (by have:=h.d8;omega) (heap_set h.blk 0 _) ((own_cut h.own (by omega)).but b1 fun j hj e=>?_) (h.told.but b1 fun j hj e=>h.ne_told hj e) (by rw[List.length_take];omega) (by rw[List.map_take];exact(List.take_sublist _ _).nodup h.nd) (fun i h1 h2=>?_) h.tlen h.nk,b1.to_below (fun i _ e=>by subst e;exact h.base) h.size⟩
 ·have:j=g:=(Option.some.inj hj).symm;subst this;exact h.ne_own e
 ·have hi:i<ps.length:=(by rw[List.length_take] at h1;omega);obtain⟨e1,e2,s,e3⟩:=h.at_ i hi (by omega);rw[List.getElem_take,List.getElem_dropLast];exact⟨e1,e2,s,e3.kept (b1.block _ e3.lt (h.ne_map hi).1)⟩
end
theorem step_store{P:Program}{ops:Array Oper}{o:Oper}{act:Act}{Kk:Act→World→Prop}{Q:Exit→Act→World→Prop}{E:Prop}{w:World}{kt:TypeId}{b n s:Nat}{f:Lit→Option Value}(hg:o.guard=none)(m x v:Operand){t e:TypeId}(hop:o.op=Op.mapUpdate t m x v)(K:Go.Maps.Keyed P kt)(ht:P.underlying t=some (.map kt e))
 (hm:act.eval m = .map (some b)) (h:MapIs P kt w b n s f) (hn:n<maxLen) {key val:Value} {l:Lit} (hx:act.eval x=key) (hv:act.eval v=val) (hkey:keyOf P kt key=some l) {f':Lit→Option Value} (hf:PutF f f' l (some val))
 (hK:∀w',MapIs P kt w' b (n+1) (if(f l).isSome then s else s+1) f'→w.grownBy w' (some b)→Kk (act.put o.dst undef) w'):if Region.wanted o (yielded ops act.tmps)=true then Oper.wp P o act w Kk Q else E:=by
 have hw:Region.wanted o (yielded ops act.tmps)=true:=(by simp[Region.wanted,hg]);rw[if_pos hw];obtain⟨w',hrun,r1,r2⟩:=h.store K ht hn hkey hf;unfold Oper.wp;simp[execOp,hop,hm,hx,hv,hrun,Result.andThen];exact hK w' r1 r2
theorem Fr.below_of{w w1 w2:World}{B p k g c d:Nat}{A:Option Addr}{n c':Nat}{tl:Bool}{ps:List Pl}{td:List ByteArray}{P:List (List In)}{r:Option Nat}(h:Fr w B p k g c d A n c' tl ps td P)(b:Below w.heap.size w w1)(_:w1.grownBy w2 r):
 Fr w1 B p k g c d A n c' tl ps td P∧Below w.heap.size w w1:=⟨h.below b,b⟩
def Took(w:World)(B p k:Nat)(P:List (List In))(nm:Option (List (List UInt8)))(e:Ending)(w':World):Prop:=e = .returned (.tuple #[])∧FrIs w' B p k P nm∧Below B w w'
theorem stepP_open{P:List (List In)}{x:In}(h:x.op=1):stepP P x=lastX P x++[[]]:=by rw[stepP,if_pos h,lastX,lastP,List.append_assoc];rfl
theorem stepP_close{P:List (List In)}{x:In}(h:x.op=2):stepP P x=P.dropLast:=by rw[stepP,if_neg (by omega),if_pos h]
theorem stepP_other{P:List (List In)}{x:In}(h:x.op≠1)(h':x.op≠2):stepP P x=lastX P x:=by rw[stepP,if_neg h,if_neg h'];rfl
theorem take_any{w:World}{B p k:Nat}{P:List (List In)}{nm:Option (List (List UInt8))}(h:FrIs w B p k P nm)(hk:k≤1000)(i:In)(ha:i.a.size≤300)(hb:i.b.size≤300)(hw:wrongV P nm i=0):
 Calls Tryz.prog 60 #[.pointer (some ⟨p,0,none⟩),.agg #[.int .i64 i.op,.string i.a,.string i.b]] w (Took w B p (k+1) (stepP P i) (stepN nm i)):=by
 obtain⟨op,a,b⟩:=i;have ha:a.size≤300:=ha;have hb:b.size≤300:=hb;obtain⟨g,c,d,A,n,c',ps,td,F,HTD⟩:=h.fr;have hwc:=wrong_code (nm:=nm) F.len F.d8 ⟨op,a,b⟩;rw[hw] at hwc;simp only at hwc;have hT:tellsO op=true→∃ns,nm=some ns:=fun e=>by
  cases nm with
  |some ns=>exact⟨ns,rfl⟩
  |none=>
   exfalso;rw[attrN_none,e] at hwc;unfold codeF at hwc;split at hwc<;>cases hwc
 have hT2:tellsO op=true→op≠7∧op≠1∧op≠2∧keyedB ⟨op,a,b⟩=false:=fun e=>by
  simp only[tellsO,decide_eq_true_eq] at e;refine⟨by omega,by omega,by omega,?_⟩;simp only[keyedB,makesO];rw[decide_eq_false (by omega)];rfl
 have hO:op=1→d≤7:=fun e=>by
  have:=F.d8;subst e;rcases Nat.lt_or_ge d 8 with h8|h8
  ·omega
  ·exfalso;obtain rfl:d=8:=by omega
   unfold codeF at hwc;simp[tellsO] at hwc;split at hwc
   ·cases hwc
   ·split at hwc
    ·cases hwc
    ·split at hwc<;>cases hwc
 have hC:op=2→∃d',d=d'+1:=fun e=>by
  subst e;rcases Nat.eq_zero_or_pos d with h0|h0
  ·exfalso;subst h0;unfold codeF at hwc;simp[tellsO] at hwc;split at hwc<;>cases hwc
  ·exact⟨d-1,by omega⟩
 clear hwc hw h;have HT:=Zh hT;have HT2:=Zh hT2;have HO:=Zh hO;have HC:=Zh hC;have HTD:=Zh HTD;have HKEY:Hid (keyOf Tryz.prog 9 (.string b)=some (.string b.toList)):=Zh (by rw[ByteArray.toList_eq];exact Go.WideMaps.keyOf_string_mk Tryz.underlying9 (by unfold maxLen;omega));have hk2:k<maxLen:=(by unfold maxLen;omega);clear hT hT2 hO hC ha hb;have B1:Hid (Below w.heap.size w (w.alloc (.cells #[.int .i64 op,.string a,.string b] 76))):=Zh (Zb _ _);have N1:Hid (XB (w.alloc (.cells #[.int .i64 op,.string a,.string b] 76)) w.heap.size ⟨op,a,b⟩):=Zh (XB.new w ⟨op,a,b⟩);have F1:=Zh (F.below B1.out);have hBw:=F.size;have hxw:w.heap.size≤w.heap.size:=Zl;clear F;go_enter Tryz.func60,Tryz.ntmps60;go_upto_region 1 with fail;have BB:=Zh (B1.out.mono hBw);generalize w.alloc (.cells #[.int .i64 op,.string a,.string b] 76)=W at BB N1 F1⊢;obtain⟨x,hx⟩:∃x,x=w.heap.size:=⟨_,rfl⟩;rw[←hx] at N1⊢;have hxB:B≤x:=(by omega);clear hx hxw B1;have c0:=N1.out.c0;have c1:=N1.out.c1;have c2:=N1.out.c2;simp only at c0 c1 c2;go_wp2_with fail;cases hbt:tellsO op with
 |true=>
  obtain⟨ns,hns⟩:=HT.out hbt;subst hns;obtain⟨h7,h1,h2,hkb⟩:=HT2.out hbt;have HP:Hid (stepP P ⟨op,a,b⟩=lastX P ⟨op,a,b⟩):=Zh (stepP_other h1 h2);have HN:Hid (stepN (some ns) ⟨op,a,b⟩=some (ns++[a.toList])):=Zh (by rw[stepN_tells hbt];rfl);have F2:=Zh (F1.out.put_none (x:=⟨op,a,b⟩) hkb h7);refine(tells_at op _ hbt).mono ?_;rintro e w' ⟨rfl,rfl⟩;have d2:=F2.out.c2;have f2:=F2.out.frozen 2;have hxp:x≠p:=fun e=>heap_ne (show W.heap[x]? = _ from N1.out) (e▸F2.out.blk) (by decide) rfl
  have htn:=F2.out.tlen;have hnk:=F2.out.nk;have hxt:(Value.slice A n c').ownBlock≠some x:=fun e=>by
   obtain⟨y,hy⟩:=F2.out.told.ty e;exact heap_ne hy (show W.heap[x]? = _ from N1.out) (by decide) rfl
  clear h1 h2 h7 hkb hbt;go_upto_region 2 with fail;refine Tl.region_last (S:=(fun w'=>w'.cell? ⟨p,2,none⟩=some (.slice A n c')∧w'.cell? ⟨x,1,none⟩=some (.string a))) (by kernel_rfl) 11 _ rfl rfl rfl (by kernel_rfl) (by first|go_keep|exact⟨d2,c1⟩) (fun hHeld=>?_);simp only[List.setIfInBounds_toArray,List.set_cons_zero,List.set_cons_succ,Tl.idle];refine Zn 0 ?_;refine Zn 1 ?_;refine Zn 2 ?_;refine Zn 3 ?_;refine Zn 4 ?_;refine Zn 5 ?_;refine Zn 6 ?_;refine Zr [7] ?_;refine AllReadyH.cons rfl (fun K hK=>?_) ?_
  ·go_simp;refine hK.out _ _ ?_ (fun hHeld=>?_)
   ·go_keep
   clear hK K;(try simp only[Zs]);refine Zr [8] ?_;refine AllReadyH.cons rfl (fun K hK=>?_) ?_
   ·refine kStr.step_app rfl (.tmp 11) (.tmp 14) rfl (v:=.slice A n c') (l:=td) (m:=[a]) (B:=B) (A:=some ⟨W.heap.size,0,none⟩) (n:=1) (c:=1) rfl (F2.out.told.below (by first|exact(Ze.drew).alloc (Zl) _|exact(Zb _ _).drew|exact Zb _ _) (Zl)) rfl rfl (fun e=>by cases e) (Kind.Holds.lit (heap_alloc_new _ _) rfl) (by simp;omega) (by have:=F2.out.size;simp;omega) ?_;intro v7 w7 hown7 hgrow7 hat7;obtain⟨A7,n7,c7,rfl,hl7,_,_,_,_⟩:=hown7.slice;have b5:=Fr.below_of F2.out (by first|exact(Ze.drew).alloc (Zl) _|exact(Zb _ _).drew|exact Zb _ _) hgrow7;have T7:=Zh (Fr.tell b5.1 hgrow7 hown7 (by rw[←hl7,List.length_append,htn];rfl));have hp7:=(hgrow7.block p (by have:=F2.out.lt;simp;omega) (fun e=>F2.out.ne_told e.symm rfl)).trans b5.1.blk;have e7:w7.cell? ⟨p,2,none⟩=some (.slice A n c'):=cell_of_row w7 p 2 _ _ (0,0) hp7;have f7:w7.frozen? ⟨p,2,none⟩=false:=(by simp[World.frozen?,hp7]);have x7:w7.cell? ⟨x,1,none⟩=some (.string a):=cell_of_row w7 x 1 _ _ (0,0) ((hgrow7.block x (by have:=N1.out.lt;simp;omega) (fun e=>hxt e.symm)).trans ((b5.2.block x N1.out.lt).trans N1.out));have B7:Hid (Below B w (w7.setCell ⟨p,2,none⟩ (.slice A7 n7 c7))):=Zh ((BB.out.trans (b5.2.mono F2.out.size)).trans T7.out.2);clear hown7 hgrow7 hat7 hp7 b5 hl7;refine hK.out _ _ ?_ (fun hHeld=>?_)
    ·exact⟨e7,x7⟩
    clear hK K;(try simp only[Zs]);refine Zn 9 ?_;refine Zn 10 ?_;refine Zn 11 ?_;refine wpAnyH_done (by kernel_rfl) ?_ _;intro K hK;go_simp;refine hK _ _ ?_;clear hK K;go_wp2_with fail
    go_end0
    exact⟨rfl,(by rw[HP.out,HN.out];exact Fr.is T7.out.1 rfl (by rw[List.map_append];have:=HTD.out;simp only[Option.getD_some] at this⊢;rw[this];rfl)),B7.out⟩
   exact AllReadyH.nil
  exact AllReadyH.nil
 |false=>
  clear HT HT2;refine(tells_at op _ hbt).mono ?_;rintro e w' ⟨rfl,rfl⟩;have d1:=F1.out.c1;have d2:=F1.out.c2;have f1:=F1.out.frozen 1;have f2:=F1.out.frozen 2;have hxp:x≠p:=fun e=>heap_ne (show W.heap[x]? = _ from N1.out) (e▸F1.out.blk) (by decide) rfl
  have N2:Hid (XB ((W.setCell ⟨p,1,none⟩ (.bool (makesO op))).setCell ⟨p,2,none⟩ (.slice none 0 0)) x ⟨op,a,b⟩):=Zh (((Below.heap_setCell _ _ _ _ hxp).trans (Below.heap_setCell _ _ _ _ hxp)).trans N1.out);obtain⟨mk,hmk⟩:∃z,makesO op=z:=⟨_,rfl⟩;have HB:Hid (∀w9,Calls Tryz.prog 98 #[.int .i64 op] w9 fun e w'=>e = .returned (.bool mk)∧w9=w'):=Zh (fun w9=>by rw[←hmk];exact begins_any op w9);have F2:=Zh (F1.out.turn mk);rw[hmk] at N2;have BB2:=Zh (BB.out.trans F2.out.2);have HSN:Hid (∃nm',stepN nm ⟨op,a,b⟩=nm'∧mk=nm'.isSome∧nm'.getD []=[]):=Zh (by
   cases mk with
   |true=>exact⟨some [],stepN_makes hmk,rfl,rfl⟩
   |false=>exact⟨none,stepN_other hmk hbt,rfl,rfl⟩)
  clear hmk;go_wp2_with fail;refine(HB.out _).mono ?_;rintro e w' ⟨rfl,rfl⟩;go_upto_region 4 with fail;clear c0 c1 c2 d1 d2 f1 f2 N1 F1 BB;generalize (W.setCell ⟨p,1,none⟩ (.bool mk)).setCell ⟨p,2,none⟩ (.slice none 0 0)=W2 at F2 BB2 N2⊢;obtain⟨nm',hn1,hn2,hn3⟩:=HSN.out;have HN1:=Zh hn1;have HN3:Hid ([]=nm'.getD []):=Zh hn3.symm;have HMK:=Zh hn2;clear hn1 hn2 hn3 HSN HTD HB;have c0:=N2.out.c0;have c1:=N2.out.c1;have c2:=N2.out.c2;simp only at c0 c1 c2;have HKE:Hid (∀w9,Calls Tryz.prog 96 #[.agg #[.int .i64 op,.string a,.string b]] w9 fun e w'=>e = .returned (.bool (keyedB ⟨op,a,b⟩))∧Below w9.heap.size w9 w'):=Zh (fun w9=>keyed_any op a b w9);have HKT:Hid (keyedB ⟨op,a,b⟩=true→op=1∨op=3):=Zh (fun e=>by
   simp only[keyedB,makesO,Bool.and_eq_true,decide_eq_true_eq] at e;exact e.1)
  go_wp2_with fail;refine(HKE.out _).mono ?_;rintro e w3 ⟨rfl,b3⟩;have F3:=Zh (F2.out.1.below b3);have N3:=Zh (N2.out.below b3 N2.out.lt);have BB3:=Zh (BB2.out.trans (b3.mono F2.out.1.size));clear b3 c0 c1 c2 F2 N2 BB2 HKE;have KPUT:Hid (keyedB ⟨op,a,b⟩=true→PutF (keysF (lastP P)) (keysF (lastP P++[⟨op,a,b⟩])) (.string b.toList) (some (.agg #[]))):=Zh (fun e=>keysF_put e);have HH:Hid (∀w9,Below w3.heap.size w3 w9→Calls Tryz.prog 95 #[.pointer (some ⟨p,0,none⟩)] w9 fun e w'=>e = .returned (.pointer (some ⟨g,d*2,none⟩))∧∃j,w'=w9.drewN j):=Zh (fun w9 h9=>here_any p g d c w9 (F3.out.below h9).c0 (by have:=F3.out.d8;omega));have HD:Hid (∀w9,Below w3.heap.size w3 w9→Calls Tryz.prog 61 #[.pointer (some ⟨p,0,none⟩)] w9 fun e w'=>e = .returned (.int .i64 d)∧w9=w'):=Zh (fun w9 h9=>depth_any p d c _ w9 (F3.out.below h9).c0 (by have:=F3.out.d8;omega));have c0:=N3.out.c0;have c1:=N3.out.c1;have c2:=N3.out.c2;simp only at c0 c1 c2;have g0:=F3.out.place.1;have hdl:d<ps.length:=(by have:=F3.out.pl;omega);obtain⟨m,hm⟩:∃m,ps[d].m=m:=⟨_,rfl⟩;rw[hm] at g0;have HM:=Zh hm;clear hm;by_cases h1:op=1
  ·have q1:=int_eq h1;have h7:op≠7:=(by omega);cases hkb:keyedB ⟨op,a,b⟩ with
   |true=>
    go_upto_region 5 with fail;refine Tl.region_last (S:=(fun w'=>w'.cell? ⟨g,d*2,none⟩=some (.map (some m))∧w'.cell? ⟨x,2,none⟩=some (.string b))) (by kernel_rfl) 8 _ rfl rfl rfl (by kernel_rfl) (by first|go_keep|exact⟨g0,c2⟩) (fun hHeld=>?_);simp only[List.setIfInBounds_toArray,List.set_cons_zero,List.set_cons_succ,Tl.idle];refine Zn 0 ?_;refine Zn 5 ?_;refine Zn 6 ?_;refine Zn 7 ?_;refine Zr [1] ?_;refine AllReadyH.cons rfl (fun K hK=>?_) ?_
    ·go_simp;go_at_call 95;refine(HH.out _ (by first|exact Ze|exact Ze.drew)).mono ?_;rintro e w5 ⟨rfl,j5,hw5⟩;have B5:Hid (Below w3.heap.size w3 w5):=Zh (by first|exact hw5▸bl_drewN Ze _|exact hw5▸bl_drewN Ze.drew _);clear hw5;refine hK.out _ _ ?_ (fun hHeld=>?_)
     ·exact⟨(F3.out.below B5.out).place.1.trans (by rw[HM.out]),(N3.out.below B5.out N3.out.lt).c2⟩
     clear hK K;(try simp only[Zs]);refine Zn 2 ?_;refine Zn 3 ?_;refine Zn 4 ?_;refine Zn 8 ?_;refine wpAnyH_done (by kernel_rfl) ?_ _;intro K hK;obtain⟨s5,M5⟩:=(F3.out.below B5.out).map;obtain⟨es5,cl5,hb5⟩:=M5.blk;rw[HM.out] at hb5;refine step_store rfl _ _ _ rfl lawS Tryz.underlying122 (by rw[HM.out] at M5;rfl) (by rw[HM.out] at M5;exact M5) hk2 rfl rfl HKEY.out (KPUT.out hkb) ?_;intro w7 m7 g7;have P7:=Fr.put_key (x:=⟨op,a,b⟩) (F3.out.below B5.out) h7 (by rw[HM.out];exact g7) (by rw[HM.out];exact m7);have F4:=Zh P7.1;have BB4:=Zh ((BB3.out.trans (B5.out.mono F3.out.size)).trans P7.2);have N4:Hid (XB w7 x ⟨op,a,b⟩):=Zh ((g7.block x (N3.out.below B5.out N3.out.lt).lt (fun e=>(map_ne hb5 (N3.out.below B5.out N3.out.lt)) (Option.some.inj e).symm)).trans (N3.out.below B5.out N3.out.lt));refine hK _ _ ?_;clear hK K P7 g7 m7 M5 hb5 c0 c1 c2 g0 F3 N3 BB3;generalize w7=w9 at F4 BB4 N4⊢;have c0:=N4.out.c0;simp only at c0;have d0:=F4.out.c0;have HP:Hid (stepP P ⟨op,a,b⟩=lastX P ⟨op,a,b⟩++[[]]):=Zh (stepP_open h1);go_upto_region 8 with fail;refine Tl.region_last (S:=(fun w'=>w'.cell? ⟨p,0,none⟩=some (.slice (some ⟨g,0,none⟩) (d+1) c))) (by kernel_rfl) 10 _ rfl rfl rfl (by kernel_rfl) (by first|go_keep|exact d0) (fun hHeld=>?_);simp only[List.setIfInBounds_toArray,List.set_cons_zero,List.set_cons_succ,Tl.idle];refine Zn 0 ?_;refine Zn 1 ?_;refine Zn 2 ?_;refine Zn 3 ?_;refine Zn 4 ?_;refine Zr [5] ?_;refine AllReadyH.cons rfl (fun K hK=>?_) ?_
     ·go_simp;go_at_call 58;refine(newPlace_any _).mono ?_;rintro e w5 ⟨m5,rfl,hm5,M5,b5⟩;have B5:Hid (Below w9.heap.size w9 w5):=Zh (by first|exact b5|exact Ze.drew.trans b5);have HM5:Hid (w9.heap.size≤m5):=Zh hm5;have MM5:=Zh M5;have F5:=Zh (F4.out.below B5.out);clear b5 hm5 M5;refine hK.out _ _ ?_ (fun hHeld=>?_)
      ·exact F5.out.c0
      clear hK K;(try simp only[Zs]);refine Zr [6] ?_;refine AllReadyH.cons rfl (fun K hK=>?_) ?_
      ·go_simp;refine hK.out _ _ ?_ (fun hHeld=>?_)
       ·first|go_keep|exact(F5.out.below (by first|exact(Ze.drew).alloc (Zl) _|exact(Zb _ _).drew|exact Zb _ _)).c0
       clear hK K;(try simp only[Zs]);refine Zr [7] ?_;refine AllReadyH.cons rfl (fun K hK=>?_) ?_
       ·refine kPl.step_app rfl (.tmp 45) (.tmp 47) rfl (v:=.slice (some ⟨g,0,none⟩) (d+1) c) (l:=ps) (m:=[⟨m5,false⟩]) (B:=B) (A:=some ⟨w5.heap.size,0,none⟩) (n:=1) (c:=1) rfl (F5.out.own.below (by first|exact(Ze.drew).alloc (Zl) _|exact(Zb _ _).drew|exact Zb _ _) (Zl)) rfl rfl (fun e=>by cases e) (Kind.Holds.lit (heap_alloc_new _ _) rfl) (by have:=F5.out.pl;have:=F5.out.d8;simp;omega) (by have:=F5.out.size;simp;omega) ?_;intro v7 w7 hown7 hgrow7 hat7;obtain⟨g7,n7,c7,rfl,hl7⟩:=own_form hown7 (by simp);have b7:=Fr.below_of F5.out (by first|exact(Ze.drew).alloc (Zl) _|exact(Zb _ _).drew|exact Zb _ _) hgrow7;have T7:=Zh (Fr.push b7.1 (HO.out h1) hgrow7 hown7 (by rw[←hl7,List.length_append,F5.out.pl];rfl) (MM5.out.below b7.2 MM5.out.lt) (by have:=HM5.out;have:=F4.out.size;omega) (fun i hi=>by
         obtain⟨_,_,s,M⟩:=F4.out.at_ i hi (by have:=F4.out.len;have:=F4.out.pl;omega);have:=M.lt;have:=HM5.out;omega))
        have hp7:=(hgrow7.block p (by have:=F5.out.lt;simp;omega) (fun e=>F5.out.ne_own (Option.some.inj e).symm)).trans b7.1.blk;have e7:w7.cell? ⟨p,0,none⟩=some (.slice (some ⟨g,0,none⟩) (d+1) c):=cell_of_row w7 p 0 _ _ (0,0) hp7;have f7:w7.frozen? ⟨p,0,none⟩=false:=(by simp[World.frozen?,hp7]);have B7:Hid (Below B w (w7.setCell ⟨p,0,none⟩ (.slice (some ⟨g7,0,none⟩) n7 c7))):=Zh (((BB4.out.trans (B5.out.mono F4.out.size)).trans (b7.2.mono F5.out.size)).trans T7.out.2);clear hown7 hgrow7 hat7 hp7 b7 hl7;refine hK.out _ _ ?_ (fun hHeld=>?_)
        ·exact e7
        clear hK K;(try simp only[Zs]);refine Zn 8 ?_;refine Zn 9 ?_;refine Zn 10 ?_;refine wpAnyH_done (by kernel_rfl) ?_ _;intro K hK;go_simp;refine hK _ _ ?_;clear hK K;go_wp2_with fail
        go_end0
        exact⟨rfl,(by rw[HP.out,HN1.out];exact Fr.is T7.out.1 HMK.out HN3.out),B7.out⟩
       exact AllReadyH.nil
      exact AllReadyH.nil
     exact AllReadyH.nil
    exact AllReadyH.nil
   |false=>
    have F4:=Zh (F3.out.put_none (x:=⟨op,a,b⟩) hkb h7 |>.mono (Nat.le_succ k));have BB4:=BB3;have N4:=N3;clear c0 c1 c2 g0 F3 N3 BB3;generalize w3=w9 at F4 BB4 N4 HH HD⊢;have c0:=N4.out.c0;simp only at c0;have d0:=F4.out.c0;have HP:Hid (stepP P ⟨op,a,b⟩=lastX P ⟨op,a,b⟩++[[]]):=Zh (stepP_open h1);go_upto_region 8 with fail;refine Tl.region_last (S:=(fun w'=>w'.cell? ⟨p,0,none⟩=some (.slice (some ⟨g,0,none⟩) (d+1) c))) (by kernel_rfl) 10 _ rfl rfl rfl (by kernel_rfl) (by first|go_keep|exact d0) (fun hHeld=>?_);simp only[List.setIfInBounds_toArray,List.set_cons_zero,List.set_cons_succ,Tl.idle];refine Zn 0 ?_;refine Zn 1 ?_;refine Zn 2 ?_;refine Zn 3 ?_;refine Zn 4 ?_;refine Zr [5] ?_;refine AllReadyH.cons rfl (fun K hK=>?_) ?_
    ·go_simp;go_at_call 58;refine(newPlace_any _).mono ?_;rintro e w5 ⟨m5,rfl,hm5,M5,b5⟩;have B5:Hid (Below w9.heap.size w9 w5):=Zh (by first|exact b5|exact Ze.drew.trans b5);have HM5:Hid (w9.heap.size≤m5):=Zh hm5;have MM5:=Zh M5;have F5:=Zh (F4.out.below B5.out);clear b5 hm5 M5;refine hK.out _ _ ?_ (fun hHeld=>?_)
     ·exact F5.out.c0
     clear hK K;(try simp only[Zs]);refine Zr [6] ?_;refine AllReadyH.cons rfl (fun K hK=>?_) ?_
     ·go_simp;refine hK.out _ _ ?_ (fun hHeld=>?_)
      ·first|go_keep|exact(F5.out.below (by first|exact(Ze.drew).alloc (Zl) _|exact(Zb _ _).drew|exact Zb _ _)).c0
      clear hK K;(try simp only[Zs]);refine Zr [7] ?_;refine AllReadyH.cons rfl (fun K hK=>?_) ?_
      ·refine kPl.step_app rfl (.tmp 45) (.tmp 47) rfl (v:=.slice (some ⟨g,0,none⟩) (d+1) c) (l:=ps) (m:=[⟨m5,false⟩]) (B:=B) (A:=some ⟨w5.heap.size,0,none⟩) (n:=1) (c:=1) rfl (F5.out.own.below (by first|exact(Ze.drew).alloc (Zl) _|exact(Zb _ _).drew|exact Zb _ _) (Zl)) rfl rfl (fun e=>by cases e) (Kind.Holds.lit (heap_alloc_new _ _) rfl) (by have:=F5.out.pl;have:=F5.out.d8;simp;omega) (by have:=F5.out.size;simp;omega) ?_;intro v7 w7 hown7 hgrow7 hat7;obtain⟨g7,n7,c7,rfl,hl7⟩:=own_form hown7 (by simp);have b7:=Fr.below_of F5.out (by first|exact(Ze.drew).alloc (Zl) _|exact(Zb _ _).drew|exact Zb _ _) hgrow7;have T7:=Zh (Fr.push b7.1 (HO.out h1) hgrow7 hown7 (by rw[←hl7,List.length_append,F5.out.pl];rfl) (MM5.out.below b7.2 MM5.out.lt) (by have:=HM5.out;have:=F4.out.size;omega) (fun i hi=>by
        obtain⟨_,_,s,M⟩:=F4.out.at_ i hi (by have:=F4.out.len;have:=F4.out.pl;omega);have:=M.lt;have:=HM5.out;omega))
       have hp7:=(hgrow7.block p (by have:=F5.out.lt;simp;omega) (fun e=>F5.out.ne_own (Option.some.inj e).symm)).trans b7.1.blk;have e7:w7.cell? ⟨p,0,none⟩=some (.slice (some ⟨g,0,none⟩) (d+1) c):=cell_of_row w7 p 0 _ _ (0,0) hp7;have f7:w7.frozen? ⟨p,0,none⟩=false:=(by simp[World.frozen?,hp7]);have B7:Hid (Below B w (w7.setCell ⟨p,0,none⟩ (.slice (some ⟨g7,0,none⟩) n7 c7))):=Zh (((BB4.out.trans (B5.out.mono F4.out.size)).trans (b7.2.mono F5.out.size)).trans T7.out.2);clear hown7 hgrow7 hat7 hp7 b7 hl7;refine hK.out _ _ ?_ (fun hHeld=>?_)
       ·exact e7
       clear hK K;(try simp only[Zs]);refine Zn 8 ?_;refine Zn 9 ?_;refine Zn 10 ?_;refine wpAnyH_done (by kernel_rfl) ?_ _;intro K hK;go_simp;refine hK _ _ ?_;clear hK K;go_wp2_with fail
       go_end0
       exact⟨rfl,(by rw[HP.out,HN1.out];exact Fr.is T7.out.1 HMK.out HN3.out),B7.out⟩
      exact AllReadyH.nil
     exact AllReadyH.nil
    exact AllReadyH.nil
  ·have q1:=int_ne h1;by_cases h2:op=2
   ·have q2:=int_eq h2;have hkb:keyedB ⟨op,a,b⟩=false:=by
     cases hz:keyedB ⟨op,a,b⟩ with
     |false=>rfl
     |true=>exact absurd (HKT.out hz) (by omega)
    rw[hkb];obtain⟨d',hd'⟩:=HC.out h2;have d0:=F3.out.c0;have f0:=F3.out.frozen 0;have i0:(0:Int)≤(d:Int):=(by omega);have i1:(d:Int)≤(c:Int):=(by have:=F3.out.cap;omega);have HP:Hid (stepP P ⟨op,a,b⟩=P.dropLast):=Zh (stepP_close h2);have T7:=Zh (F3.out.pop hd');clear hd';go_upto_region 10 with fail;refine Tl.region_last (S:=(fun w'=>w'.cell? ⟨p,0,none⟩=some (.slice (some ⟨g,0,none⟩) (d+1) c))) (by kernel_rfl) 10 _ rfl rfl rfl (by kernel_rfl) (by first|go_keep|exact d0) (fun hHeld=>?_);simp only[List.setIfInBounds_toArray,List.set_cons_zero,List.set_cons_succ,Tl.idle];refine Zn 0 ?_;refine Zn 1 ?_;refine Zn 2 ?_;refine Zn 3 ?_;refine Zn 4 ?_;refine Zn 5 ?_;refine Zr [6] ?_;refine AllReadyH.cons rfl (fun K hK=>?_) ?_
    ·go_simp;go_at_call 61;refine(HD.out _ (by first|exact Ze|exact Ze.drew)).mono ?_;rintro e w5 ⟨rfl,rfl⟩;refine hK.out _ _ ?_ (fun hHeld=>?_)
     ·go_keep
     clear hK K;(try simp only[Zs]);refine Zr [7] ?_;refine AllReadyH.cons rfl (fun K hK=>?_) ?_
     ·go_simp;refine hK.out _ _ ?_ (fun hHeld=>?_)
      ·go_keep
      clear hK K;(try simp only[Zs]);refine Zn 8 ?_;refine Zn 9 ?_;refine Zn 10 ?_;refine wpAnyH_done (by kernel_rfl) ?_ _;intro K hK;go_simp;refine hK _ _ ?_;clear hK K;go_wp2_with fail
      go_end0
      exact⟨rfl,(by rw[HP.out,HN1.out];exact Fr.is ((T7.out.1.below (Ze.drew)).mono (Nat.le_succ k)) HMK.out HN3.out),(BB3.out.trans T7.out.2).drew⟩
     exact AllReadyH.nil
    exact AllReadyH.nil
   ·have q2:=int_ne h2;by_cases h7:op=7
    ·have q7:=int_eq h7;have hkb:keyedB ⟨op,a,b⟩=false:=by
      cases hz:keyedB ⟨op,a,b⟩ with
      |false=>rfl
      |true=>exact absurd (HKT.out hz) (by omega)
     rw[hkb];have HP:Hid (stepP P ⟨op,a,b⟩=lastX P ⟨op,a,b⟩):=Zh (stepP_other (by omega) (by omega));go_wp2_with fail;refine(HH.out _ Ze).mono ?_;rintro e w5 ⟨rfl,j5,hw5⟩;have B5:Hid (Below w3.heap.size w3 w5):=Zh (hw5▸bl_drewN Ze _);have F5:=Zh (F3.out.below B5.out);obtain⟨_,g1,fg⟩:=F5.out.place;have T7:=Zh (Fr.skip (x:=⟨op,a,b⟩) F5.out h7);clear hw5 g0;go_wp2_with fail
     go_end0
     exact⟨rfl,(by rw[HP.out,HN1.out];exact Fr.is T7.out.1 HMK.out HN3.out),(BB3.out.trans (B5.out.mono F3.out.size)).trans T7.out.2⟩
    ·have q7:=int_ne h7;cases hkb:keyedB ⟨op,a,b⟩ with
     |true=>
      go_upto_region 5 with fail;refine Tl.region_last (S:=(fun w'=>w'.cell? ⟨g,d*2,none⟩=some (.map (some m))∧w'.cell? ⟨x,2,none⟩=some (.string b))) (by kernel_rfl) 8 _ rfl rfl rfl (by kernel_rfl) (by first|go_keep|exact⟨g0,c2⟩) (fun hHeld=>?_);simp only[List.setIfInBounds_toArray,List.set_cons_zero,List.set_cons_succ,Tl.idle];refine Zn 0 ?_;refine Zn 5 ?_;refine Zn 6 ?_;refine Zn 7 ?_;refine Zr [1] ?_;refine AllReadyH.cons rfl (fun K hK=>?_) ?_
      ·go_simp;go_at_call 95;refine(HH.out _ (by first|exact Ze|exact Ze.drew)).mono ?_;rintro e w5 ⟨rfl,j5,hw5⟩;have B5:Hid (Below w3.heap.size w3 w5):=Zh (by first|exact hw5▸bl_drewN Ze _|exact hw5▸bl_drewN Ze.drew _);clear hw5;refine hK.out _ _ ?_ (fun hHeld=>?_)
       ·exact⟨(F3.out.below B5.out).place.1.trans (by rw[HM.out]),(N3.out.below B5.out N3.out.lt).c2⟩
       clear hK K;(try simp only[Zs]);refine Zn 2 ?_;refine Zn 3 ?_;refine Zn 4 ?_;refine Zn 8 ?_;refine wpAnyH_done (by kernel_rfl) ?_ _;intro K hK;obtain⟨s5,M5⟩:=(F3.out.below B5.out).map;obtain⟨es5,cl5,hb5⟩:=M5.blk;rw[HM.out] at hb5;refine step_store rfl _ _ _ rfl lawS Tryz.underlying122 (by rw[HM.out] at M5;rfl) (by rw[HM.out] at M5;exact M5) hk2 rfl rfl HKEY.out (KPUT.out hkb) ?_;intro w7 m7 g7;have P7:=Fr.put_key (x:=⟨op,a,b⟩) (F3.out.below B5.out) h7 (by rw[HM.out];exact g7) (by rw[HM.out];exact m7);have F4:=Zh P7.1;have BB4:=Zh ((BB3.out.trans (B5.out.mono F3.out.size)).trans P7.2);have N4:Hid (XB w7 x ⟨op,a,b⟩):=Zh ((g7.block x (N3.out.below B5.out N3.out.lt).lt (fun e=>(map_ne hb5 (N3.out.below B5.out N3.out.lt)) (Option.some.inj e).symm)).trans (N3.out.below B5.out N3.out.lt));refine hK _ _ ?_;clear hK K P7 g7 m7 M5 hb5 c0 c1 c2 g0 F3 N3 BB3;generalize w7=w9 at F4 BB4 N4⊢;have c0:=N4.out.c0;simp only at c0;have HP:Hid (stepP P ⟨op,a,b⟩=lastX P ⟨op,a,b⟩):=Zh (stepP_other h1 h2);go_wp2_with fail
       go_end0
       exact⟨rfl,(by rw[HP.out,HN1.out];exact Fr.is F4.out HMK.out HN3.out),BB4.out⟩
      exact AllReadyH.nil
     |false=>
      have F4:=Zh (F3.out.put_none (x:=⟨op,a,b⟩) hkb h7 |>.mono (Nat.le_succ k));have BB4:=BB3;have N4:=N3;clear c0 c1 c2 g0 F3 N3 BB3;generalize w3=w9 at F4 BB4 N4 HH HD⊢;have c0:=N4.out.c0;simp only at c0;have HP:Hid (stepP P ⟨op,a,b⟩=lastX P ⟨op,a,b⟩):=Zh (stepP_other h1 h2);go_wp2_with fail
      go_end0
      exact⟨rfl,(by rw[HP.out,HN1.out];exact Fr.is F4.out HMK.out HN3.out),BB4.out⟩
theorem check_bad{l:List In}{i c:Nat}(hn:l.length≤120)(hi:i<l.length)(hf:firstW l i=0)(hw:wrongP l i=c)(hc:¬c=0):checkP l=c:=by
 have h2:firstW l l.length=c:=(by rw[firstW_at hf (by rw[hw];exact hc) hi,hw]);rw[checkP,if_neg (by omega),if_neg (by rw[h2];exact hc),h2]
theorem check_end{l:List In}{d:Nat}(hn:l.length≤120)(hf:firstW l l.length=0)(hp:(placesK l l.length).length=d+1):checkP l=if 0<d then 8 else 0:=by
 have h1:=(pls_of (Zl) hf).len;have e:(beginP l l.length).2=d:=(by rw[beginP_snd];omega);rw[checkP,if_neg (by omega),if_pos hf,e]
theorem fr_new{w w1:World}{m:Nat}(hm:w.heap.size≤m)(M:MapIs Tryz.prog 9 w1 m 0 0 (fun _=>none))(hb:Below w.heap.size w w1):
 FrIs ((w1.alloc (.cells #[.map (some m),.bool false] 124)).alloc (.cells #[.slice (some ⟨w1.heap.size,0,none⟩) 1 1,.bool false,.slice none 0 0] 129)) w.heap.size (w1.heap.size+1) 0 [[]] none:=by
 have hs:=hb.size;have h1:(w1.alloc (.cells #[.map (some m),.bool false] 124)).heap[w1.heap.size]? = some (.cells #[.map (some m),.bool false] 124 (0,0)):=heap_alloc_new w1 _;have h2:(w1.alloc (.cells #[.map (some m),.bool false] 124)).heap.size=w1.heap.size+1:=(by simp);refine⟨w1.heap.size,1,0,[⟨m,false⟩],none,0,0,[],by omega,rfl,by omega,?_,?_,Kind.Own.nil _ _ _,rfl,by simp,fun i h hi=>?_,rfl,rfl,Zl⟩
 ·rw[←h2];exact heap_alloc_new _ _
 ·exact Kind.own_mk rfl hs (heap_up h1) (Zl) (by unfold maxLen;omega) rfl rfl
 ·obtain rfl:i=0:=by simpa using h
  refine⟨hm,rfl,0,?_⟩;show MapIs _ _ _ m 0 0 (keysF []);rw[keysF_nil];exact(M.alloc _).alloc _
theorem check_c:CheckC:=by
 intro l A n c w hh hn hnc hcm hl hsm;have q3:=err_neq_nil;have q5:=nil_neq_nil;have KH:=Zh hh;have KN:=Zh hn;have HSM:=Zh hsm;have hcm':c≤9223372036854775807:=(by unfold maxLen at hcm;omega);clear hh hn hcm hsm;by_cases h120:120<n
 ·have HC:Hid (checkP l=13):=Zh (by rw[checkP,if_pos (by rw[KN.out];exact h120)]);have i1:(120:Int)<(n:Int):=(by omega);rw[HC.out];go_enter Tryz.func24,Tryz.ntmps24;go_wp2_with fail;go_ret;exact⟨rfl,Ze⟩
 have i1:¬(120:Int)<(n:Int):=(by omega);go_enter Tryz.func24,Tryz.ntmps24;go_wp2_with fail;refine(newPlace_any w).mono ?_;rintro e w1 ⟨m,rfl,hm,M,b1⟩;have F0:=Zh (fr_new hm M b1);have B0:Hid (Below w.heap.size w ((w1.alloc (.cells #[.map (some m),.bool false] 124)).alloc (.cells #[.slice (some ⟨w1.heap.size,0,none⟩) 1 1,.bool false,.slice none 0 0] 129))):=Zh ((b1.alloc b1.size _).alloc (by have:=b1.size;simp;omega) _);clear hm M b1;go_upto_region 4 with fail;generalize (w1.alloc (.cells #[.map (some m),.bool false] 124)).alloc (.cells #[.slice (some ⟨w1.heap.size,0,none⟩) 1 1,.bool false,.slice none 0 0] 129)=W at F0 B0⊢;generalize w1.heap.size+1=p at F0⊢;go_wp2_with fail;go_loopw [16] (fun s wr=>∃i:Nat,i≤n∧s = .int .i64 i∧Hid (FrIs wr w.heap.size p i (placesK l i) (namesK l i))∧Hid (firstW l i=0)∧Hid (Below w.heap.size w wr)) (fun s _=>n-(intOf s).toNat)
 case atStart=>exact⟨0,by omega,rfl,F0,Zh rfl,B0⟩
 case round=>
  obtain⟨i,hi,rfl,HF,HW,HB⟩:=hrel;clear F0 B0;by_cases hin:i<n
  ·have hil:i<l.length:=(by have:=KN.out;omega);obtain⟨b,o,rfl,hb,g0,g1,g2⟩:=cell_of_ins (KH.out.on HB.out) hil;have HS:=HSM.out _ (List.getElem_mem hil);have WP:Hid (wrongP l i=wrongV (placesK l i) (namesK l i) l[i]):=Zh (wrong_places hil HW.out);have PS:Hid (placesK l (i+1)=stepP (placesK l i) l[i]):=Zh (placesK_step hil);have NS:Hid (namesK l (i+1)=stepN (namesK l i) l[i]):=Zh (namesK_step hil);have HIL:=Zh hil;generalize l[i]=d at g0 g1 g2 HS WP PS NS;obtain⟨op,a,bb⟩:=d;simp only at g0 g1 g2;obtain⟨cd,hcd⟩:∃z,wrongV (placesK l i) (namesK l i) ⟨op,a,bb⟩=z:=⟨_,rfl⟩;have B1:Hid (Below wr.heap.size wr (wr.alloc (.cells #[.int .i64 op,.string a,.string bb] 76))):=Zh (Zb _ _);have N1:Hid (XB (wr.alloc (.cells #[.int .i64 op,.string a,.string bb] 76)) wr.heap.size ⟨op,a,bb⟩):=Zh (XB.new wr ⟨op,a,bb⟩);have FB:Hid (∀w9,Below wr.heap.size wr w9→FrIs w9 w.heap.size p i (placesK l i) (namesK l i)):=Zh (fun w9 h9=>by
    obtain⟨_,_,_,_,_,_,_,_,F,ht⟩:=HF.out.fr;exact(F.below h9).is rfl ht)
   rw[hcd] at WP;have HCD:=Zh hcd;clear hcd hil;go_upto_region 7 with fail;generalize wr.alloc (.cells #[.int .i64 op,.string a,.string bb] 76)=W1 at B1 N1⊢;generalize wr.heap.size=x at N1⊢;have c0:=N1.out.c0;have c1:=N1.out.c1;have c2:=N1.out.c2;simp only at c0 c1 c2;have CF:=Zh (fault_any (FB.out _ B1.out) (by omega) ⟨op,a,bb⟩ HS.1 HS.2);rw[HCD.out] at CF;go_wp2_with fail;refine CF.out.mono ?_;rintro e w2 ⟨rfl,b2⟩;have B2:=Zh (B1.out.trans (b2.mono B1.out.size));have N2:=Zh (N1.out.below b2 N1.out.lt);clear b2 CF c0 c1 c2 N1;by_cases h0:cd=0
   ·subst h0;have he:errV ((0:Nat):Int) = .nilIface:=rfl;rw[he];have c0:=N2.out.c0;have c1:=N2.out.c1;have c2:=N2.out.c2;simp only at c0 c1 c2;have CT:=Zh (take_any (FB.out _ B2.out) (by omega) ⟨op,a,bb⟩ HS.1 HS.2 HCD.out);have BX:Hid (Below w.heap.size w w2):=Zh (HB.out.trans (B2.out.mono HB.out.size));go_wp2_with fail;refine CT.out.mono ?_;rintro e w3 ⟨rfl,f3,b3⟩;rw[←PS.out,←NS.out] at f3;have F3:=Zh f3;have B3:=Zh (BX.out.trans b3);clear f3 b3 CT c0 c1 c2;go_wp2_with fail;go_roundw
    case rel=>exact⟨i+1,by omega,by go_num,F3,Zh (by rw[firstW,if_pos HW.out,WP.out]),B3⟩
    case measure=>simp[intOf];omega
   ·have he:errV (cd:Int) = .iface 43 (.int .i64 cd):=(by unfold errV;rw[if_neg (by omega)]);have HC:Hid (checkP l=cd):=Zh (check_bad (by have:=KN.out;omega) HIL.out HW.out WP.out h0);rw[he];go_wp2_with fail;go_ret;exact⟨by rw[HC.out,he];rfl,HB.out.trans (B2.out.mono HB.out.size)⟩
  ·obtain rfl:i=n:=by omega
   obtain⟨g,cc,d,_,_,_,_,_,F,_⟩:=HF.out.fr;have HC:Hid (checkP l=if 0<d then 8 else 0):=Zh (by
    have h1:=HW.out;have h2:=F.len;rw[←KN.out] at h1 h2;exact check_end (by have:=KN.out;omega) h1 h2)
   have HD:=Zh (depth_any p d cc _ wr F.c0 (by have:=F.d8;omega));clear F;by_cases h0:0<d
   ·have i2:(0:Int)<(d:Int):=(by omega);rw[if_pos h0] at HC;go_wp2_with fail;refine HD.out.mono ?_;rintro e w' ⟨rfl,rfl⟩;go_wp2_with fail;go_ret;exact⟨by rw[HC.out];rfl,HB.out⟩
   ·have i2:¬(0:Int)<(d:Int):=(by omega);rw[if_neg h0] at HC;go_wp2_with fail;refine HD.out.mono ?_;rintro e w' ⟨rfl,rfl⟩;go_wp2_with fail;go_ret;exact⟨by rw[HC.out];rfl,HB.out⟩
end P13
namespace P14
open Go.RowKit Kd P4 P5 P11 P12 P13
theorem wof_c:WOfC:=by
 intro l A n c w hh hn hnc hcm hl hs;have CC:Hid (Calls Tryz.prog 24 #[.slice A n c] w fun e w'=>e = .returned (errV ((checkP l:Nat):Int))∧Below w.heap.size w w'):=Zh (check_c l A n c w hh hn hnc hcm hl hs);have q2:=err_neq_nil;have q3:=nil_neq_nil;have HR:Hid (Rs w w.heap.size A n c l):=Zh ⟨hn,hnc,hcm,hl,hh⟩;by_cases hz:checkP l=0
 ·have HZ:=Zh hz;have HB:=Zh (want_back hz);have CG:Hid (∀wz:World,Below w.heap.size w wz→Calls Tryz.prog 25 #[.slice A n c] wz (GotA wz w.heap.size (wantP l) [])):=Zh (fun wz hz=>getAll_any (wantP l) [] A n c w.heap.size wz HB.out.2 (fun x hx=>by cases hx) (by rw[HB.out.1,List.append_nil];exact HR.out.below hz (Zl)) hz.size);have e0:errV ((checkP l:Nat):Int) = .nilIface:=(by rw[hz];rfl);rw[e0] at CC;clear hh hn hnc hcm hl hs hz e0;go_enter Tryz.func7,Tryz.ntmps7;go_wp2_with fail;refine CC.out.mono ?_;rintro e w1 ⟨rfl,b1⟩;have B1:=Zh b1;clear b1;go_wp2_with fail;refine(CG.out w1 B1.out).mono ?_;rintro e w2 ⟨A1,n1,c1,ts,A2,n2,c2,rfl,her,own,new,_,b2⟩;have HE:=Zh her;have B2:=Zh (B1.out.trans (b2.mono B1.out.size));have HO:=Zh own;have HN:=Zh new;clear her own new b2;go_wp2_with fail;go_ret2;obtain⟨o1,o2,o3,o4,o5⟩:=ownK_is HO.out;refine⟨A1,n1,c1,ts,by rw[HZ.out];rfl,by rw[HE.out,if_pos HZ.out],⟨o1,o2,o3,o4,o5,fun t ht=>(HN.out t ht).ok⟩,B2.out⟩
 ·have HZ:=Zh hz;have e0:errV ((checkP l:Nat):Int) = .iface 43 (.int .i64 ((checkP l:Nat):Int)):=(by unfold errV;rw[if_neg (by omega)]);have HE:=Zh e0;rw[e0] at CC;clear hh hn hnc hcm hl hs hz e0;go_enter Tryz.func7,Tryz.ntmps7;go_wp2_with fail;refine CC.out.mono ?_;rintro e w1 ⟨rfl,b1⟩;have B1:=Zh b1;clear b1;go_wp2_with fail;go_ret2;exact⟨none,0,0,[],by rw[HE.out];rfl,by rw[if_neg HZ.out];rfl,⟨rfl,Zl,by unfold maxLen;omega,fun _=>rfl,Kind.Holds.nil _ _ _,fun t ht=>by cases ht⟩,B1.out⟩
end P14
namespace P18
open Go.RowKit Kd P4 P5 P11 P12 P13 P14
theorem nodes_c:NodesC:=by
 intro ts A n c w h hwt;have CC:Hid (Calls Tryz.prog 36 #[.slice A n c] w fun e w'=>e = .returned (.int .i64 (cntL (erL ts):Nat))∧Below w.heap.size w w'):=Zh (count_any ts w A n c h.holds h.len h.ok hwt);clear h hwt;go_enter Tryz.func16,Tryz.ntmps16;go_wp2_with fail;refine CC.out.mono ?_;rintro e w' ⟨rfl,b⟩;have B:=Zh b;clear b;go_wp2_with fail;go_ret;exact⟨rfl,B.out⟩
end P18
namespace P7
open Go.RowKit Kd P4 P5
variable{B p g:Nat}{x:Dx}{vd:Value}{rs:List RR}
theorem do_new{c':Int}(r:Rc)(A:Option Addr)(n c:Nat)(w:World)(hc:(applyD x.d r).1=c')(hwf:WF x.d)(hn:x.n≤100000)(ha:∀w9,But (fun k=>foot p x k∨lfoot g vd k) w w9→ArgR w9 A n c r)(hl:rs.length≤1000000)(h:Dc w B p x)(l:Lg w B g p vd rs):
 Calls Tryz.prog 119 #[.pointer (some ⟨g,0,none⟩),.agg #[.int .i64 r.op,.int .i64 r.id,.int .i64 r.par,.int .i64 r.bef,.string r.tag,.string r.txt,.string r.key,.slice A n c]] w (Dos w B g p x vd rs r c'):=by
 have B1:Hid (Below w.heap.size w (w.alloc (.cells #[.int .i64 r.op,.int .i64 r.id,.int .i64 r.par,.int .i64 r.bef,.string r.tag,.string r.txt,.string r.key,.slice A n c] 71))):=Zh (Zb _ _);have N1:Hid (RcB (w.alloc (.cells #[.int .i64 r.op,.int .i64 r.id,.int .i64 r.par,.int .i64 r.bef,.string r.tag,.string r.txt,.string r.key,.slice A n c] 71)) w.heap.size r A n c):=Zh (RcB.new w r A n c);have HC:=Zh hc;have HWF:=Zh hwf;have HA:=Zh ha;have H:=Zh h;have L:=Zh l;have q1:=err_neq_nil;have q2:=nil_neq_nil;have hBw:B≤w.heap.size:=(by have:=h.base;have:=h.lt (.inl rfl:foot p x p);omega);clear hc hwf ha h l;go_enter Tryz.func119,Tryz.ntmps119;go_upto_region 1 with fail;generalize w.alloc (.cells #[.int .i64 r.op,.int .i64 r.id,.int .i64 r.par,.int .i64 r.bef,.string r.tag,.string r.txt,.string r.key,.slice A n c] 71)=W at B1 N1⊢;have H1:=Zh (H.out.below B1.out);have L1:=Zh (L.out.below B1.out);have d0:=L1.out.c0;have b0:=N1.out.c0;have b1:=N1.out.c1;have b2:=N1.out.c2;have b3:=N1.out.c3;have b4:=N1.out.c4;have b5:=N1.out.c5;have b6:=N1.out.c6;have b7:=N1.out.c7;go_wp2_with fail;go_region_held3 (fun w'=>w'.cell? ⟨g,0,none⟩=some (.pointer (some ⟨p,0,none⟩))∧w'.cell? ⟨w.heap.size,0,none⟩=some (.int .i64 r.op)∧w'.cell? ⟨w.heap.size,1,none⟩=some (.int .i64 r.id)∧w'.cell? ⟨w.heap.size,2,none⟩=some (.int .i64 r.par)∧w'.cell? ⟨w.heap.size,3,none⟩=some (.int .i64 r.bef)∧w'.cell? ⟨w.heap.size,4,none⟩=some (.string r.tag)∧w'.cell? ⟨w.heap.size,5,none⟩=some (.string r.txt)∧w'.cell? ⟨w.heap.size,6,none⟩=some (.string r.key)∧w'.cell? ⟨w.heap.size,7,none⟩=some (.slice A n c)) (first|go_keep|exact K5) ((first
  |(go_at_call 28;refine(apply_c r A n c _ HC.out HWF.out hn (HA.out _ (But.of_below (Below_drewN B1.out _) _)) (by exact H1.out.drewN _)).mono ?_;rintro e w5 ⟨rfl,x5,d5,hx5⟩;have LL5:=Zh ((L1.out.drewN _).did (H1.out.drewN _) d5);have N5:=Zh (RcB.did (w:=W.drewN _) N1.out (H1.out.drewN _) d5);have K5:=And.intro LL5.out.c0 (And.intro N5.out.c0 (And.intro N5.out.c1 (And.intro N5.out.c2 (And.intro N5.out.c3 (And.intro N5.out.c4 (And.intro N5.out.c5 (And.intro N5.out.c6 N5.out.c7)))))));have D5:Hid (Did W B p x x5 w5):=Zh ((Did.below_ H1.out (Below_drewN Ze _)).trans d5);have HX5:=Zh hx5;clear d5 hx5)
  |fail))
 have L5:=LL5;have LB5:Hid (LDid w B g p x vd x5 vd rs w5):=Zh ⟨D5.out.dc,L5.out,(But.of_below B1.out _).trans (D5.out.but.mono fun _ _ hi=> .inl hi) (fun _ _ hi=>hi),(fun i hi=>(D5.out.ft i hi).imp id (fun e=>by have:=B1.out.size;omega)),fun i hi=> .inl hi⟩;clear d0 b0 b1 b2 b3 b4 b5 b6 b7 LL5;by_cases hc0:c'=0
 ·subst hc0;rw[errV0];obtain⟨A2,n2,c2,hvd,hn2,hn2c,hc2m,hz2,hh2⟩:=own_r L5.out.own;have HVD:=Zh hvd;have HN2:=Zh hn2;have HAR:=Zh (HA.out w5 LB5.out.but).at_;have HAZ:Hid (A=none→c=0∧n=0):=Zh (fun e=>by have:=HAR.out.nil e;have:=HAR.out.cap;omega);have d1:=L5.out.c1;rw[hvd] at d1;have f1:=L5.out.frozen 1;have hg5:g<w5.heap.size:=heap_lt L5.out.blk;have hs5:w.heap.size<w5.heap.size:=N5.out.lt;have b0:=N5.out.c0;have b1:=N5.out.c1;have b2:=N5.out.c2;have b3:=N5.out.c3;have b4:=N5.out.c4;have b5:=N5.out.c5;have b6:=N5.out.c6;have b7:=N5.out.c7;have HNE:Hid (∀k,(Value.slice A2 n2 c2).ownBlock=some k→k≠g∧k<w.heap.size):=Zh (by
   rw[←hvd];intro k hk;refine⟨?_,L.out.lt (.inr hk)⟩;rintro rfl;obtain⟨d,hd⟩:=L.out.own.ty hk;exact heap_ne hd L.out.blk (by decide) rfl)
  clear hvd hn2 hh2 hz2;go_upto_region 6 with fail;refine Tl.region_last (S:=(fun w'=>w'.cell? ⟨g,1,none⟩=some (.slice A2 n2 c2)∧w'.cell? ⟨w.heap.size,0,none⟩=some (.int .i64 r.op)∧w'.cell? ⟨w.heap.size,1,none⟩=some (.int .i64 r.id)∧w'.cell? ⟨w.heap.size,2,none⟩=some (.int .i64 r.par)∧w'.cell? ⟨w.heap.size,3,none⟩=some (.int .i64 r.bef)∧w'.cell? ⟨w.heap.size,4,none⟩=some (.string r.tag)∧w'.cell? ⟨w.heap.size,5,none⟩=some (.string r.txt)∧w'.cell? ⟨w.heap.size,6,none⟩=some (.string r.key)∧w'.cell? ⟨w.heap.size,7,none⟩=some (.slice A n c))) (by kernel_rfl) 11 _ rfl rfl rfl (by kernel_rfl) (by go_keep) (fun hHeld=>?_);simp only[List.setIfInBounds_toArray,List.set_cons_zero,List.set_cons_succ,Tl.idle];refine Zn 0 ?_;refine Zn 1 ?_;refine Zn 2 ?_;refine Zn 3 ?_;refine Zn 4 ?_;refine Zn 5 ?_;refine Zr [6] ?_;refine AllReadyH.cons rfl (fun K hK=>?_) ?_
  ·go_simp;go_at_call 35;refine(own_any r A n c _ HAR.out.len HAR.out.few HAZ.out (by exact HAR.out.holds)).mono ?_;rintro e w6 ⟨A6,n6,c6,rfl,ao6,b6⟩;have AO6:=Zh ao6;have B6:Hid (Below w5.heap.size w5 w6):=Zh (by first|exact b6|exact(Below.drew Ze).trans b6|exact(Below_drewN Ze _).trans b6);have N6:=Zh (N5.out.below B6.out N5.out.lt);have L6:=Zh (L5.out.below B6.out);have d6:=L6.out.c1;rw[HVD.out] at d6;have f6:=L6.out.frozen 1;clear ao6 b6;go_wp2_with fail;refine hK.out _ _ ?_ (fun hHeld=>?_)
   ·exact⟨d6,N6.out.c0,N6.out.c1,N6.out.c2,N6.out.c3,N6.out.c4,N6.out.c5,N6.out.c6,N6.out.c7⟩
   clear hK K;(try simp only[Zs]);refine Zr [7] ?_;refine AllReadyH.cons rfl (fun K hK=>?_) ?_
   ·go_simp;refine hK.out _ _ ?_ (fun hHeld=>?_)
    ·go_keep
    clear hK K;(try simp only[Zs]);refine Zr [8] ?_;refine AllReadyH.cons rfl (fun K hK=>?_) ?_
    ·refine kR.step_app rfl (.tmp 25) (.tmp 28) rfl (v:=.slice A2 n2 c2) (l:=rs) (m:=[⟨r,⟨A6,n6,c6⟩⟩]) (B:=B) (A:=some ⟨w6.heap.size,0,none⟩) (n:=1) (c:=1) rfl (by have:=L6.out.own;rw[HVD.out] at this;exact this.alloc _) rfl rfl (fun e=>by cases e) (Kind.Holds.lit (heap_alloc_new _ _) rfl) (by simp;omega) (by have:=L6.out.ge (.inl rfl:lfoot g vd g);have:=heap_lt L6.out.blk;simp;omega) ?_;intro v7 w7 hown7 hgrow7 hat7;obtain⟨A7,n7,c7,rfl,_,_,_,_,_⟩:=hown7.slice;have O7:=Zh hown7;have G7:=Zh hgrow7;have AT7:=Zh hat7;have e7:w7.cell? ⟨g,1,none⟩=some (.slice A2 n2 c2):=(cell_of_row w7 g 1 _ _ (0,0) ((hgrow7.block g (by have:=heap_lt L6.out.blk;simp;omega) (fun e=>((HNE.out g e.symm).1 rfl).elim)).trans (heap_up L6.out.blk))).trans (by rw[HVD.out];rfl);have N7:Hid (RcB w7 w.heap.size r A n c):=Zh ((hgrow7.block _ (by have:=N6.out.lt;simp;omega) (fun e=>by have:=(HNE.out _ e.symm).2;omega)).trans (heap_up N6.out));have f7:w7.frozen? ⟨g,1,none⟩=false:=(by have hb:=(hgrow7.block g (by have:=heap_lt L6.out.blk;simp;omega) (fun e=>((HNE.out g e.symm).1 rfl).elim)).trans (heap_up L6.out.blk);simp[World.frozen?,hb]);clear hown7 hgrow7 hat7;refine hK.out _ _ ?_ (fun hHeld=>?_)
     ·exact⟨e7,N7.out.c0,N7.out.c1,N7.out.c2,N7.out.c3,N7.out.c4,N7.out.c5,N7.out.c6,N7.out.c7⟩
     clear hK K;(try simp only[Zs]);refine Zn 9 ?_;refine Zn 10 ?_;refine Zn 11 ?_;refine wpAnyH_done (by kernel_rfl) ?_ _;intro K hK;go_simp;refine hK _ _ ?_;clear hK K;have l6a:=L6.out.below (Ze.alloc (Zl) (.cells #[.int .i64 r.op,.int .i64 r.id,.int .i64 r.par,.int .i64 r.bef,.string r.tag,.string r.txt,.string r.key,.slice A6 n6 c6] 71));have g7:World.grownBy (w6.alloc (.cells #[.int .i64 r.op,.int .i64 r.id,.int .i64 r.par,.int .i64 r.bef,.string r.tag,.string r.txt,.string r.key,.slice A6 n6 c6] 71)) w7 vd.ownBlock:=(by rw[HVD.out];exact G7.out);have a6a:AOk (w6.alloc (.cells #[.int .i64 r.op,.int .i64 r.id,.int .i64 r.par,.int .i64 r.bef,.string r.tag,.string r.txt,.string r.key,.slice A6 n6 c6] 71)) ⟨A6,n6,c6⟩ r.attrs:=AO6.out.below (Zb _ _);obtain⟨l8,b8⟩:=do_end (a:=⟨r,⟨A6,n6,c6⟩⟩) l6a g7 O7.out ⟨a6a,by have h1:=HAR.out.len;have h2:=HAR.out.few;have h3:=a6a.len;simp only at h3⊢;omega⟩;have b56:Below w5.heap.size w5 (w6.alloc (.cells #[.int .i64 r.op,.int .i64 r.id,.int .i64 r.par,.int .i64 r.bef,.string r.tag,.string r.txt,.string r.key,.slice A6 n6 c6] 71)):=B6.out.alloc B6.out.size _;have dc6:=LB5.out.dc.below b56;have DC8:=Zh (dc6.but b8 (fun k hk hf=>l6a.notD dc6 hf hk) l6a.noA);have L8:=Zh l8;have B8:Hid (But (fun k=>foot p x k∨lfoot g vd k) w (w7.setCell ⟨g,1,none⟩ (.slice A7 n7 c7))):=Zh ((LB5.out.but.trans (But.of_below b56 (fun _=>False)) (fun _ _ hi=>hi.elim)).trans b8 (fun _ _ hi=> .inr hi));have LF8:Hid (∀k,(Value.slice A7 n7 c7).ownBlock=some k→vd.ownBlock=some k∨w.heap.size≤k):=Zh (fun k hk=>by
      rcases AT7.out with e|e
      ·rw[e,←HVD.out] at hk;exact .inl hk
      ·rw[e] at hk;injection hk with hk;have h1:=B6.out.size;simp at hk;exact .inr (by omega))
     clear l6a g7 a6a l8 b8 b56 dc6 e7 f7 N7 d6 f6 L6 N6 B6 AO6 O7 G7 AT7;generalize w7.setCell ⟨g,1,none⟩ (.slice A7 n7 c7)=W8 at DC8 L8 B8⊢;go_wp2_with fail;go_ret;exact⟨by rw[errV0];rfl,x5,_,_,⟨DC8.out,L8.out,B8.out,LB5.out.ft,LF8.out⟩,HX5.out,by simp,by simp⟩
    exact AllReadyH.nil
   exact AllReadyH.nil
  exact AllReadyH.nil
 ·have he:errV c' = .iface 43 (.int .i64 c'):=(by unfold errV;rw[if_neg hc0]);have HC0:=Zh hc0;rw[he];clear hc0;go_wp2_with fail;go_ret;refine⟨?_,x5,vd,rs,LB5.out,HX5.out,by rw[if_neg HC0.out],by omega⟩;rw[he];rfl
end P7
namespace P19
open Go.RowKit Kd P4 P5 P7 P14 P16
def Pw(w:World)(B g p:Nat)(x:Dx)(vd:Value)(Z:Nat→Prop)(s:Sg)(wx:World):Prop:=
 ∃(x':Dx) (vd':Value) (rs':List RR),LDid w B g p x vd x' vd' rs' wx∧(x'.d,rs'.map (·.r))=s∧∀k,Z k→k<wx.heap.size∧¬pfoot p x' g vd' k
def Kept(Z:Nat→Prop)(wx w':World):Prop:=∃F:Nat→Prop,But F wx w'∧(∀k,Z k→¬F k)∧NoA wx F
section
variable{w wx w' w2:World}{B g p:Nat}{x x':Dx}{vd vd':Value}{rs rs':List RR}{Z Z':Nat→Prop}{s:Sg}
theorem Kept.of_below(h:Below wx.heap.size wx w'):Kept Z wx w':=⟨fun _=>False,But.of_below h _,fun _ _ h=>h,NoA.none _⟩
theorem Kept.less(h:Kept Z wx w')(hZ:∀k,Z' k→Z k):Kept Z' wx w':=by
 obtain⟨F,h1,h2,h3⟩:=h;exact⟨F,h1,fun k hk=>h2 k (hZ k hk),h3⟩
theorem Kept.trans(h:Kept Z wx w')(k:Kept Z w' w2):Kept Z wx w2:=by
 obtain⟨F,h1,h2,h3⟩:=h;obtain⟨G,k1,k2,k3⟩:=k;refine⟨fun i=>F i∨G i,(h1.mono (fun _ _ h=> .inl h)).trans k1 (fun i _ h=> .inr h),fun i hi e=>e.elim (h2 i hi) (k2 i hi),fun i cur fr e hc=>?_⟩;by_cases hf:F i
 ·exact h3 i cur fr hf hc
 ·rcases e with e|e
  ·exact hf e
  ·have hlt:i<wx.heap.size:=heap_lt hc;exact k3 i cur fr e ((h1.block i hlt hf).trans hc)
theorem Kept.size(h:Kept Z wx w'):wx.heap.size≤w'.heap.size:=by
 obtain⟨F,h1,_⟩:=h;exact h1.size
theorem Kept.block(h:Kept Z wx w'){k:Nat}(hk:Z k)(hl:k<wx.heap.size):w'.heap[k]? = wx.heap[k]?:=by
 obtain⟨F,h1,h2,_⟩:=h;exact h1.block k hl (h2 k hk)
theorem Kept.cell(h:Kept Z wx w'){q:Addr}(hk:Z q.block)(hl:q.block<wx.heap.size):w'.cell? q=wx.cell? q:=World.cell?_of_block (h.block hk hl)
theorem Kept.own{P:Program}{α:Type}{K:Kind P α}{C:Nat}{v:Value}{l:List α}(h:Kept Z wx w')(ho:K.Own wx C v l)(hz:∀k,v.ownBlock=some k→Z k):K.Own w' C v l:=by
 obtain⟨F,h1,h2,_⟩:=h;exact ho.but h1 (fun i hi e=>h2 i (hz i hi) e)
theorem Pw.start(h:Dc w B p x)(l:Lg w B g p vd rs)(hZ:∀k,Z k→k<w.heap.size∧¬pfoot p x g vd k):Pw w B g p x vd Z (x.d,rs.map (·.r)) w:=
 ⟨x,vd,rs,⟨h,l,But.refl _ _,fun _ h=> .inl h,fun _ h=> .inl h⟩,rfl,hZ⟩
theorem Pw.below(h:Pw w B g p x vd Z s wx)(hb:Below wx.heap.size wx w')(hZ:∀k,Z' k→Z k∨(wx.heap.size≤k∧k<w'.heap.size)):Pw w B g p x vd Z' s w':=by
 obtain⟨x',vd',rs',h1,h2,h3⟩:=h;refine⟨x',vd',rs',⟨h1.dc.below hb,h1.lg.below hb,h1.but.trans (But.of_below hb (fun _=>False)) (fun _ _ h=>h.elim),h1.ft,h1.lf⟩,h2,fun k hk=>?_⟩;rcases hZ k hk with e|⟨e1,e2⟩
 ·exact⟨Nat.lt_of_lt_of_le (h3 k e).1 hb.size,(h3 k e).2⟩
 ·refine⟨e2,fun e=>?_⟩;rcases e with e|e
  ·have:=h1.dc.lt e;omega
  ·have:=h1.lg.lt e;omega
theorem Pw.less(h:Pw w B g p x vd Z s wx)(hZ:∀k,Z' k→Z k):Pw w B g p x vd Z' s wx:=by
 obtain⟨x',vd',rs',h1,h2,h3⟩:=h;exact⟨x',vd',rs',h1,h2,fun k hk=>h3 k (hZ k hk)⟩
theorem Pw.at_(h:Pw w B g p x vd Z s wx):∃(x':Dx) (vd':Value) (rs':List RR),Dc wx B p x'∧Lg wx B g p vd' rs'∧x'.d=s.1∧rs'.map (·.r)=s.2:=by
 obtain⟨x',vd',rs',h1,h2,_⟩:=h;exact⟨x',vd',rs',h1.dc,h1.lg,congrArg Prod.fst h2,congrArg Prod.snd h2⟩
theorem pw_do{c':Int}(r:Rc)(A:Option Addr)(n c:Nat)(h:Pw w B g p x vd Z s wx)(hc:(applyD s.1 r).1=c')(hwf:WF s.1)(hn:s.1.n≤100000)(hl:s.2.length≤1000000)(h1:r.tag.size≤maxLen)(h2:r.txt.size≤maxLen)(h3:r.key.size≤maxLen)(hat:AOk wx ⟨A,n,c⟩ r.attrs)(hwa:P3.Wf r.attrs)(few:n≤1000000):
 Calls Tryz.prog 119 #[.pointer (some ⟨g,0,none⟩),.agg #[.int .i64 r.op,.int .i64 r.id,.int .i64 r.par,.int .i64 r.bef,.string r.tag,.string r.txt,.string r.key,.slice A n c]] wx fun e w'=>e = .returned (errV c')∧Pw w B g p x vd Z (doP s r) w'∧Kept Z wx w':=by
 obtain⟨x',vd',rs',k1,rfl,k3⟩:=h;have hno:NoA wx (fun k=>foot p x' k∨lfoot g vd' k):=or_noA k1.dc.noA k1.lg.noA;refine(do_new r A n c wx hc hwf hn (fun w9 hb=>?_) (by simpa using hl) k1.dc k1.lg).mono ?_
 ·have ha:=hat.but hb hno;exact⟨⟨ha.len,ha.cap,ha.nil,few,hwa,ha.holds⟩,h1,h2,h3⟩
 ·rintro e w' ⟨rfl,x2,vd2,rs2,d2,e1,e2,_⟩;refine⟨rfl,⟨x2,vd2,rs2,⟨d2.dc,d2.lg,k1.but.trans d2.but (fun i hi hf=>?_),fun k hk=>?_,fun k hk=>?_⟩,?_,fun k hk=>?_⟩,⟨_,d2.but,fun k hk=>(k3 k hk).2,hno⟩⟩
  ·rcases hf with hf|hf
   ·exact(k1.ft i hf).elim .inl (fun e=>by omega)
   ·rcases hf with rfl|hf
    ·exact .inr (.inl rfl)
    ·exact(k1.lf i hf).elim (fun e=> .inr (.inr e)) (fun e=>by omega)
  ·rcases d2.ft k hk with e|e
   ·exact k1.ft k e
   ·have:=k1.but.size;exact .inr (by omega)
  ·rcases d2.lf k hk with e|e
   ·exact k1.lf k e
   ·have:=k1.but.size;exact .inr (by omega)
  ·show(x2.d,rs2.map (·.r))=((applyD x'.d r).2,if(applyD x'.d r).1=0 then rs'.map (·.r)++[r] else rs'.map (·.r));have hc2:(applyD x'.d r).1=c':=hc;rw[e1,e2,hc2]
  ·have h4:=k3 k hk;refine⟨Nat.lt_of_lt_of_le h4.1 d2.but.size,fun e=>?_⟩;rcases e with e|e
   ·rcases d2.ft k e with e|e
    ·exact h4.2 (.inl e)
    ·omega
   ·rcases e with rfl|e
    ·exact h4.2 (.inr (.inl rfl))
    ·rcases d2.lf k e with e|e
     ·exact h4.2 (.inr (.inr e))
     ·omega
end
end P19
namespace P5
open Go.RowKit Kd P4
variable{B p:Nat}{x:Dx}
def NodV(d:D)(i:Int)(w:World)(e:Ending)(w':World):Prop:=∃(nd:Nd) (A:Option Addr) (n c:Nat) (A2:Option Addr) (n2 c2:Nat),e = .returned (.tuple #[.agg #[.int .i64 nd.id,.int .i64 nd.par,.string nd.tag,.string nd.txt,.string nd.key,.slice A n c,.slice A2 n2 c2,.int .i64 nd.note],.bool (hasL d.l i)])∧
 (hasL d.l i=true→find d.l i=some nd)∧(hasL d.l i=false→nd=⟨0,0,⟨#[]⟩,⟨#[]⟩,⟨#[]⟩,[],[],0⟩)∧nd.kids=kidsOf d.l i∧AOk w' ⟨A,n,c⟩ nd.attrs∧kI.Own w' w.heap.size (.slice A2 n2 c2) nd.kids∧Below w.heap.size w w'
theorem nod_c(i:Int)(w:World)(hw:WF x.d)(h:Dc w B p x):Calls Tryz.prog 54 #[.pointer (some ⟨p,0,none⟩),.int .i64 i] w (NodV x.d i w):=by
 cases hh:hasL x.l i with
 |false=>
  have hh':hasL x.d.l i=false:=hh;refine(tell_no i w hh h).mono ?_;rintro e w' ⟨rfl,b⟩;refine⟨⟨0,0,⟨#[]⟩,⟨#[]⟩,⟨#[]⟩,[],[],0⟩,none,0,0,none,0,0,by rw[hh'],(fun e=>by rw[hh'] at e;cases e),fun _=>rfl,?_,AOk.nil_ w',Kind.Own.nil kI w' _,b⟩;unfold kidsOf;cases hf:find x.d.l i with
  |none=>rfl
  |some z=>rw[find_has hf] at hh';cases hh'
 |true=>
  have hh':hasL x.d.l i=true:=hh;obtain⟨k,hk,hy,_⟩:=h.place hh;obtain⟨f1,f2,_⟩:=nd_kids h hw hk;have hfi:find x.d.l i=some x.rs[k].nd:=by
   have hm:x.rs[k].nd∈x.l:=List.mem_map.2 ⟨x.rs[k],List.getElem_mem hk,rfl⟩;have:=h.asc.find hm;rw[hy] at this;exact this
  refine(tell_yes i (k:=k) (nd:=x.rs[k].nd) w hk hy rfl f1 f2 h).mono ?_;rintro e w' ⟨A,n,c,A2,n2,c2,rfl,ha,ho,b⟩;exact⟨_,A,n,c,A2,n2,c2,by rw[hh'],fun _=>hfi,(fun e=>by rw[hh'] at e;cases e),(kids_at hfi).symm,ha,ho,b⟩
end P5
namespace P19
open Go.RowKit Kd P4 P5 P7 P14 P16
variable{w wx w':World}{B g p:Nat}{x:Dx}{vd:Value}{Z:Nat→Prop}{s:Sg}
theorem pw_node(i:Int)(h:Pw w B g p x vd Z s wx)(hwf:WF s.1):Calls Tryz.prog 54 #[.pointer (some ⟨p,0,none⟩),.int .i64 i] wx (NodV s.1 i wx):=by
 obtain⟨x',vd',rs',h1,_,e1,_⟩:=h.at_;rw[←e1] at hwf⊢;exact nod_c i wx hwf h1
theorem pw_next(h:Pw w B g p x vd Z s wx)(hn:s.1.n≤100000):Calls Tryz.prog 51 #[.pointer (some ⟨p,0,none⟩)] wx fun e w'=>e = .returned (.int .i64 (s.1.n+1))∧wx=w':=by
 obtain⟨x',vd',rs',h1,_,e1,_⟩:=h.at_;have hx:x'.n=s.1.n:=congrArg D.n e1;exact P5.next_any wx (by omega) (by rw[hx]) h1
theorem pw_focus(h:Pw w B g p x vd Z s wx):Calls Tryz.prog 53 #[.pointer (some ⟨p,0,none⟩)] wx fun e w'=>e = .returned (.int .i64 s.1.foc)∧wx=w':=by
 obtain⟨x',vd',rs',h1,_,e1,_⟩:=h.at_;have:=P5.focus_any wx h1;rwa[show x'.foc=s.1.foc from congrArg D.foc e1] at this
theorem pw_inside(a b:Int)(h:Pw w B g p x vd Z s wx)(hwf:WF s.1):Calls Tryz.prog 157 #[.pointer (some ⟨p,0,none⟩),.int .i64 a,.int .i64 b] wx fun e w'=>e = .returned (.bool (inside s.1.l a b))∧Below wx.heap.size wx w':=by
 obtain⟨x',vd',rs',h1,_,e1,_⟩:=h.at_;rw[←e1] at hwf;have:=P6.pinside_any a b wx hwf h1;rwa[show x'.l=s.1.l from congrArg D.l e1] at this
def PwV(w:World)(B g p:Nat)(x:Dx)(vd:Value)(Z:Nat→Prop)(s:Sg)(r:Rc)(wx:World)(e:Ending)(w':World):Prop:=e = .returned (errV (applyD s.1 r).1)∧Pw w B g p x vd Z (doP s r) w'∧Kept Z wx w'
theorem z0_small:(⟨#[]⟩:ByteArray).size≤maxLen:=by unfold maxLen;decide
theorem wf_nil:P3.Wf []:=fun _ h=>absurd h (by simp)
theorem pw_put(i q b:Int)(h:Pw w B g p x vd Z s wx)(hwf:WF s.1)(hn:s.1.n≤100000)(hl:s.2.length≤1000000):
 Calls Tryz.prog 119 #[.pointer (some ⟨g,0,none⟩),.agg #[.int .i64 2,.int .i64 i,.int .i64 q,.int .i64 b,.string ⟨#[]⟩,.string ⟨#[]⟩,.string ⟨#[]⟩,.slice none 0 0]] wx (PwV w B g p x vd Z s (recPut i q b) wx):=
 pw_do (recPut i q b) none 0 0 h rfl hwf hn hl z0_small z0_small z0_small (AOk.nil_ wx) wf_nil (by omega)
theorem pw_gone(i:Int)(h:Pw w B g p x vd Z s wx)(hwf:WF s.1)(hn:s.1.n≤100000)(hl:s.2.length≤1000000):
 Calls Tryz.prog 119 #[.pointer (some ⟨g,0,none⟩),.agg #[.int .i64 3,.int .i64 i,.int .i64 0,.int .i64 0,.string ⟨#[]⟩,.string ⟨#[]⟩,.string ⟨#[]⟩,.slice none 0 0]] wx (PwV w B g p x vd Z s (recGone i) wx):=
 pw_do (recGone i) none 0 0 h rfl hwf hn hl z0_small z0_small z0_small (AOk.nil_ wx) wf_nil (by omega)
theorem pw_text(i:Int)(t:ByteArray)(h:Pw w B g p x vd Z s wx)(hwf:WF s.1)(hn:s.1.n≤100000)(hl:s.2.length≤1000000)(ht:t.size≤maxLen):
 Calls Tryz.prog 119 #[.pointer (some ⟨g,0,none⟩),.agg #[.int .i64 5,.int .i64 i,.int .i64 0,.int .i64 0,.string ⟨#[]⟩,.string t,.string ⟨#[]⟩,.slice none 0 0]] wx (PwV w B g p x vd Z s (recText i t) wx):=
 pw_do (recText i t) none 0 0 h rfl hwf hn hl z0_small ht z0_small (AOk.nil_ wx) wf_nil (by omega)
theorem pw_make(i:Int)(tag txt key:ByteArray)(h:Pw w B g p x vd Z s wx)(hwf:WF s.1)(hn:s.1.n≤100000)(hl:s.2.length≤1000000)(h1:tag.size≤maxLen)(h2:txt.size≤maxLen)(h3:key.size≤maxLen):
 Calls Tryz.prog 119 #[.pointer (some ⟨g,0,none⟩),.agg #[.int .i64 1,.int .i64 i,.int .i64 0,.int .i64 0,.string tag,.string txt,.string key,.slice none 0 0]] wx (PwV w B g p x vd Z s (recMake i tag txt key) wx):=
 pw_do (recMake i tag txt key) none 0 0 h rfl hwf hn hl h1 h2 h3 (AOk.nil_ wx) wf_nil (by omega)
theorem pw_attr(i:Int)(a:List P3.At)(A:Option Addr)(n c:Nat)(h:Pw w B g p x vd Z s wx)(hwf:WF s.1)(hn:s.1.n≤100000)(hl:s.2.length≤1000000)(hat:AOk wx ⟨A,n,c⟩ a)(ha:P3.Wf a)(few:n≤1000000):
 Calls Tryz.prog 119 #[.pointer (some ⟨g,0,none⟩),.agg #[.int .i64 4,.int .i64 i,.int .i64 0,.int .i64 0,.string ⟨#[]⟩,.string ⟨#[]⟩,.string ⟨#[]⟩,.slice A n c]] wx (PwV w B g p x vd Z s (recAttr i a) wx):=
 pw_do (recAttr i a) A n c h rfl hwf hn hl z0_small z0_small z0_small hat ha few
theorem Pw.but_(h:Pw w B g p x vd Z s wx):But (pfoot p x g vd) w wx:=by
 obtain⟨x',vd',rs',h1,_⟩:=h;exact h1.but
def topZ(w:World)(p:Nat)(x:Dx)(g:Nat)(vd:Value)(k:Nat):Prop:=k<w.heap.size∧¬pfoot p x g vd k
theorem topZ_kept(h:Kept (topZ w p x g vd) w w'):But (pfoot p x g vd) w w':=by
 obtain⟨F,h1,h2,_⟩:=h;exact h1.mono fun i hi hf=>Classical.byContradiction fun hn=>h2 i ⟨hi,hn⟩ hf
theorem Pw.top{rs:List RR}(h:Dc w B p x)(l:Lg w B g p vd rs):Pw w B g p x vd (topZ w p x g vd) (x.d,rs.map (·.r)) w:=Pw.start h l (fun _ hk=>hk)
theorem Pw.read{R:World→Prop}(h:Pw w B g p x vd Z s wx)(hr:∀w',But (pfoot p x g vd) w w'→R w'):R wx:=hr wx h.but_
end P19
end Go.Proofs.YtaklfomaibchnaaGreat
