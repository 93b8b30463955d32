/- A part of what the claimed theorem hangs on. No condition but those stated. -/
import Derived.Deep.DrawnRows
import Derived.Deep.RegionHeld3
import Derived.Deep.DeepCutAuto
import Derived.Deep.CutBlock
import Derived.Test.YtaklfomaibchnaaGreatM1
import Derived.Test.YtaklfomaibchnaaGreatM8
import Derived.Test.YtaklfomaibchnaaGreatM9
import Derived.Test.YtaklfomaibchnaaGreatM10
set_option linter.unusedVariables false
set_option linter.unusedSimpArgs false
set_option maxRecDepth 100000
set_option maxHeartbeats 40000000
namespace Go.Proofs.YtaklfomaibchnaaGreat
namespace P5
open Go.RowKit Kd P4
variable{B q:Nat}{y:Rx}
def outN(s:List Int)(l:List Rn):List Rn:=l.filter fun r=>!decide (r.nd.id∈s)
theorem outN_nd(s:List Int)(l:List Rn):(outN s l).map (·.nd)=outA s (l.map (·.nd)):=by
 unfold outN outA;rw[List.filter_map];rfl
theorem outN_take{s:List Int}{l:List Rn}{j:Nat}(hj:j<l.length):outN s (l.take (j+1))=if l[j].nd.id∈s then outN s (l.take j) else outN s (l.take j)++[l[j]]:=by
 unfold outN;rw[List.take_succ_eq_append_getElem hj,List.filter_append];by_cases e:l[j].nd.id∈s<;>simp[e]
theorem outN_mem{s:List Int}{l:List Rn}{r:Rn}(h:r∈outN s l):r∈l:=(List.mem_filter.1 h).1
theorem outN_len(s:List Int)(l:List Rn):(outN s l).length≤l.length:=List.length_filter_le _ _
theorem mem_take_succ{l:List Int}{x:Int}{j:Nat}(hj:j<l.length):decide (x∈l.take (j+1))=(decide (x∈l.take j) || l[j]==x):=by
 rw[List.take_succ_eq_append_getElem hj,Bool.eq_iff_iff,Bool.or_eq_true,decide_eq_true_eq,decide_eq_true_eq,List.mem_append,List.mem_singleton,beq_iff_eq];exact or_congr Iff.rfl eq_comm
theorem Rdid.relist{w w':World}{y1:Rx}(h:Rdid w B q y y1 w'){C:Nat}{v:Value}{rs':List Rn}(hC:w.heap.size≤C)(hq:q<w.heap.size)(hB:B≤C)(ho:kN.Own w' C v (rs'.map Rn.rn))(hs:∀r∈rs',r∈y1.rs):Rdid w B q y {y1 with v:=v,rs:=rs'} (w'.setCell ⟨q,0,none⟩ v):=by
 have hbut:But (fun k=>k=q) w' (w'.setCell ⟨q,0,none⟩ v):=But.setCell (S:=fun k=>k=q) (p:=⟨q,0,none⟩) (But.refl _ _) (fun _=>rfl) _;refine⟨⟨heap_set h.rf.blk 0 _,h.rf.base,(ho.keep fun g hg=>Below.heap_setCell _ _ _ _ ?_).base_le hB,fun s hss=>?_⟩,h.but.trans hbut (fun _ _ h=>h),fun i hi=>?_⟩
 ·rintro rfl;have:=(ho.lt hg).1;omega
 ·have hs2:=h.rf.nodes s (hs s hss);refine⟨hs2.att.but hbut (q_noA h.rf),hs2.kids.keep fun g hg=>hbut.block g (hs2.kids.lt hg).2 ?_⟩;rintro rfl;obtain⟨d,hd⟩:=hs2.kids.ty hg;exact heap_ne hd h.rf.blk (by decide) rfl
 ·rcases hi with e|e|⟨s,hss,e⟩
  ·exact h.ft i (.inl e)
  ·exact .inr (by have:=(ho.lt e).1;omega)
  ·exact h.ft i (.inr (.inr ⟨s,hs s hss,e⟩))
theorem cell_same{w w':World}{g:Nat}(e:w'.heap[g]? = w.heap[g]?)(o:Nat):w'.cell? ⟨g,o,none⟩=w.cell? ⟨g,o,none⟩:=by simp[World.cell?,e]
def focAt(bl:List Int)(foc:Int)(j:Nat):Int:=if foc∈bl.take j then 0 else foc
theorem focAt_succ{bl:List Int}{foc:Int}{j:Nat}(hj:j<bl.length):focAt bl foc (j+1)=if focAt bl foc j=bl[j] then 0 else focAt bl foc j:=by
 unfold focAt;rw[List.take_succ_eq_append_getElem hj];by_cases e:foc∈bl.take j
 ·rw[if_pos (List.mem_append.2 (.inl e)),if_pos e];split<;>rfl
 ·simp only[List.mem_append,e,false_or,List.mem_singleton,if_false]
theorem rgone_any(i:Int)(w:World)(hwf:WF y.d)(h:Rf w B q y):Calls Tryz.prog 70 #[.pointer (some ⟨q,0,none⟩),.int .i64 i] w (RMade w B q y (goneD y.d i).1 (goneD y.d i).2):=by
 have H0:=Zh h;have HWF:=Zh hwf;have HA:Hid (Asc y.l):=Zh hwf.asc;have hl:y.rs.length≤1000:=(by have:=hwf.len200;rw[show y.d.l=y.l from rfl,rl_len] at this;omega);have hqlt0:q<w.heap.size:=heap_lt h.blk;have HBB:Hid (B≤w.heap.size):=Zh (by have:=h.base;omega);cases hi:hasL y.l i with
 |false=>
  have HD:Hid (goneD y.d i=(2,y.d)):=Zh (by unfold goneD;rw[if_pos (show hasL y.d.l i=false from hi)]);have HI:=Zh hi;clear h hi hwf;go_enter Tryz.func70,Tryz.ntmps70;go_wp2_with fail;refine(at_no i w hl HI.out H0.out).mono ?_;rintro e w' ⟨rfl,rfl⟩;go_wp2_with fail;go_ret;rw[HD.out];exact RMade.same H0.out Ze rfl
 |true=>
  have hn2:¬hasL y.d.l i=false:=(by rw[show y.d.l=y.l from rfl,hi];simp);obtain⟨ki,hki,hyki,_⟩:=rplace HA.out hi;have HYki:=Zh hyki;have HIH:=Zh hi;by_cases h1:i=1
  ·have HD:Hid (goneD y.d i=(4,y.d)):=Zh (by unfold goneD;rw[if_neg hn2,if_pos h1]);have hq1:(i==1)=true:=(by simpa using h1);clear h hi hwf hn2 h1 hyki;go_enter Tryz.func70,Tryz.ntmps70;go_wp2_with fail;refine(at_yes i w HA.out hl hki HYki.out H0.out).mono ?_;rintro e w' ⟨rfl,rfl⟩;go_wp2_with fail;go_ret;rw[HD.out];exact RMade.same H0.out Ze rfl
  ·have HD:Hid (goneD y.d i=(0,{y.d with l:=goneL y.l i,foc:=if y.foc∈below (leaveL y.l i) i then 0 else y.foc})):=Zh (by unfold goneD;rw[if_neg hn2,if_neg h1];rfl);have hq1:(i==1)=false:=(by simpa using h1);clear h hi hwf hn2 h1 hyki;go_enter Tryz.func70,Tryz.ntmps70;go_wp2_with fail;refine(at_yes i w HA.out hl hki HYki.out H0.out).mono ?_;rintro e w' ⟨rfl,rfl⟩;go_wp2_with fail;refine(rleave_any i w HWF.out HIH.out H0.out).mono ?_;rintro e w6 ⟨rfl,v6,rs6,r6,l6⟩;obtain⟨y6,hy6⟩:∃y6:Rx,y6 = {y with v:=v6,rs:=rs6}:=⟨_,rfl⟩;have L6:Hid (y6.l=leaveL y.l i):=Zh (by rw[hy6];exact l6);have F6:Hid (y6.n=y.n∧y6.R=y.R∧y6.foc=y.foc):=Zh (by rw[hy6];exact⟨rfl,rfl,rfl⟩);rw[←hy6] at r6;have D6:=Zh r6;have HA6:Hid (Asc y6.l):=Zh (by rw[L6.out];exact asc_of_ids HA.out (leave_ids _ _));have hl6:y6.rs.length≤1000:=by
    have:=len_ids (leave_ids y.l i);rw[←L6.out,rl_len,rl_len] at this;omega
   have hI6:hasL y6.l i=true:=(by rw[L6.out,leave_has];exact HIH.out);have HT6:Hid (Tr (fun z=>hasL y6.l z=true) (parOf y6.l) (kidsOf y6.l)):=Zh (by rw[L6.out];exact leave_tr (i:=i) HWF.out.tr);have HB6:Hid (Hb (kidsOf y6.l) (y6.l.length+1) i):=Zh (by
    have:=HT6.out.hb_all (L:=idsOf y6.l) (fun y hy=>has_ids.1 hy) (y:=i) hI6;simpa[idsOf] using this)
   have HS6:Hid (∀f c,hasL y6.l c=true→(sub (kidsOf y6.l) f c).length≤1000):=Zh (fun f c hc=>by
    have h1:=nodup_len (sub (kidsOf y6.l) f c) (idsOf y6.l) (HT6.out.sub_nodup f c hc) (fun z hz=>has_ids.1 (HT6.out.sub_h f c z hc hz));simp only[idsOf,List.length_map,rl_len] at h1;omega)
   have HI6:=Zh hI6;clear r6 l6 hy6 hI6;go_wp2_with fail;refine(all_any HT6.out HA6.out hl6 HS6.out (y6.l.length+1) i w6 HB6.out HI6.out D6.out.rf).mono ?_;rintro e w7 ⟨A5,n5,c5,rfl,o5,b5⟩;obtain⟨bl,hbl⟩:∃bl,sub (kidsOf y6.l) (y6.l.length+1) i=bl:=⟨_,rfl⟩;rw[hbl] at o5;have HBL:Hid (goneL y.l i=outA bl y6.l∧below (leaveL y.l i) i=bl):=Zh (by
    have e:below (leaveL y.l i) i=bl:=(by rw[←hbl,L6.out];rfl);exact⟨by unfold goneL;rw[e,L6.out],e⟩)
   have D7:=Zh (D6.out.below b5);obtain⟨g1,g2,g3,g4,g5⟩:=own_nil_zero o5 rfl;have HK:=Zh g5;have HN:=Zh g1;have hn5:n5≤1000:=by
    have:=HS6.out (y6.l.length+1) i HI6.out;rw[hbl,g1] at this;exact this
   have hq6:q<w6.heap.size:=heap_lt D6.out.rf.blk;have HQK:Hid (∀g o,A5=some ⟨g,o,none⟩→g≠q):=Zh (by
    rintro g o rfl;rcases o5.form with⟨e,_⟩|⟨g',c',cur,e,_,hg',_⟩
    ·cases e
    ·injection e with e1;injection e1 with e1;injection e1 with e1;subst e1;omega)
   have hz67:w.heap.size≤w7.heap.size:=D7.out.but.size;obtain⟨nl,hnl⟩:∃nl,y6.rs.length=nl:=⟨_,rfl⟩;have HNL:=Zh hnl;have hnl2:nl≤1000:=(by omega);clear o5 b5 hbl g1 g2 g3 g4 g5 hnl HS6 HB6 D6;go_wp2_with fail;go_loopw [6,7] (fun s6 s7 wr=>∃j:Nat,j≤nl∧s7 = .int .i64 j∧Hid (kN.Own wr w7.heap.size s6 ((outN bl (y6.rs.take j)).map Rn.rn))∧Hid (Below w7.heap.size w7 wr)) (fun _ s7 _=>nl-(intOf s7).toNat)
   case atStart=>exact⟨0,by omega,rfl,Zh (by simpa[outN] using Kind.Own.nil kN w7 w7.heap.size),Zh Ze⟩
   case round=>
    obtain⟨j,hj,rfl,HO,HW⟩:=hrel;obtain⟨A6,n6,c6,rfl,h6,_⟩:=HO.out.slice;have hz7:=HW.out.size;have D8:=Zh (D7.out.below HW.out);obtain⟨AL,cL,hv,hcl,hcm,hz,hh⟩:=D8.out.rf.slice;have c0:=D8.out.rf.c0;rw[hv,HNL.out] at c0;rw[HNL.out] at hcl;clear hv hcm hz h6;by_cases hjn:j<nl
    ·have hjl:j<y6.rs.length:=(by have:=HNL.out;omega);obtain⟨b,o,rfl,hb,x0,x1,x2,x3,x4,x5,x6,x7⟩:=cell_of_nodes hh hjl;obtain⟨mi,hmi⟩:∃m,y6.rs[j].nd=m:=⟨_,rfl⟩;have HMI:=Zh hmi;obtain⟨Ai,ni,cai,hva⟩:∃A n c,y6.rs[j].va=⟨A,n,c⟩:=⟨_,_,_,rfl⟩;obtain⟨A2i,n2i,c2i,hvk⟩:∃A n c,y6.rs[j].vk=⟨A,n,c⟩:=⟨_,_,_,rfl⟩;rw[hmi] at x0 x1 x2 x3 x4 x7;rw[hva] at x5;rw[hvk] at x6;have HRN:Hid (y6.rs[j].rn=⟨mi.id,mi.par,mi.tag,mi.txt,mi.key,⟨Ai,ni,cai⟩,⟨A2i,n2i,c2i⟩,mi.note⟩):=Zh (by unfold Rn.rn;rw[hmi,hva,hvk]);have HOT:=Zh (outN_take (s:=bl) hjl);have hbw:b<wr.heap.size:=hb;have HLR:Hid ((outN bl (y6.rs.take j)).length≤1000):=Zh (Nat.le_trans (outN_len _ _) (by rw[List.length_take];omega));clear hh hmi hva hvk;go_wp2_with fail;obtain⟨wo,rfl⟩:∃wo:World,wo=wr:=⟨_,rfl⟩;go_loopw [8,9] (fun s8 s9 wi=>∃(k:Nat) (met:Bool),k≤n5∧s9 = .int .i64 k∧s8 = .bool met∧Hid (met=decide (mi.id∈bl.take k))∧Hid (Below wo.heap.size wo wi)) (fun _ s9 _=>n5-(intOf s9).toNat)
     case atStart=>exact⟨0,false,by omega,rfl,rfl,Zh (by simp),Zh Ze⟩
     case round=>
      obtain⟨k,met,hk,rfl,rfl,HM,HWi⟩:=hrel;have hq8:q<wo.heap.size:=(by omega);have c0':wr.cell? ⟨q,0,none⟩=some (.slice (some ⟨b,o,none⟩) nl cL):=(HWi.out.cell (p:=⟨q,0,none⟩) hq8).trans c0;have x0':wr.cell? ⟨b,o+j*8,none⟩=some (.int .i64 mi.id):=(HWi.out.cell (p:=⟨b,o+j*8,none⟩) hbw).trans x0;by_cases hkn:k<n5
      ·have hkl:k<bl.length:=(by have:=HN.out;omega);obtain⟨gb,go,rfl,hgb,hc7⟩:=cell_int HK.out hkl;have hc:wr.cell? ⟨gb,go+k,none⟩=some (.int .i64 bl[k]):=(HWi.out.cell (p:=⟨gb,go+k,none⟩) (by show gb<wo.heap.size;omega)).trans ((HW.out.cell (p:=⟨gb,go+k,none⟩) hgb).trans hc7);have HSU:=Zh (mem_take_succ (x:=mi.id) hkl);clear hc7 x1 x2 x3 x4 x5 x6 x7;cases met with
       |true=>
        have HM2:Hid (true=decide (mi.id∈bl.take (k+1))):=Zh (by rw[HSU.out,←HM.out];rfl);go_wp2_with fail;go_quiet (fail);go_wp2_with fail;go_roundw
        case rel=>exact⟨k+1,true,by omega,by go_num,rfl,HM2,Zh (Below_drewN HWi.out _)⟩
        case measure=>simp[intOf];omega
       |false=>
        obtain⟨eq,heq⟩:∃eq,(bl[k]==mi.id)=eq:=⟨_,rfl⟩;have HM2:Hid (eq=decide (mi.id∈bl.take (k+1))):=Zh (by rw[HSU.out,←HM.out,heq];rfl);cases eq<;>
        ·go_wp2_with fail;go_quiet (fail);go_wp2_with fail;go_roundw
         case rel=>exact⟨k+1,_,by omega,by go_num,rfl,HM2,Zh (Below_drewN HWi.out _)⟩
         case measure=>simp[intOf];omega
      ·obtain rfl:k=n5:=by omega
       have HM3:Hid (met=decide (mi.id∈bl)):=Zh (by have:=HM.out;rw[←HN.out,List.take_length] at this;exact this);have HW9:=Zh (HW.out.trans (HWi.out.mono hz7));have hz9:=HW9.out.size;have HO9:=Zh (HO.out.below HWi.out (Zl));clear hkn;cases met with
       |true=>
        have HOT2:Hid (outN bl (y6.rs.take (j+1))=outN bl (y6.rs.take j)):=Zh (by rw[HOT.out,HMI.out,if_pos (by have:=HM3.out;simpa using this.symm)]);go_wp2_with fail;go_roundw
        case rel=>exact⟨j+1,by omega,by go_num,Zh (by rw[HOT2.out];exact HO9.out),HW9⟩
        case measure=>simp[intOf];omega
       |false=>
        have HOT2:Hid ((outN bl (y6.rs.take (j+1))).map Rn.rn=(outN bl (y6.rs.take j)).map Rn.rn++[⟨mi.id,mi.par,mi.tag,mi.txt,mi.key,⟨Ai,ni,cai⟩,⟨A2i,n2i,c2i⟩,mi.note⟩]):=Zh (by
         rw[HOT.out,HMI.out,if_neg (by have:=HM3.out;simpa using this.symm),List.map_append,←HRN.out];rfl)
        have x1':wr.cell? ⟨b,o+j*8+1,none⟩=some (.int .i64 mi.par):=(HWi.out.cell (p:=⟨b,o+j*8+1,none⟩) hbw).trans x1;have x2':wr.cell? ⟨b,o+j*8+2,none⟩=some (.string mi.tag):=(HWi.out.cell (p:=⟨b,o+j*8+2,none⟩) hbw).trans x2;have x3':wr.cell? ⟨b,o+j*8+3,none⟩=some (.string mi.txt):=(HWi.out.cell (p:=⟨b,o+j*8+3,none⟩) hbw).trans x3;have x4':wr.cell? ⟨b,o+j*8+4,none⟩=some (.string mi.key):=(HWi.out.cell (p:=⟨b,o+j*8+4,none⟩) hbw).trans x4;have x5':wr.cell? ⟨b,o+j*8+5,none⟩=some (.slice Ai ni cai):=(HWi.out.cell (p:=⟨b,o+j*8+5,none⟩) hbw).trans x5;have x6':wr.cell? ⟨b,o+j*8+6,none⟩=some (.slice A2i n2i c2i):=(HWi.out.cell (p:=⟨b,o+j*8+6,none⟩) hbw).trans x6;have x7':wr.cell? ⟨b,o+j*8+7,none⟩=some (.int .i64 mi.note):=(HWi.out.cell (p:=⟨b,o+j*8+7,none⟩) hbw).trans x7;clear x0 x1 x2 x3 x4 x5 x6 x7 c0;go_wp2_with (at_builtin;refine kN.wp_app rfl _ _ rfl (v:=.slice A6 n6 c6) (l:=(outN bl (y6.rs.take j)).map Rn.rn) (m:=[⟨mi.id,mi.par,mi.tag,mi.txt,mi.key,⟨Ai,ni,cai⟩,⟨A2i,n2i,c2i⟩,mi.note⟩]) (B:=w7.heap.size) rfl (HO9.out.alloc _) rfl rfl (fun e=>by cases e) (Kind.Holds.lit (heap_alloc_new _ _) rfl) (by have:=HLR.out;simp;omega) (by simp;omega) ?_;intro v' w3 hown hgrow hat;obtain⟨A9,n9,c9,rfl,_,_,_,_,_⟩:=hown.slice);have HO4:Hid (kN.Own w3 w7.heap.size (.slice A9 n9 c9) ((outN bl (y6.rs.take (j+1))).map Rn.rn)):=Zh (by rw[HOT2.out];exact hown);have BW4:Hid (Below w7.heap.size w7 w3):=Zh ((HW9.out.alloc hz9 _).grown hgrow (by simp;omega) (fun k hk=>(HO9.out.lt hk).1));clear hown hgrow hat;go_wp2_with fail;go_roundw
        case rel=>exact⟨j+1,by omega,by go_num,HO4,BW4⟩
        case measure=>simp[intOf];omega
    ·obtain rfl:j=nl:=by omega
     have HO2:Hid (kN.Own wr w7.heap.size (.slice A6 n6 c6) ((outN bl y6.rs).map Rn.rn)):=Zh (by have:=HO.out;rw[←HNL.out,List.take_length] at this;exact this);have D9:Hid (Rdid w B q y {y6 with foc:=focAt bl y6.foc 0} wr):=Zh (by have:=D8.out;rwa[show({y6 with foc:=focAt bl y6.foc 0}:Rx)=y6 by unfold focAt;simp]);clear hjn hh hcl HO;go_wp2_with fail;obtain⟨wo,rfl⟩:∃wo:World,wo=wr:=⟨_,rfl⟩;clear c0;go_loopw [10] (fun s10 wi=>∃k:Nat,k≤n5∧s10 = .int .i64 k∧Hid (Rdid w B q y {y6 with foc:=focAt bl y6.foc k} wi)∧Hid (But (fun g=>g=q) wo wi)) (fun s10 _=>n5-(intOf s10).toNat)
     case atStart=>exact⟨0,by omega,rfl,D9,Zh (But.refl _ _)⟩
     case round=>
      obtain⟨k,hk,rfl,HDi,HBi⟩:=hrel;have c3:=HDi.out.rf.c3;have f3:=HDi.out.rf.frozen 3;simp only at c3;by_cases hkn:k<n5
      ·have hkl:k<bl.length:=(by have:=HN.out;omega);obtain⟨gb,go,rfl,hgb,hc7⟩:=cell_int HK.out hkl;have hgq:gb≠q:=HQK.out _ _ rfl;have hc:wr.cell? ⟨gb,go+k,none⟩=some (.int .i64 bl[k]):=by
        have e1:wo.cell? ⟨gb,go+k,none⟩=some (.int .i64 bl[k]):=(HW.out.cell (p:=⟨gb,go+k,none⟩) hgb).trans hc7;rw[←e1];exact cell_same (HBi.out.block gb (by omega) hgq) _
       have HFS:=Zh (focAt_succ (foc:=y6.foc) hkl);generalize focAt bl y6.foc k=fk at c3 HFS HDi;by_cases he:fk=bl[k]
       ·have hqe:(fk==bl[k])=true:=(by simpa using he);have HF2:Hid (focAt bl y6.foc (k+1)=0):=Zh (by rw[HFS.out,if_pos he]);clear he hc7;generalize bl[k]=kd at hc hqe;go_wp2_with fail;go_quiet (fail);have f3':(wr.drewN nq).frozen? ⟨q,3,none⟩=false:=f3;have c3':(wr.drewN nq).cell? ⟨q,3,none⟩=some (.int .i64 fk):=c3;have D10:=Zh ((HDi.out.below (Below_drewN Ze nq)).trans ((HDi.out.rf.drewN nq).focus 0));have B10:Hid (But (fun g=>g=q) wo ((wr.drewN nq).setCell ⟨q,3,none⟩ (.int .i64 0))):=Zh (But.setCell (S:=fun g=>g=q) (p:=⟨q,3,none⟩) (HBi.out.drewN nq) (fun _=>rfl) _);clear c3 f3 hc HDi;generalize wr.drewN nq=wq at f3' c3' D10 B10⊢;go_wp2_with fail;go_roundw
        case rel=>exact⟨k+1,by omega,by go_num,Zh (by rw[HF2.out];exact D10.out),B10⟩
        case measure=>simp[intOf];omega
       ·have hqe:(fk==bl[k])=false:=(by simpa using he);have HF2:Hid (focAt bl y6.foc (k+1)=fk):=Zh (by rw[HFS.out,if_neg he]);clear he hc7;generalize bl[k]=kd at hc hqe;go_wp2_with fail;go_quiet (fail);go_wp2_with fail;go_roundw
        case rel=>exact⟨k+1,by omega,by go_num,Zh (by rw[HF2.out];exact HDi.out.below (Below_drewN Ze _)),Zh (HBi.out.drewN _)⟩
        case measure=>simp[intOf];omega
      ·obtain rfl:k=n5:=by omega
       have HF3:Hid (focAt bl y6.foc k=if y6.foc∈bl then 0 else y6.foc):=Zh (by unfold focAt;rw[←HN.out,List.take_length]);have HO5:Hid (kN.Own wr w7.heap.size (.slice A6 n6 c6) ((outN bl y6.rs).map Rn.rn)):=Zh (HO2.out.keep fun g hg=>HBi.out.block g (HO2.out.lt hg).2 (by have:=(HO2.out.lt hg).1;omega));have f0:=HDi.out.rf.frozen 0;have c0:=HDi.out.rf.c0;have D11:=Zh (HDi.out.relist (by omega:w.heap.size≤w7.heap.size) hqlt0 (by have:=HBB.out;omega) HO5.out (fun r hr=>outN_mem hr));clear hkn;go_wp2_with fail;go_ret;rw[HD.out];refine⟨rfl,_,D11.out,?_⟩;show D.mk ((outN bl y6.rs).map (·.nd)) y6.n y6.R (focAt bl y6.foc k)=D.mk _ _ _ _;rw[outN_nd,HF3.out,F6.out.1,F6.out.2.1,F6.out.2.2,HBL.out.2];show D.mk (outA bl y6.l) _ _ _=_;rw[←HBL.out.1];rfl
variable{B q:Nat}{y:Rx}
theorem rapply_none(r:Rc)(A:Option Addr)(n c:Nat)(w:World)(q1:(r.op==1)=false)(q2:(r.op==2)=false)(q3:(r.op==3)=false)(q4:(r.op != 4)=true)(q5:(r.op != 5)=true)(h:Rf w B q y):Calls Tryz.prog 29 #[.pointer (some ⟨q,0,none⟩),.agg #[.int .i64 r.op,.int .i64 r.id,.int .i64 r.par,.int .i64 r.bef,.string r.tag,.string r.txt,.string r.key,.slice A n c]] w (RMade w B q y 1 y.d):=by
 have B1:Hid (Below w.heap.size w (w.alloc (.cells #[.int .i64 r.op,.int .i64 r.id,.int .i64 r.par,.int .i64 r.bef,.string r.tag,.string r.txt,.string r.key,.slice A n c] 71))):=Zh (Zb _ _);have N1:Hid (RcB (w.alloc (.cells #[.int .i64 r.op,.int .i64 r.id,.int .i64 r.par,.int .i64 r.bef,.string r.tag,.string r.txt,.string r.key,.slice A n c] 71)) w.heap.size r A n c):=Zh (RcB.new w r A n c);have H0:=Zh h;clear h;go_enter Tryz.func29,Tryz.ntmps29;go_upto_region 1 with fail;generalize w.alloc (.cells #[.int .i64 r.op,.int .i64 r.id,.int .i64 r.par,.int .i64 r.bef,.string r.tag,.string r.txt,.string r.key,.slice A n c] 71)=W at B1 N1⊢;have H:=Zh (H0.out.below B1.out);have b0:=N1.out.c0;have b1:=N1.out.c1;have b5:=N1.out.c5;have b7:=N1.out.c7;go_wp2_with fail;go_ret;exact RMade.same H0.out B1.out rfl
theorem rapply_data(r:Rc)(A:Option Addr)(n c:Nat)(w:World)(ha:Asc y.l)(hl:y.rs.length≤1000)(ht:r.txt.size≤maxLen)(q1:(r.op==1)=false)(q2:(r.op==2)=false)(q3:(r.op==3)=false)(q4:(r.op != 4)=true)(q5:(r.op != 5)=false)(q6:(r.op==4)=false)(h:Rf w B q y):Calls Tryz.prog 29 #[.pointer (some ⟨q,0,none⟩),.agg #[.int .i64 r.op,.int .i64 r.id,.int .i64 r.par,.int .i64 r.bef,.string r.tag,.string r.txt,.string r.key,.slice A n c]] w (RMade w B q y (dataD y.d r.id r.txt).1 (dataD y.d r.id r.txt).2):=by
 have B1:Hid (Below w.heap.size w (w.alloc (.cells #[.int .i64 r.op,.int .i64 r.id,.int .i64 r.par,.int .i64 r.bef,.string r.tag,.string r.txt,.string r.key,.slice A n c] 71))):=Zh (Zb _ _);have N1:Hid (RcB (w.alloc (.cells #[.int .i64 r.op,.int .i64 r.id,.int .i64 r.par,.int .i64 r.bef,.string r.tag,.string r.txt,.string r.key,.slice A n c] 71)) w.heap.size r A n c):=Zh (RcB.new w r A n c);have H0:=Zh h;have HA:=Zh ha;clear h;cases hi:hasL y.l r.id with
 |false=>
  have HD:Hid (dataD y.d r.id r.txt=(2,y.d)):=Zh (by unfold dataD;rw[if_pos (show hasL y.d.l r.id=false from hi)]);have HI:=Zh hi;clear ha hi;go_enter Tryz.func29,Tryz.ntmps29;go_upto_region 1 with fail;generalize w.alloc (.cells #[.int .i64 r.op,.int .i64 r.id,.int .i64 r.par,.int .i64 r.bef,.string r.tag,.string r.txt,.string r.key,.slice A n c] 71)=W at B1 N1⊢;have H:=Zh (H0.out.below B1.out);have b0:=N1.out.c0;have b1:=N1.out.c1;have b5:=N1.out.c5;have b7:=N1.out.c7;go_wp2_with fail;refine(at_no r.id W hl HI.out H.out).mono ?_;rintro e w' ⟨rfl,rfl⟩;go_wp2_with fail;go_ret;rw[HD.out];exact RMade.same H0.out B1.out rfl
 |true=>
  go_enter Tryz.func29,Tryz.ntmps29;go_upto_region 1 with fail;generalize w.alloc (.cells #[.int .i64 r.op,.int .i64 r.id,.int .i64 r.par,.int .i64 r.bef,.string r.tag,.string r.txt,.string r.key,.slice A n c] 71)=W at B1 N1⊢;have H:=Zh (H0.out.below B1.out);have b0:=N1.out.c0;have b1:=N1.out.c1;have b5:=N1.out.c5;have b7:=N1.out.c7;have hh:¬hasL y.d.l r.id=false:=(by rw[show y.d.l=y.l from rfl,hi];simp);obtain⟨k,hk,hy,_⟩:=rplace HA.out hi;obtain⟨b,o,cl,A1,nn,ca,A2,n2,c2,hv,hcl,hb,d0,L,hva,hvk⟩:=H.out.lies hk;have HVA:=Zh hva;have HVK:=Zh hvk;have HY:=Zh hy;obtain⟨nl,hnl⟩:∃nl,y.rs.length=nl:=⟨_,rfl⟩;have HNL:=Zh hnl;have hkn:k<nl:=(by omega);have hl2:nl≤1000:=(by omega);rw[hnl] at d0 hcl;obtain⟨m,hm⟩:∃m,y.rs[k].nd=m:=⟨_,rfl⟩;have HM:=Zh hm;rw[hm] at L;have l0:=L.c0;have l1:=L.c1;have l2:=L.c2;have l3:=L.c3;have l4:=L.c4;have l5:=L.c5;have l6:=L.c6;have l7:=L.c7;have hqlt:=heap_lt H.out.blk;have hgA:∀g,(Value.slice A2 n2 c2).ownBlock=some g→rfoot q y g:=fun g hg=> .inr (.inr ⟨_,List.getElem_mem hk,by rw[hvk];exact hg⟩)
  have HGA:=Zh hgA;have hR:=H.out.nodes _ (List.getElem_mem hk);rw[show y.rs[k]=(⟨⟨A1,nn,ca⟩,⟨A2,n2,c2⟩,m⟩:Rn) by cases e:y.rs[k];rw[e] at hva hvk hm;cases hva;cases hvk;cases hm;rfl] at hR;have HR:=Zh hR;clear hv hva hvk hnl hm L hgA hR;have htg:tagOf y.d.l r.id=m.tag:=(by rw[←HM.out];exact(rtag_at HA.out hk HY.out).1);have HTG:=Zh htg;have HH:=Zh hh;clear ha hi hy htg hh;have N2:Hid (NdB (W.alloc (.cells #[.int .i64 m.id,.int .i64 m.par,.string m.tag,.string m.txt,.string m.key,.slice A1 nn ca,.slice A2 n2 c2,.int .i64 m.note] 48)) W.heap.size m A1 nn ca A2 n2 c2):=Zh (NdB.new W m A1 nn ca A2 n2 c2);have B2:Hid (Below w.heap.size w (W.alloc (.cells #[.int .i64 m.id,.int .i64 m.par,.string m.tag,.string m.txt,.string m.key,.slice A1 nn ca,.slice A2 n2 c2,.int .i64 m.note] 48))):=Zh (B1.out.alloc B1.out.size _);have BW:Hid (Below W.heap.size W (W.alloc (.cells #[.int .i64 m.id,.int .i64 m.par,.string m.tag,.string m.txt,.string m.key,.slice A1 nn ca,.slice A2 n2 c2,.int .i64 m.note] 48))):=Zh (Zb _ _);have N3:Hid (RcB (W.alloc (.cells #[.int .i64 m.id,.int .i64 m.par,.string m.tag,.string m.txt,.string m.key,.slice A1 nn ca,.slice A2 n2 c2,.int .i64 m.note] 48)) w.heap.size r A n c):=Zh (heap_up N1.out);go_wp2_with fail;refine(at_yes r.id W HA.out hl hk HY.out H.out).mono ?_;rintro e w' ⟨rfl,rfl⟩;go_upto_region 14 with fail;generalize W.alloc (.cells #[.int .i64 m.id,.int .i64 m.par,.string m.tag,.string m.txt,.string m.key,.slice A1 nn ca,.slice A2 n2 c2,.int .i64 m.note] 48)=W2 at N2 B2 BW N3⊢;clear l0 l1 l2 l3 l4 l5 l6 l7 d0 b0 b1 b5 b7;have b0:=N3.out.c0;have b5:=N3.out.c5;have a2:=N2.out.c2;have a3:=N2.out.c3;have f3:=N2.out.frozen 3;obtain⟨bt,hbt⟩:∃bt,P1.textB r.txt.data.toList=bt:=⟨_,rfl⟩;have HBT:=Zh hbt;clear hbt;go_wp2_with fail;refine(P3.rtext_at r.txt W2 HBT.out ht).mono ?_;rintro e w' ⟨rfl,rfl⟩;cases tE:m.tag.toList.isEmpty with
  |false=>
   have HD:Hid (dataD y.d r.id r.txt=(3,y.d)):=Zh (by unfold dataD;rw[if_neg HH.out,if_pos];rw[HTG.out];intro e;rw[e] at tE;cases tE);go_wp2_with fail;go_ret;rw[HD.out];exact RMade.same H0.out B2.out rfl
  |true=>
   have HE:Hid (¬(tagOf y.d.l r.id).toList≠[]):=Zh (by rw[HTG.out];simpa using tE);cases bt with
   |false=>
    have HD:Hid (dataD y.d r.id r.txt=(1,y.d)):=Zh (by unfold dataD;rw[if_neg HH.out,if_neg HE.out,if_pos HBT.out]);go_wp2_with fail;go_ret;rw[HD.out];exact RMade.same H0.out B2.out rfl
   |true=>
    have HD:Hid (dataD y.d r.id r.txt=(0,{y.d with l:=upd y.l r.id (withTxt r.txt)})):=Zh (by unfold dataD;rw[if_neg HH.out,if_neg HE.out,if_neg (by rw[HBT.out];simp)];rfl);have N4:Hid (NdB (W2.setCell ⟨W.heap.size,3,none⟩ (.string r.txt)) W.heap.size (withTxt r.txt m) A1 nn ca A2 n2 c2):=Zh (heap_set N2.out 3 (.string r.txt));have B4:Hid (Below w.heap.size w (W2.setCell ⟨W.heap.size,3,none⟩ (.string r.txt))):=Zh (Below.setCell B2.out (by exact B1.out.size) _);have BW4:Hid (Below W.heap.size W (W2.setCell ⟨W.heap.size,3,none⟩ (.string r.txt))):=Zh (Below.setCell BW.out (by exact Zl) _);go_upto_region 27 with fail;generalize W2.setCell ⟨W.heap.size,3,none⟩ (.string r.txt)=W4 at N4 B4 BW4⊢;clear a2 a3 f3 b0 b5;have a0:=N4.out.c0;have a1:=N4.out.c1;have a2:=N4.out.c2;have a3:=N4.out.c3;have a4:=N4.out.c4;have a5:=N4.out.c5;have a6:=N4.out.c6;have a7:=N4.out.c7;go_wp2_with fail;refine(set_any k (withTxt r.txt m) A1 nn ca A2 n2 c2 W4 HA.out hl hk (by rw[HM.out];rfl) ⟨(HR.out.below BW4.out).att,(HR.out.below BW4.out).kids⟩ (H0.out.below B4.out)).mono ?_;rintro e w5 ⟨rfl,v5,r5⟩;have R5:=Zh (r5.made B4.out HGA.out HA.out hk HY.out (withTxt r.txt) (by rw[HM.out]));clear r5;go_wp2_with fail;go_ret;rw[HD.out];exact⟨rfl,R5.out⟩
theorem rapply_attrs(r:Rc)(A:Option Addr)(n c:Nat)(w:World)(ha:Asc y.l)(hl:y.rs.length≤1000)(ht:ArgA w A n c r.attrs)(q1:(r.op==1)=false)(q2:(r.op==2)=false)(q3:(r.op==3)=false)(q4:(r.op != 4)=false)(q6:(r.op==4)=true)(h:Rf w B q y):Calls Tryz.prog 29 #[.pointer (some ⟨q,0,none⟩),.agg #[.int .i64 r.op,.int .i64 r.id,.int .i64 r.par,.int .i64 r.bef,.string r.tag,.string r.txt,.string r.key,.slice A n c]] w (RMade w B q y (attrsD y.d r.id r.attrs).1 (attrsD y.d r.id r.attrs).2):=by
 have B1:Hid (Below w.heap.size w (w.alloc (.cells #[.int .i64 r.op,.int .i64 r.id,.int .i64 r.par,.int .i64 r.bef,.string r.tag,.string r.txt,.string r.key,.slice A n c] 71))):=Zh (Zb _ _);have N1:Hid (RcB (w.alloc (.cells #[.int .i64 r.op,.int .i64 r.id,.int .i64 r.par,.int .i64 r.bef,.string r.tag,.string r.txt,.string r.key,.slice A n c] 71)) w.heap.size r A n c):=Zh (RcB.new w r A n c);have H0:=Zh h;have HA:=Zh ha;have HT:=Zh ht;clear h ht;cases hi:hasL y.l r.id with
 |false=>
  have HD:Hid (attrsD y.d r.id r.attrs=(2,y.d)):=Zh (by unfold attrsD;rw[if_pos (show hasL y.d.l r.id=false from hi)]);have HI:=Zh hi;clear ha hi;go_enter Tryz.func29,Tryz.ntmps29;go_upto_region 1 with fail;generalize w.alloc (.cells #[.int .i64 r.op,.int .i64 r.id,.int .i64 r.par,.int .i64 r.bef,.string r.tag,.string r.txt,.string r.key,.slice A n c] 71)=W at B1 N1⊢;have H:=Zh (H0.out.below B1.out);have b0:=N1.out.c0;have b1:=N1.out.c1;have b5:=N1.out.c5;have b7:=N1.out.c7;go_wp2_with fail;refine(at_no r.id W hl HI.out H.out).mono ?_;rintro e w' ⟨rfl,rfl⟩;go_wp2_with fail;go_ret;rw[HD.out];exact RMade.same H0.out B1.out rfl
 |true=>
  go_enter Tryz.func29,Tryz.ntmps29;go_upto_region 1 with fail;generalize w.alloc (.cells #[.int .i64 r.op,.int .i64 r.id,.int .i64 r.par,.int .i64 r.bef,.string r.tag,.string r.txt,.string r.key,.slice A n c] 71)=W at B1 N1⊢;have H:=Zh (H0.out.below B1.out);have b0:=N1.out.c0;have b1:=N1.out.c1;have b5:=N1.out.c5;have b7:=N1.out.c7;have hh:¬hasL y.d.l r.id=false:=(by rw[show y.d.l=y.l from rfl,hi];simp);obtain⟨k,hk,hy,_⟩:=rplace HA.out hi;obtain⟨b,o,cl,A1,nn,ca,A2,n2,c2,hv,hcl,hb,d0,L,hva,hvk⟩:=H.out.lies hk;have HVA:=Zh hva;have HVK:=Zh hvk;have HY:=Zh hy;obtain⟨nl,hnl⟩:∃nl,y.rs.length=nl:=⟨_,rfl⟩;have HNL:=Zh hnl;have hkn:k<nl:=(by omega);have hl2:nl≤1000:=(by omega);rw[hnl] at d0 hcl;obtain⟨m,hm⟩:∃m,y.rs[k].nd=m:=⟨_,rfl⟩;have HM:=Zh hm;rw[hm] at L;have l0:=L.c0;have l1:=L.c1;have l2:=L.c2;have l3:=L.c3;have l4:=L.c4;have l5:=L.c5;have l6:=L.c6;have l7:=L.c7;have hqlt:=heap_lt H.out.blk;have hgA:∀g,(Value.slice A2 n2 c2).ownBlock=some g→rfoot q y g:=fun g hg=> .inr (.inr ⟨_,List.getElem_mem hk,by rw[hvk];exact hg⟩)
  have HGA:=Zh hgA;have hR:=H.out.nodes _ (List.getElem_mem hk);rw[show y.rs[k]=(⟨⟨A1,nn,ca⟩,⟨A2,n2,c2⟩,m⟩:Rn) by cases e:y.rs[k];rw[e] at hva hvk hm;cases hva;cases hvk;cases hm;rfl] at hR;have HR:=Zh hR;clear hv hva hvk hnl hm L hgA hR;have htg:tagOf y.d.l r.id=m.tag:=(by rw[←HM.out];exact(rtag_at HA.out hk HY.out).1);have HTG:=Zh htg;have HH:=Zh hh;clear ha hi hy htg hh;have N2:Hid (NdB (W.alloc (.cells #[.int .i64 m.id,.int .i64 m.par,.string m.tag,.string m.txt,.string m.key,.slice A1 nn ca,.slice A2 n2 c2,.int .i64 m.note] 48)) W.heap.size m A1 nn ca A2 n2 c2):=Zh (NdB.new W m A1 nn ca A2 n2 c2);have B2:Hid (Below w.heap.size w (W.alloc (.cells #[.int .i64 m.id,.int .i64 m.par,.string m.tag,.string m.txt,.string m.key,.slice A1 nn ca,.slice A2 n2 c2,.int .i64 m.note] 48))):=Zh (B1.out.alloc B1.out.size _);have BW:Hid (Below W.heap.size W (W.alloc (.cells #[.int .i64 m.id,.int .i64 m.par,.string m.tag,.string m.txt,.string m.key,.slice A1 nn ca,.slice A2 n2 c2,.int .i64 m.note] 48))):=Zh (Zb _ _);have N3:Hid (RcB (W.alloc (.cells #[.int .i64 m.id,.int .i64 m.par,.string m.tag,.string m.txt,.string m.key,.slice A1 nn ca,.slice A2 n2 c2,.int .i64 m.note] 48)) w.heap.size r A n c):=Zh (heap_up N1.out);go_wp2_with fail;refine(at_yes r.id W HA.out hl hk HY.out H.out).mono ?_;rintro e w' ⟨rfl,rfl⟩;go_upto_region 14 with fail;generalize W.alloc (.cells #[.int .i64 m.id,.int .i64 m.par,.string m.tag,.string m.txt,.string m.key,.slice A1 nn ca,.slice A2 n2 c2,.int .i64 m.note] 48)=W2 at N2 B2 BW N3⊢;clear l0 l1 l2 l3 l4 l5 l6 l7 d0 b0 b1 b5 b7;have b0:=N3.out.c0;have b7:=N3.out.c7;obtain⟨bt,hbt⟩:∃bt,P3.mayA r.attrs=bt:=⟨_,rfl⟩;have HBT:=Zh hbt;clear hbt;go_wp2_with fail;refine(P3.rmay_any r.attrs A n c W2 HT.out.len HT.out.few HT.out.wf (p3holds (HT.out.below B2.out).holds)).mono ?_;rintro e w3 ⟨rfl,bb3⟩;rw[HBT.out];have B3:=Zh (B2.out.trans (bb3.mono B2.out.size));have N5:=Zh (N2.out.below bb3 N2.out.lt);have R5:=Zh (N3.out.below bb3 N3.out.lt);have BW3:=Zh (BW.out.trans (bb3.mono BW.out.size));have hg3:W.heap.size<w3.heap.size:=N5.out.lt;clear bb3 b0 b7;have a2:=N5.out.c2;cases tE:m.tag.toList.isEmpty with
  |true=>
   have HD:Hid (attrsD y.d r.id r.attrs=(3,y.d)):=Zh (by unfold attrsD;rw[if_neg HH.out,if_pos];rw[HTG.out];simpa using tE);go_wp2_with fail;go_ret;rw[HD.out];exact RMade.same H0.out B3.out rfl
  |false=>
   have HE:Hid (¬(tagOf y.d.l r.id).toList=[]):=Zh (by rw[HTG.out];intro e;rw[e] at tE;cases tE);cases bt with
   |false=>
    have HD:Hid (attrsD y.d r.id r.attrs=(1,y.d)):=Zh (by unfold attrsD;rw[if_neg HH.out,if_neg HE.out,if_pos HBT.out]);go_wp2_with fail;go_ret;rw[HD.out];exact RMade.same H0.out B3.out rfl
   |true=>
    have HD:Hid (attrsD y.d r.id r.attrs=(0,{y.d with l:=upd y.l r.id (withAttrs r.attrs)})):=Zh (by unfold attrsD;rw[if_neg HH.out,if_neg HE.out,if_neg (by rw[HBT.out];simp)];rfl);have OM:Hid (kA.Own (w3.alloc (.cells #[] 121)) w3.heap.size (.slice (some ⟨w3.heap.size,0,none⟩) 0 0) []):=Zh (Kind.Own.made kA w3 w3.heap.size (Zl));have b7:(w3.alloc (.cells #[] 121)).cell? ⟨w.heap.size,7,none⟩=some (.slice A n c):=RcB.c7 (heap_up R5.out);have HHA:=Zh ((HT.out.below B3.out).holds.below ((Below.refl w3.heap.size w3).alloc (Zl) (.cells #[] 121)) (Zl));have hfew:=HT.out.few;go_upto_region 27 with(at_builtin;refine kA.wp_app rfl _ _ rfl (v:=.slice (some ⟨w3.heap.size,0,none⟩) 0 0) (l:=[]) (m:=r.attrs) (B:=w3.heap.size) rfl OM.out rfl HT.out.len HT.out.nil HHA.out (by simp;omega) (by simp) ?_;intro v' w4 hown hgrow hat;obtain⟨A6,n6,c6,rfl,_,_,_,_,_⟩:=hown.slice;have B34:Hid (Below w3.heap.size w3 w4):=Zh (Below.grown (Zb _ _) hgrow (by simp) (fun k hk=>by simp[Value.ownBlock] at hk;omega));have HOA:=Zh hown;clear hown hgrow hat;have N6:=Zh (N5.out.below B34.out hg3);have f5:=N6.out.frozen 5;have a5:=N6.out.c5);have HAO:Hid (AOk w4 ⟨A6,n6,c6⟩ r.attrs):=Zh (by
     obtain⟨s,hs,h2⟩:=AOk.own HOA.out;obtain⟨sA,sn,sc⟩:=s;cases hs;exact h2)
    have N4:Hid (NdB (w4.setCell ⟨W.heap.size,5,none⟩ (.slice A6 n6 c6)) W.heap.size (withAttrs r.attrs m) A6 n6 c6 A2 n2 c2):=Zh (heap_set N6.out 5 (.slice A6 n6 c6));have B4:Hid (Below w.heap.size w (w4.setCell ⟨W.heap.size,5,none⟩ (.slice A6 n6 c6))):=Zh (Below.setCell (B3.out.trans (B34.out.mono B3.out.size)) (by exact B1.out.size) _);have BW4:Hid (Below W.heap.size W (w4.setCell ⟨W.heap.size,5,none⟩ (.slice A6 n6 c6))):=Zh (Below.setCell (BW3.out.trans (B34.out.mono BW3.out.size)) (by exact Zl) _);have HA4:Hid (AOk (w4.setCell ⟨W.heap.size,5,none⟩ (.slice A6 n6 c6)) ⟨A6,n6,c6⟩ r.attrs):=Zh (HAO.out.but (But.setCell (S:=fun k=>k=W.heap.size) (p:=⟨W.heap.size,5,none⟩) (But.refl _ _) (fun _=>rfl) _) N6.out.noA);generalize w4.setCell ⟨W.heap.size,5,none⟩ (.slice A6 n6 c6)=W4 at N4 B4 BW4 HA4⊢;clear a2 a5 f5 b7;have a0:=N4.out.c0;have a1:=N4.out.c1;have a2:=N4.out.c2;have a3:=N4.out.c3;have a4:=N4.out.c4;have a5:=N4.out.c5;have a6:=N4.out.c6;have a7:=N4.out.c7;go_wp2_with fail;refine(set_any k (withAttrs r.attrs m) A6 n6 c6 A2 n2 c2 W4 HA.out hl hk (by rw[HM.out];rfl) ⟨HA4.out,(HR.out.below BW4.out).kids⟩ (H0.out.below B4.out)).mono ?_;rintro e w5 ⟨rfl,v5,r5⟩;have R6:=Zh (r5.made B4.out HGA.out HA.out hk HY.out (withAttrs r.attrs) (by rw[HM.out]));clear r5;go_wp2_with fail;go_ret;rw[HD.out];exact⟨rfl,R6.out⟩
variable{B q:Nat}{y:Rx}
attribute [local go_sem ↓] Go.wp_at_zero Go.wp_at_succ
theorem own_zeroN{w:World}{B' g:Nat}(hg:w.heap[g]? = some (.cells #[] 48 (0,0)))(hB:B'≤g):kN.Own w B' (.slice (some ⟨g,0,none⟩) 0 0) []:=
 Kind.own_mk (K:=kN) (cur:=#[]) rfl hB hg (Zl) (by simp[maxLen]) (by simp) (by simp[Kind.cells])
theorem rmade_end{w w5:World}(h:Rf w B q y)(hb:Below w.heap.size w w5){v:Value}{r:Rn}(hr:r.vk=⟨none,0,0⟩)(hv:r.va=⟨none,0,0⟩)(hk:r.nd.kids=[])(ha:r.nd.attrs=[])(ho:kN.Own w5 w.heap.size v ((y.rs++[r]).map Rn.rn)):
 Rdid w B q y {y with v:=v,rs:=y.rs++[r]} (w5.setCell ⟨q,0,none⟩ v):=by
 have hq:=heap_lt h.blk;have hbut:But (fun k=>k=q) w (w5.setCell ⟨q,0,none⟩ v):=But.setCell (S:=fun k=>k=q) (p:=⟨q,0,none⟩) (But.of_below hb _) (fun _=>rfl) _;refine⟨⟨heap_set ((hb.block q hq).trans h.blk) 0 _,h.base,(ho.keep fun g hg=>Below.heap_setCell _ _ _ _ ?_).base_le (by have:=h.base;omega),fun s hs=>?_⟩,hbut,fun i hi=>?_⟩
 ·rintro rfl;have:=(ho.lt hg).1;omega
 ·rcases List.mem_append.1 hs with hs|hs
  ·have hs2:=h.nodes s hs;refine⟨hs2.att.but hbut (q_noA h),hs2.kids.keep fun g hg=>hbut.block g (hs2.kids.lt hg).2 ?_⟩;rintro rfl;obtain⟨d,hd⟩:=hs2.kids.ty hg;exact heap_ne hd h.blk (by decide) rfl
  ·rw[List.mem_singleton] at hs;subst hs;exact⟨by rw[hv,ha];exact AOk.nil_ _,by rw[hr,hk];exact Kind.Own.nil _ _ _⟩
 ·rcases hi with e|e|⟨s,hs,e⟩
  ·exact .inl (.inl e)
  ·exact .inr (ho.lt e).1
  ·rcases List.mem_append.1 hs with hs|hs
   ·exact .inl (.inr (.inr ⟨s,hs,e⟩))
   ·rw[List.mem_singleton] at hs;subst hs;rw[hr] at e;cases e
theorem mayMake_eq(tag txt key:ByteArray):mayMake tag txt key=if tag.toList.isEmpty then P1.textB txt.data.toList&&key.toList.isEmpty else P1.nameB tag.data.toList&&P1.textB key.data.toList&&txt.toList.isEmpty:=by
 have d:∀l:List UInt8,decide (l=[])=l.isEmpty:=fun l=>by cases l<;>simp
 unfold mayMake;rw[d,d];cases h:tag.toList<;>simp
theorem rmake_any(r:Rc)(A:Option Addr)(n c:Nat)(w:World)(hwf:WF y.d)(hn:y.n≤100000)(h1:r.tag.size≤maxLen)(h2:r.txt.size≤maxLen)(h3:r.key.size≤maxLen)(h:Rf w B q y):
 Calls Tryz.prog 68 #[.pointer (some ⟨q,0,none⟩),.agg #[.int .i64 r.op,.int .i64 r.id,.int .i64 r.par,.int .i64 r.bef,.string r.tag,.string r.txt,.string r.key,.slice A n c]] w (RMade w B q y (makeD y.d r).1 (makeD y.d r).2):=by
 have H:=Zh h;have hl:y.rs.length≤1000:=(by have:=hwf.len200;rw[show y.d.l=y.l from rfl,rl_len] at this;omega);have hRR:y.R≤1000:=(by have:=hwf.room;rw[show y.d.R=y.R from rfl] at this;omega);have hn0:1≤y.n:=hwf.n0;have B1:Hid (Below w.heap.size w (w.alloc (.cells #[.int .i64 r.op,.int .i64 r.id,.int .i64 r.par,.int .i64 r.bef,.string r.tag,.string r.txt,.string r.key,.slice A n c] 71))):=Zh (Zb _ _);have N1:Hid (RcB (w.alloc (.cells #[.int .i64 r.op,.int .i64 r.id,.int .i64 r.par,.int .i64 r.bef,.string r.tag,.string r.txt,.string r.key,.slice A n c] 71)) w.heap.size r A n c):=Zh (RcB.new w r A n c);clear h hwf;go_enter Tryz.func68,Tryz.ntmps68;go_upto_region 1 with fail;generalize w.alloc (.cells #[.int .i64 r.op,.int .i64 r.id,.int .i64 r.par,.int .i64 r.bef,.string r.tag,.string r.txt,.string r.key,.slice A n c] 71)=W at B1 N1⊢;have H1:=Zh (H.out.below B1.out);have c1:=H1.out.c1;have b1:=N1.out.c1;have b4:=N1.out.c4;have b5:=N1.out.c5;have b6:=N1.out.c6;by_cases hi:r.id=y.n+1
 ·have hi2:(r.id != y.n+1)=false:=(by simpa using hi);obtain⟨mm,hmm⟩:∃mm,mayMake r.tag r.txt r.key=mm:=⟨_,rfl⟩;have HMM:=Zh hmm;rw[mayMake_eq] at hmm;obtain⟨ba,ha⟩:∃a,P1.nameB r.tag.data.toList=a:=⟨_,rfl⟩;obtain⟨bb,hb⟩:∃a,P1.textB r.key.data.toList=a:=⟨_,rfl⟩;obtain⟨bc,hc⟩:∃a,P1.textB r.txt.data.toList=a:=⟨_,rfl⟩;rw[ha,hb,hc] at hmm;have HA:=Zh ha;have HB:=Zh hb;have HC:=Zh hc;have HM:=Zh hmm;have HII:=Zh hi;clear hmm ha hb hc hi;go_quiet (fail);go_wp2_with fail;refine(P3.rname_at r.tag _ HA.out h1).mono ?_;rintro e w' ⟨rfl,rfl⟩;go_wp2_with fail;refine(P3.rtext_at r.key _ HB.out h3).mono ?_;rintro e w' ⟨rfl,rfl⟩;go_wp2_with fail;refine(P3.rtext_at r.txt _ HC.out h2).mono ?_;rintro e w' ⟨rfl,rfl⟩;go_upto_region 6 with fail;go_cut [53] (fun s wx=>s = .bool (!mm)∧Hid (Below w.heap.size w wx)∧Hid (RcB wx w.heap.size r A n c))
  case first=>
   have BD:=Zh (Below_drewN B1.out nq);have ND:Hid (RcB (W.drewN nq) w.heap.size r A n c):=Zh N1.out;cases tE:r.tag.toList.isEmpty with
   |true=>
    cases bc with
    |false=>
     go_wp2_with fail;go_meet;exact⟨by rw[←HM.out,tE];rfl,BD,ND⟩
    |true=>
     cases kE:r.key.toList.isEmpty
     all_goals
      go_wp2_with fail;go_meet;exact⟨by rw[←HM.out,tE,kE];rfl,BD,ND⟩
   |false=>
    cases ba with
    |false=>
     go_wp2_with fail;go_meet;exact⟨by rw[←HM.out,tE];rfl,BD,ND⟩
    |true=>
     cases bb with
     |false=>
      go_wp2_with fail;go_meet;exact⟨by rw[←HM.out,tE];rfl,BD,ND⟩
     |true=>
      cases xE:r.txt.toList.isEmpty
      all_goals
       go_wp2_with fail;go_meet;exact⟨by rw[←HM.out,tE,xE];rfl,BD,ND⟩
  case rest=>
   obtain⟨rfl,B2,N2⟩:=hcut;obtain⟨w2,rfl⟩:∃w2,w2=wc:=⟨_,rfl⟩;cases mm with
   |false=>
    have HD:Hid (makeD y.d r=(1,y.d)):=Zh (by unfold makeD;rw[if_pos (.inr HMM.out)]);go_wp2_with fail;go_ret;rw[HD.out];exact RMade.same H.out B2.out rfl
   |true=>
    have H2:=Zh (H.out.below B2.out);obtain⟨AL,cL,hv,hcl,hcm,hz,hh⟩:=H2.out.slice;have d0:=H2.out.c0;rw[hv] at d0;have d2:=H2.out.c2;have HV:=Zh hv;have HZ:=Zh hz;have HH:=Zh hh;obtain⟨nl,hnl⟩:∃nl,y.rs.length=nl:=⟨_,rfl⟩;have HNL:=Zh hnl;rw[hnl] at d0 hl hcl;have c1:¬(r.id≠y.d.n+1∨mayMake r.tag r.txt r.key=false):=by
     rintro(e|e)
     ·exact e HII.out
     ·rw[HMM.out] at e;cases e
    have HC1:=Zh c1;clear hv hz hh hnl c1 hcm;by_cases hg:y.R≤nl
    ·have HD:Hid (makeD y.d r=(6,y.d)):=Zh (by unfold makeD;rw[if_neg HC1.out,if_pos];show y.R≤y.l.length;rw[rl_len,HNL.out];exact hg);have q1:decide ((y.R:Int)≤(nl:Int))=true:=(by simp;omega);have q2:decide ((nl:Int)<(y.R:Int))=false:=(by simp;omega);have q3:decide (y.R≤nl)=true:=(by simp;omega);go_wp2_with fail;go_quiet (fail);go_wp2_with fail;go_ret;rw[HD.out];exact RMade.same H.out (by exact Below_drewN B2.out _) rfl
    ·have HD:Hid (makeD y.d r=(0,{y.d with l:=y.d.l++[newN r.id r.tag r.txt r.key],n:=y.d.n+1})):=Zh (by unfold makeD;rw[if_neg HC1.out,if_neg];show¬y.R≤y.l.length;rw[rl_len,HNL.out];exact hg);have q1:decide ((y.R:Int)≤(nl:Int))=false:=(by simp;omega);have q2:decide ((nl:Int)<(y.R:Int))=true:=(by simp;omega);have q3:decide (y.R≤nl)=false:=(by simp;omega);have q4:nl<y.R:=(by omega);clear hg;go_wp2_with fail;go_quiet (fail);go_upto_region 10 with fail;have B3:=Zh (Below_drewN B2.out nq);have N3:Hid (RcB (w2.drewN nq) w.heap.size r A n c):=Zh N2.out;have HH3:Hid (kN.Holds (w2.drewN nq) (w2.drewN nq).heap.size AL (y.rs.map Rn.rn)):=Zh (HH.out.drewN nq);have H3:=Zh (H2.out.drewN nq);have d3:(w2.drewN nq).cell? ⟨q,0,none⟩=some (.slice AL nl cL):=d0;clear d0 d2 q1 q2 q3 q4 B2 N2 HH H2 H1 B1 N1 c1 b1 b4 b5 b6;generalize w2.drewN nq=W3 at B3 N3 HH3 H3 d3⊢;have f3:=H3.out.frozen 0;have b1:=N3.out.c1;have b4:=N3.out.c4;have b5:=N3.out.c5;have b6:=N3.out.c6;have hq3:q<W3.heap.size:=heap_lt H3.out.blk;have hne:¬q=w.heap.size:=(by have:=heap_lt H.out.blk;omega);have far:∀(W:World) (j:Nat) (v:Value),(W.setCell ⟨q,0,none⟩ v).cell? ⟨w.heap.size,j,none⟩=W.cell? ⟨w.heap.size,j,none⟩:=fun W j v=>World.cell?_setCell_far _ _ _ _ hne
     refine Tl.region_last (S:=(fun w'=>w'.cell? ⟨q,0,none⟩=some (.slice AL nl cL)∧w'.cell? ⟨w.heap.size,1,none⟩=some (.int .i64 r.id)∧w'.cell? ⟨w.heap.size,4,none⟩=some (.string r.tag)∧w'.cell? ⟨w.heap.size,5,none⟩=some (.string r.txt)∧w'.cell? ⟨w.heap.size,6,none⟩=some (.string r.key))) (by kernel_rfl) 20 _ rfl rfl rfl (by kernel_rfl) (by go_keep) (fun hHeld=>?_);simp only[List.setIfInBounds_toArray,List.set_cons_zero,List.set_cons_succ,Tl.idle];refine Zn 0 ?_;refine Zn 2 ?_;refine Zn 3 ?_;refine Zn 4 ?_;refine Zn 5 ?_;refine Zn 7 ?_;refine Zn 8 ?_;refine Zn 9 ?_;refine Zn 10 ?_;refine Zn 11 ?_;refine Zn 12 ?_;refine Zn 13 ?_;refine Zn 14 ?_;refine Zn 15 ?_;refine Zr [1,16] ?_;refine AllReadyH.cons rfl (fun K hK=>?_) ?_
     ·go_simp;refine hK.out _ _ ?_ (fun hHeld=>?_)
      ·go_keep
      clear hK K;(try simp only[Zs]);refine Zr [6,16] ?_;refine AllReadyH.cons rfl (fun K hK=>?_) ?_
      ·refine kN.step_app rfl (.tmp 65) (.tmp 69) rfl (v:=.slice (some ⟨_,0,Option.none⟩) 0 0) (l:=[]) (m:=y.rs.map Rn.rn) (B:=W3.heap.size) rfl (own_zeroN (by first|exact heap_drew (heap_top (by simp))|exact heap_drew (heap_up (heap_top (by simp)))) (by first|exact Zl|(simp;done)|(simp;omega))) rfl (by rw[List.length_map];exact HNL.out) HZ.out (HH3.out.on (by repeat (first|exact Ze|refine Below.drew ?_|refine Below.alloc ?_ (by first|exact Zl|(simp;done)|(simp;omega)) _))) (by simp;omega) (by first|exact Zl|(simp;done)|(simp;omega)) ?_;intro v4 w4 hown4 hgrow4 hat4;have O4:=Zh hown4;have B4:Hid (Below W3.heap.size W3 w4):=Zh (Below.grown (a:=W3) (by repeat (first|exact Ze|refine Below.drew ?_|refine Below.alloc ?_ (by first|exact Zl|(simp;done)|(simp;omega)) _)) hgrow4 (by first|exact Zl|(simp;done)|(simp;omega)) (fun k hk=>by simp[Value.ownBlock] at hk;omega));have d4:w4.cell? ⟨q,0,Option.none⟩=some (.slice AL nl cL):=(B4.out.cell (by exact hq3)).trans d3;have g41:=(N3.out.below B4.out N3.out.lt).c1;have g44:=(N3.out.below B4.out N3.out.lt).c4;have g45:=(N3.out.below B4.out N3.out.lt).c5;have g46:=(N3.out.below B4.out N3.out.lt).c6;have hz4:=B4.out.size;have GR4:=Zh hgrow4;clear hown4 hgrow4 hat4;refine hK.out _ _ ?_ (fun hHeld=>?_)
       ·exact⟨d4,g41,g44,g45,g46⟩
       clear hK K;(try simp only[Zs]);refine Zr [16] ?_;refine AllReadyH.cons rfl (fun K hK=>?_) ?_
       ·go_simp;refine hK.out _ _ ?_ (fun hHeld=>?_)
        ·go_keep
        clear hK K;(try simp only[Zs]);refine Zr [17] ?_;refine AllReadyH.cons rfl (fun K hK=>?_) ?_
        ·refine kN.step_app rfl (.tmp 70) (.tmp 80) rfl (v:=v4) (l:=[]++y.rs.map Rn.rn) (m:=[⟨r.id,0,r.tag,r.txt,r.key,⟨none,0,0⟩,⟨none,0,0⟩,0⟩]) (B:=W3.heap.size) rfl (by first|exact O4.out|exact O4.out.alloc _) rfl rfl (fun e=>by cases e) (by first|exact Kind.Holds.lit (heap_alloc_new _ _) rfl|exact Kind.Holds.lit ((GR4.out.block _ (by first|(simp;done)|(simp;omega)) (by simp[Value.ownBlock])).trans (heap_drew (heap_top (by simp)))) rfl|exact Kind.Holds.lit ((GR4.out.block _ (by first|(simp;done)|(simp;omega)) (by simp[Value.ownBlock])).trans (heap_drew (heap_up (heap_top (by simp))))) rfl) (by have:=HNL.out;simp;omega) (by first|exact hz4|(simp;omega)) ?_;intro v5 w5 hown5 hgrow5 hat5;obtain⟨A7,n7,c7,rfl,_,_,_,_,_⟩:=hown5.slice;have O5:=Zh hown5;have B5:Hid (Below W3.heap.size W3 w5):=Zh (Below.grown (a:=W3) (by first|exact B4.out|exact B4.out.alloc hz4 _) hgrow5 (by first|exact hz4|(simp;omega)) (fun k hk=>(O4.out.lt hk).1));have d5:w5.cell? ⟨q,0,Option.none⟩=some (.slice AL nl cL):=(B5.out.cell (by exact hq3)).trans d3;have f5:w5.frozen? ⟨q,0,Option.none⟩=false:=(H3.out.below B5.out).frozen 0;have g51:=(N3.out.below B5.out N3.out.lt).c1;have g54:=(N3.out.below B5.out N3.out.lt).c4;have g55:=(N3.out.below B5.out N3.out.lt).c5;have g56:=(N3.out.below B5.out N3.out.lt).c6;clear hown5 hgrow5 hat5;refine hK.out _ _ ?_ (fun hHeld=>?_)
         ·exact⟨d5,g51,g54,g55,g56⟩
         clear hK K;(try simp only[Zs]);refine Zn 18 ?_;refine Zn 19 ?_;refine Zn 20 ?_;refine wpAnyH_done (by kernel_rfl) ?_ _;intro K hK;go_simp;refine hK _ _ ?_;clear hK K;have D5:=Zh (rmade_end (r:=⟨⟨none,0,0⟩,⟨none,0,0⟩,newN r.id r.tag r.txt r.key⟩) H3.out B5.out rfl rfl rfl rfl (by rw[List.map_append];exact O5.out));generalize w5.setCell ⟨q,0,none⟩ (.slice A7 n7 c7)=W7 at D5⊢;clear d5 f5 g51 g54 g55 g56 d4 g41 g44 g45 g46 O4 B4 hz4 GR4 O5 B5;have e1:=D5.out.rf.c1;have f1:=D5.out.rf.frozen 1;have RD:=Zh (((Rdid.below_ H.out B3.out).trans D5.out).trans (D5.out.rf.next (y.n+1)));clear D5;simp only at e1;go_wp2_with fail;go_ret;rw[HD.out];refine⟨rfl,_,RD.out,?_⟩;show D.mk ((y.rs++[(⟨⟨none,0,0⟩,⟨none,0,0⟩,newN r.id r.tag r.txt r.key⟩:Rn)]).map (·.nd)) _ _ _=D.mk _ _ _ _;rw[List.map_append];rfl
        exact AllReadyH.nil
       exact AllReadyH.nil
      refine AllReadyH.cons rfl (fun K hK=>?_) ?_
      ·go_simp;refine hK.out _ _ ?_ (fun hHeld=>?_)
       ·go_keep
       clear hK K;(try simp only[Zs]);refine Zr [6] ?_;refine AllReadyH.cons rfl (fun K hK=>?_) ?_
       ·refine kN.step_app rfl (.tmp 65) (.tmp 69) rfl (v:=.slice (some ⟨_,0,Option.none⟩) 0 0) (l:=[]) (m:=y.rs.map Rn.rn) (B:=W3.heap.size) rfl (own_zeroN (by first|exact heap_drew (heap_top (by simp))|exact heap_drew (heap_up (heap_top (by simp)))) (by first|exact Zl|(simp;done)|(simp;omega))) rfl (by rw[List.length_map];exact HNL.out) HZ.out (HH3.out.on (by repeat (first|exact Ze|refine Below.drew ?_|refine Below.alloc ?_ (by first|exact Zl|(simp;done)|(simp;omega)) _))) (by simp;omega) (by first|exact Zl|(simp;done)|(simp;omega)) ?_;intro v4 w4 hown4 hgrow4 hat4;have O4:=Zh hown4;have B4:Hid (Below W3.heap.size W3 w4):=Zh (Below.grown (a:=W3) (by repeat (first|exact Ze|refine Below.drew ?_|refine Below.alloc ?_ (by first|exact Zl|(simp;done)|(simp;omega)) _)) hgrow4 (by first|exact Zl|(simp;done)|(simp;omega)) (fun k hk=>by simp[Value.ownBlock] at hk;omega));have d4:w4.cell? ⟨q,0,Option.none⟩=some (.slice AL nl cL):=(B4.out.cell (by exact hq3)).trans d3;have g41:=(N3.out.below B4.out N3.out.lt).c1;have g44:=(N3.out.below B4.out N3.out.lt).c4;have g45:=(N3.out.below B4.out N3.out.lt).c5;have g46:=(N3.out.below B4.out N3.out.lt).c6;have hz4:=B4.out.size;have GR4:=Zh hgrow4;clear hown4 hgrow4 hat4;refine hK.out _ _ ?_ (fun hHeld=>?_)
        ·exact⟨d4,g41,g44,g45,g46⟩
        clear hK K;(try simp only[Zs]);refine Zr [17] ?_;refine AllReadyH.cons rfl (fun K hK=>?_) ?_
        ·refine kN.step_app rfl (.tmp 70) (.tmp 80) rfl (v:=v4) (l:=[]++y.rs.map Rn.rn) (m:=[⟨r.id,0,r.tag,r.txt,r.key,⟨none,0,0⟩,⟨none,0,0⟩,0⟩]) (B:=W3.heap.size) rfl (by first|exact O4.out|exact O4.out.alloc _) rfl rfl (fun e=>by cases e) (by first|exact Kind.Holds.lit (heap_alloc_new _ _) rfl|exact Kind.Holds.lit ((GR4.out.block _ (by first|(simp;done)|(simp;omega)) (by simp[Value.ownBlock])).trans (heap_drew (heap_top (by simp)))) rfl|exact Kind.Holds.lit ((GR4.out.block _ (by first|(simp;done)|(simp;omega)) (by simp[Value.ownBlock])).trans (heap_drew (heap_up (heap_top (by simp))))) rfl) (by have:=HNL.out;simp;omega) (by first|exact hz4|(simp;omega)) ?_;intro v5 w5 hown5 hgrow5 hat5;obtain⟨A7,n7,c7,rfl,_,_,_,_,_⟩:=hown5.slice;have O5:=Zh hown5;have B5:Hid (Below W3.heap.size W3 w5):=Zh (Below.grown (a:=W3) (by first|exact B4.out|exact B4.out.alloc hz4 _) hgrow5 (by first|exact hz4|(simp;omega)) (fun k hk=>(O4.out.lt hk).1));have d5:w5.cell? ⟨q,0,Option.none⟩=some (.slice AL nl cL):=(B5.out.cell (by exact hq3)).trans d3;have f5:w5.frozen? ⟨q,0,Option.none⟩=false:=(H3.out.below B5.out).frozen 0;have g51:=(N3.out.below B5.out N3.out.lt).c1;have g54:=(N3.out.below B5.out N3.out.lt).c4;have g55:=(N3.out.below B5.out N3.out.lt).c5;have g56:=(N3.out.below B5.out N3.out.lt).c6;clear hown5 hgrow5 hat5;refine hK.out _ _ ?_ (fun hHeld=>?_)
         ·exact⟨d5,g51,g54,g55,g56⟩
         clear hK K;(try simp only[Zs]);refine Zn 18 ?_;refine Zn 19 ?_;refine Zn 20 ?_;refine wpAnyH_done (by kernel_rfl) ?_ _;intro K hK;go_simp;refine hK _ _ ?_;clear hK K;have D5:=Zh (rmade_end (r:=⟨⟨none,0,0⟩,⟨none,0,0⟩,newN r.id r.tag r.txt r.key⟩) H3.out B5.out rfl rfl rfl rfl (by rw[List.map_append];exact O5.out));generalize w5.setCell ⟨q,0,none⟩ (.slice A7 n7 c7)=W7 at D5⊢;clear d5 f5 g51 g54 g55 g56 d4 g41 g44 g45 g46 O4 B4 hz4 GR4 O5 B5;have e1:=D5.out.rf.c1;have f1:=D5.out.rf.frozen 1;have RD:=Zh (((Rdid.below_ H.out B3.out).trans D5.out).trans (D5.out.rf.next (y.n+1)));clear D5;simp only at e1;go_wp2_with fail;go_ret;rw[HD.out];refine⟨rfl,_,RD.out,?_⟩;show D.mk ((y.rs++[(⟨⟨none,0,0⟩,⟨none,0,0⟩,newN r.id r.tag r.txt r.key⟩:Rn)]).map (·.nd)) _ _ _=D.mk _ _ _ _;rw[List.map_append];rfl
        exact AllReadyH.nil
       exact AllReadyH.nil
      exact AllReadyH.nil
     refine AllReadyH.cons rfl (fun K hK=>?_) ?_
     ·go_simp;refine hK.out _ _ ?_ (fun hHeld=>?_)
      ·go_keep
      clear hK K;(try simp only[Zs]);refine Zr [1] ?_;refine AllReadyH.cons rfl (fun K hK=>?_) ?_
      ·go_simp;refine hK.out _ _ ?_ (fun hHeld=>?_)
       ·go_keep
       clear hK K;(try simp only[Zs]);refine Zr [6] ?_;refine AllReadyH.cons rfl (fun K hK=>?_) ?_
       ·refine kN.step_app rfl (.tmp 65) (.tmp 69) rfl (v:=.slice (some ⟨_,0,Option.none⟩) 0 0) (l:=[]) (m:=y.rs.map Rn.rn) (B:=W3.heap.size) rfl (own_zeroN (by first|exact heap_drew (heap_top (by simp))|exact heap_drew (heap_up (heap_top (by simp)))) (by first|exact Zl|(simp;done)|(simp;omega))) rfl (by rw[List.length_map];exact HNL.out) HZ.out (HH3.out.on (by repeat (first|exact Ze|refine Below.drew ?_|refine Below.alloc ?_ (by first|exact Zl|(simp;done)|(simp;omega)) _))) (by simp;omega) (by first|exact Zl|(simp;done)|(simp;omega)) ?_;intro v4 w4 hown4 hgrow4 hat4;have O4:=Zh hown4;have B4:Hid (Below W3.heap.size W3 w4):=Zh (Below.grown (a:=W3) (by repeat (first|exact Ze|refine Below.drew ?_|refine Below.alloc ?_ (by first|exact Zl|(simp;done)|(simp;omega)) _)) hgrow4 (by first|exact Zl|(simp;done)|(simp;omega)) (fun k hk=>by simp[Value.ownBlock] at hk;omega));have d4:w4.cell? ⟨q,0,Option.none⟩=some (.slice AL nl cL):=(B4.out.cell (by exact hq3)).trans d3;have g41:=(N3.out.below B4.out N3.out.lt).c1;have g44:=(N3.out.below B4.out N3.out.lt).c4;have g45:=(N3.out.below B4.out N3.out.lt).c5;have g46:=(N3.out.below B4.out N3.out.lt).c6;have hz4:=B4.out.size;have GR4:=Zh hgrow4;clear hown4 hgrow4 hat4;refine hK.out _ _ ?_ (fun hHeld=>?_)
        ·exact⟨d4,g41,g44,g45,g46⟩
        clear hK K;(try simp only[Zs]);refine Zr [17] ?_;refine AllReadyH.cons rfl (fun K hK=>?_) ?_
        ·refine kN.step_app rfl (.tmp 70) (.tmp 80) rfl (v:=v4) (l:=[]++y.rs.map Rn.rn) (m:=[⟨r.id,0,r.tag,r.txt,r.key,⟨none,0,0⟩,⟨none,0,0⟩,0⟩]) (B:=W3.heap.size) rfl (by first|exact O4.out|exact O4.out.alloc _) rfl rfl (fun e=>by cases e) (by first|exact Kind.Holds.lit (heap_alloc_new _ _) rfl|exact Kind.Holds.lit ((GR4.out.block _ (by first|(simp;done)|(simp;omega)) (by simp[Value.ownBlock])).trans (heap_drew (heap_top (by simp)))) rfl|exact Kind.Holds.lit ((GR4.out.block _ (by first|(simp;done)|(simp;omega)) (by simp[Value.ownBlock])).trans (heap_drew (heap_up (heap_top (by simp))))) rfl) (by have:=HNL.out;simp;omega) (by first|exact hz4|(simp;omega)) ?_;intro v5 w5 hown5 hgrow5 hat5;obtain⟨A7,n7,c7,rfl,_,_,_,_,_⟩:=hown5.slice;have O5:=Zh hown5;have B5:Hid (Below W3.heap.size W3 w5):=Zh (Below.grown (a:=W3) (by first|exact B4.out|exact B4.out.alloc hz4 _) hgrow5 (by first|exact hz4|(simp;omega)) (fun k hk=>(O4.out.lt hk).1));have d5:w5.cell? ⟨q,0,Option.none⟩=some (.slice AL nl cL):=(B5.out.cell (by exact hq3)).trans d3;have f5:w5.frozen? ⟨q,0,Option.none⟩=false:=(H3.out.below B5.out).frozen 0;have g51:=(N3.out.below B5.out N3.out.lt).c1;have g54:=(N3.out.below B5.out N3.out.lt).c4;have g55:=(N3.out.below B5.out N3.out.lt).c5;have g56:=(N3.out.below B5.out N3.out.lt).c6;clear hown5 hgrow5 hat5;refine hK.out _ _ ?_ (fun hHeld=>?_)
         ·exact⟨d5,g51,g54,g55,g56⟩
         clear hK K;(try simp only[Zs]);refine Zn 18 ?_;refine Zn 19 ?_;refine Zn 20 ?_;refine wpAnyH_done (by kernel_rfl) ?_ _;intro K hK;go_simp;refine hK _ _ ?_;clear hK K;have D5:=Zh (rmade_end (r:=⟨⟨none,0,0⟩,⟨none,0,0⟩,newN r.id r.tag r.txt r.key⟩) H3.out B5.out rfl rfl rfl rfl (by rw[List.map_append];exact O5.out));generalize w5.setCell ⟨q,0,none⟩ (.slice A7 n7 c7)=W7 at D5⊢;clear d5 f5 g51 g54 g55 g56 d4 g41 g44 g45 g46 O4 B4 hz4 GR4 O5 B5;have e1:=D5.out.rf.c1;have f1:=D5.out.rf.frozen 1;have RD:=Zh (((Rdid.below_ H.out B3.out).trans D5.out).trans (D5.out.rf.next (y.n+1)));clear D5;simp only at e1;go_wp2_with fail;go_ret;rw[HD.out];refine⟨rfl,_,RD.out,?_⟩;show D.mk ((y.rs++[(⟨⟨none,0,0⟩,⟨none,0,0⟩,newN r.id r.tag r.txt r.key⟩:Rn)]).map (·.nd)) _ _ _=D.mk _ _ _ _;rw[List.map_append];rfl
        exact AllReadyH.nil
       exact AllReadyH.nil
      exact AllReadyH.nil
     exact AllReadyH.nil
 ·have hi2:(r.id != y.n+1)=true:=(by simpa using hi);have HD:Hid (makeD y.d r=(1,y.d)):=Zh (by unfold makeD;rw[if_pos (.inl hi)]);go_quiet (fail);go_wp2_with fail;go_ret;rw[HD.out];exact RMade.same H.out (by exact Below_drewN B1.out _) rfl
variable{B q:Nat}{y:Rx}
theorem rput_any(r:Rc)(A:Option Addr)(n c:Nat)(w:World)(hwf:WF y.d)(h:Rf w B q y):Calls Tryz.prog 69 #[.pointer (some ⟨q,0,none⟩),.agg #[.int .i64 r.op,.int .i64 r.id,.int .i64 r.par,.int .i64 r.bef,.string r.tag,.string r.txt,.string r.key,.slice A n c]] w (RMade w B q y (putD y.d r.id r.par r.bef).1 (putD y.d r.id r.par r.bef).2):=by
 have hl:y.rs.length≤1000:=(by have:=hwf.len200;rw[show y.d.l=y.l from rfl,rl_len] at this;omega);by_cases h0:putErr y.l r.id r.par r.bef=0
 ·have e:putD y.d r.id r.par r.bef=(0,{y.d with l:=putL y.l r.id r.par r.bef}):=(by unfold putD;rw[if_pos (show putErr y.d.l r.id r.par r.bef=0 from h0)];rfl);rw[e];have hk:=putErr_ok h0;have h1:(r.id==1)=false:=(by simpa using hk.h1);by_cases hb:r.bef=0
  ·exact rput_y0 r A n c w hwf.asc hl hk.hi hk.hp (by simpa using hb) h1 hwf hk.hk hk.hn hb h
  ·obtain⟨b1,b2,b3⟩:=hk.hb.resolve_left hb;exact rput_y1 r A n c w hwf.asc hl hk.hi hk.hp (by simpa using hb) b1 h1 hwf hk.hk hk.hn hb (by simpa using b2) (by simpa using b3) h
 ·have e:putD y.d r.id r.par r.bef=(putErr y.l r.id r.par r.bef,y.d):=(by unfold putD;rw[if_neg (show¬putErr y.d.l r.id r.par r.bef=0 from h0)];rfl);rw[e];exact rput_no r A n c w hwf.asc hl h0 h
theorem rapply_make(r:Rc)(A:Option Addr)(n c:Nat)(w:World)(hwf:WF y.d)(hn:y.n≤100000)(h1:r.tag.size≤maxLen)(h2:r.txt.size≤maxLen)(h3:r.key.size≤maxLen)(q1:(r.op==1)=true)(h:Rf w B q y):Calls Tryz.prog 29 #[.pointer (some ⟨q,0,none⟩),.agg #[.int .i64 r.op,.int .i64 r.id,.int .i64 r.par,.int .i64 r.bef,.string r.tag,.string r.txt,.string r.key,.slice A n c]] w (RMade w B q y (makeD y.d r).1 (makeD y.d r).2):=by
 have B1:Hid (Below w.heap.size w (w.alloc (.cells #[.int .i64 r.op,.int .i64 r.id,.int .i64 r.par,.int .i64 r.bef,.string r.tag,.string r.txt,.string r.key,.slice A n c] 71))):=Zh (Zb _ _);have N1:Hid (RcB (w.alloc (.cells #[.int .i64 r.op,.int .i64 r.id,.int .i64 r.par,.int .i64 r.bef,.string r.tag,.string r.txt,.string r.key,.slice A n c] 71)) w.heap.size r A n c):=Zh (RcB.new w r A n c);have H0:=Zh h;have HWF:=Zh hwf;clear h hwf;go_enter Tryz.func29,Tryz.ntmps29;go_upto_region 1 with fail;generalize w.alloc (.cells #[.int .i64 r.op,.int .i64 r.id,.int .i64 r.par,.int .i64 r.bef,.string r.tag,.string r.txt,.string r.key,.slice A n c] 71)=W at B1 N1⊢;have H:=Zh (H0.out.below B1.out);have b0:=N1.out.c0;have b1:=N1.out.c1;have b5:=N1.out.c5;have b7:=N1.out.c7;have b2:=N1.out.c2;have b3:=N1.out.c3;have b4:=N1.out.c4;have b6:=N1.out.c6;go_wp2_with fail;refine(rmake_any r A n c W HWF.out hn h1 h2 h3 H.out).mono ?_;rintro e w' ⟨rfl,y',d',e'⟩;have D':=Zh ((Rdid.below_ H0.out B1.out).trans d');have E':=Zh e';clear d' e';go_wp2_with fail;go_ret;exact⟨rfl,_,D'.out,E'.out⟩
theorem rapply_put(r:Rc)(A:Option Addr)(n c:Nat)(w:World)(hwf:WF y.d)(q1:(r.op==1)=false)(q2:(r.op==2)=true)(h:Rf w B q y):Calls Tryz.prog 29 #[.pointer (some ⟨q,0,none⟩),.agg #[.int .i64 r.op,.int .i64 r.id,.int .i64 r.par,.int .i64 r.bef,.string r.tag,.string r.txt,.string r.key,.slice A n c]] w (RMade w B q y (putD y.d r.id r.par r.bef).1 (putD y.d r.id r.par r.bef).2):=by
 have B1:Hid (Below w.heap.size w (w.alloc (.cells #[.int .i64 r.op,.int .i64 r.id,.int .i64 r.par,.int .i64 r.bef,.string r.tag,.string r.txt,.string r.key,.slice A n c] 71))):=Zh (Zb _ _);have N1:Hid (RcB (w.alloc (.cells #[.int .i64 r.op,.int .i64 r.id,.int .i64 r.par,.int .i64 r.bef,.string r.tag,.string r.txt,.string r.key,.slice A n c] 71)) w.heap.size r A n c):=Zh (RcB.new w r A n c);have H0:=Zh h;have HWF:=Zh hwf;clear h hwf;go_enter Tryz.func29,Tryz.ntmps29;go_upto_region 1 with fail;generalize w.alloc (.cells #[.int .i64 r.op,.int .i64 r.id,.int .i64 r.par,.int .i64 r.bef,.string r.tag,.string r.txt,.string r.key,.slice A n c] 71)=W at B1 N1⊢;have H:=Zh (H0.out.below B1.out);have b0:=N1.out.c0;have b1:=N1.out.c1;have b5:=N1.out.c5;have b7:=N1.out.c7;have b2:=N1.out.c2;have b3:=N1.out.c3;have b4:=N1.out.c4;have b6:=N1.out.c6;go_wp2_with fail;refine(rput_any r A n c W HWF.out H.out).mono ?_;rintro e w' ⟨rfl,y',d',e'⟩;have D':=Zh ((Rdid.below_ H0.out B1.out).trans d');have E':=Zh e';clear d' e';go_wp2_with fail;go_ret;exact⟨rfl,_,D'.out,E'.out⟩
theorem rapply_gone(r:Rc)(A:Option Addr)(n c:Nat)(w:World)(hwf:WF y.d)(q1:(r.op==1)=false)(q2:(r.op==2)=false)(q3:(r.op==3)=true)(h:Rf w B q y):Calls Tryz.prog 29 #[.pointer (some ⟨q,0,none⟩),.agg #[.int .i64 r.op,.int .i64 r.id,.int .i64 r.par,.int .i64 r.bef,.string r.tag,.string r.txt,.string r.key,.slice A n c]] w (RMade w B q y (goneD y.d r.id).1 (goneD y.d r.id).2):=by
 have B1:Hid (Below w.heap.size w (w.alloc (.cells #[.int .i64 r.op,.int .i64 r.id,.int .i64 r.par,.int .i64 r.bef,.string r.tag,.string r.txt,.string r.key,.slice A n c] 71))):=Zh (Zb _ _);have N1:Hid (RcB (w.alloc (.cells #[.int .i64 r.op,.int .i64 r.id,.int .i64 r.par,.int .i64 r.bef,.string r.tag,.string r.txt,.string r.key,.slice A n c] 71)) w.heap.size r A n c):=Zh (RcB.new w r A n c);have H0:=Zh h;have HWF:=Zh hwf;clear h hwf;go_enter Tryz.func29,Tryz.ntmps29;go_upto_region 1 with fail;generalize w.alloc (.cells #[.int .i64 r.op,.int .i64 r.id,.int .i64 r.par,.int .i64 r.bef,.string r.tag,.string r.txt,.string r.key,.slice A n c] 71)=W at B1 N1⊢;have H:=Zh (H0.out.below B1.out);have b0:=N1.out.c0;have b1:=N1.out.c1;have b5:=N1.out.c5;have b7:=N1.out.c7;have b2:=N1.out.c2;have b3:=N1.out.c3;have b4:=N1.out.c4;have b6:=N1.out.c6;go_wp2_with fail;refine(rgone_any r.id W HWF.out H.out).mono ?_;rintro e w' ⟨rfl,y',d',e'⟩;have D':=Zh ((Rdid.below_ H0.out B1.out).trans d');have E':=Zh e';clear d' e';go_wp2_with fail;go_ret;exact⟨rfl,_,D'.out,E'.out⟩
theorem rapply_any(r:Rc)(A:Option Addr)(n c:Nat)(w:World)(hwf:WF y.d)(hn:y.n≤100000)(h1:r.tag.size≤maxLen)(h2:r.txt.size≤maxLen)(h3:r.key.size≤maxLen)(ht:ArgA w A n c r.attrs)(h:Rf w B q y):Calls Tryz.prog 29 #[.pointer (some ⟨q,0,none⟩),.agg #[.int .i64 r.op,.int .i64 r.id,.int .i64 r.par,.int .i64 r.bef,.string r.tag,.string r.txt,.string r.key,.slice A n c]] w (RMade w B q y (applyD y.d r).1 (applyD y.d r).2):=by
 have hl:y.rs.length≤1000:=(by have:=hwf.len200;rw[show y.d.l=y.l from rfl,rl_len] at this;omega);unfold applyD;by_cases e1:r.op=1
 ·rw[if_pos e1];exact rapply_make r A n c w hwf hn h1 h2 h3 (by simpa using e1) h
 rw[if_neg e1];by_cases e2:r.op=2
 ·rw[if_pos e2];exact rapply_put r A n c w hwf (by simpa using e1) (by simpa using e2) h
 rw[if_neg e2];by_cases e3:r.op=3
 ·rw[if_pos e3];exact rapply_gone r A n c w hwf (by simpa using e1) (by simpa using e2) (by simpa using e3) h
 rw[if_neg e3];by_cases e4:r.op=4
 ·rw[if_pos e4];exact rapply_attrs r A n c w hwf.asc hl ht (by simpa using e1) (by simpa using e2) (by simpa using e3) (by simpa using e4) (by simpa using e4) h
 rw[if_neg e4];by_cases e5:r.op=5
 ·rw[if_pos e5];exact rapply_data r A n c w hwf.asc hl h2 (by simpa using e1) (by simpa using e2) (by simpa using e3) (by simpa using e4) (by simpa using e5) (by simpa using e4) h
 rw[if_neg e5];exact rapply_none r A n c w (by simpa using e1) (by simpa using e2) (by simpa using e3) (by simpa using e4) (by simpa using e5) h
variable{B p:Nat}{x:Dx}
variable{B p:Nat}{x:Dx}
variable{B p q:Nat}{x x':Dx}{y y':Rx}
section
variable{w w':World}
structure Par(w:World)(B p q:Nat)(x:Dx)(y:Rx):Prop where
 dc:Dc w B p x
 rf:Rf w B q y
 ap:∀k,foot p x k→¬rfoot q y k
theorem Par.below(h:Par w B p q x y)(hb:Below w.heap.size w w'):Par w' B p q x y:=⟨h.dc.below hb,h.rf.below hb,h.ap⟩
theorem Par.did(h:Par w B p q x y)(k:Did w B p x x' w'):Par w' B p q x' y:=by
 refine⟨k.dc,h.rf.but k.but (fun i hi hf=>h.ap i hf hi) h.dc.noA,fun i hi hr=>?_⟩;rcases k.ft i hi with e|e
 ·exact h.ap i e hr
 ·have:=h.rf.lt hr;omega
theorem Par.rdid(h:Par w B p q x y)(k:Rdid w B q y y' w'):Par w' B p q x y':=by
 refine⟨h.dc.but k.but (fun i hi e=>h.ap i hi (e▸ .inl rfl)) (q_noA h.rf),k.rf,fun i hi hr=>?_⟩;rcases k.ft i hr with e|e
 ·exact h.ap i hi e
 ·have:=h.dc.lt hi;omega
variable{g:Nat}{d:RE}
theorem RcB.did{r:Rc}{A:Option Addr}{n c:Nat}(h:RcB w g r A n c)(hx:Dc w B p x)(k:Did w B p x x' w'):RcB w' g r A n c:=(k.but.block g h.lt (hx.other h (by decide) (by decide) (by decide) (by decide) (by decide))).trans h
end
theorem setFocus_c{c:Int}(i:Int)(w:World)(hc:(focusD x.d i).1=c)(h:Dc w B p x):Calls Tryz.prog 9 #[.pointer (some ⟨p,0,none⟩),.int .i64 i] w (Made w B p x (errV c) (focusD x.d i).2):=by subst hc;exact setFocus_any i w h
theorem apply_c{c':Int}(r:Rc)(A:Option Addr)(n c:Nat)(w:World)(hc:(applyD x.d r).1=c')(hwf:WF x.d)(hn:x.n≤100000)(ha:ArgR w A n c r)(h:Dc w B p x):Calls Tryz.prog 28 #[.pointer (some ⟨p,0,none⟩),.agg #[.int .i64 r.op,.int .i64 r.id,.int .i64 r.par,.int .i64 r.bef,.string r.tag,.string r.txt,.string r.key,.slice A n c]] w (Made w B p x (errV c') (applyD x.d r).2):=by subst hc;exact apply_any r A n c w hwf hn ha h
theorem rfocus_c{c:Int}(i:Int)(w:World)(hc:(focusD y.d i).1=c)(hwf:WF y.d)(h:Rf w B q y):Calls Tryz.prog 10 #[.pointer (some ⟨q,0,none⟩),.int .i64 i] w (RMade w B q y c (focusD y.d i).2):=by
 subst hc;exact rfocus_any i w hwf.asc (by have:=hwf.len200;rw[show y.d.l=y.l from rfl,rl_len] at this;omega) h
end P5
namespace P7
open Go.RowKit Kd P4 P5
theorem infoR:(Tryz.prog.info? 71).map (fun i=>(i.zero,i.size,i.bytes))=some (some (.agg #[.int .i64 0,.int .i64 0,.int .i64 0,.int .i64 0,.string ⟨#[]⟩,.string ⟨#[]⟩,.string ⟨#[]⟩,.slice none 0 0]),8,104):=by kernel_rfl
structure RR where
 r:Rc
 va:Sv
def RR.cells(a:RR):List Value:=[.int .i64 a.r.op,.int .i64 a.r.id,.int .i64 a.r.par,.int .i64 a.r.bef,.string a.r.tag,.string a.r.txt,.string a.r.key,.slice a.va.A a.va.n a.va.c]
def kR:Kind Tryz.prog RR where
 t:=44
 e:=71
 size:=8
 bytes:=104
 z:=.agg #[.int .i64 0,.int .i64 0,.int .i64 0,.int .i64 0,.string ⟨#[]⟩,.string ⟨#[]⟩,.string ⟨#[]⟩,.slice none 0 0]
 cs:=RR.cells
 ht:=Tryz.underlying44
 info:=info_ex infoR
 hzs:=rfl
 hpos:=by decide
 hbb:=by decide
 len:=fun _=>rfl
 one:=fun a u hu=>by simp[RR.cells] at hu;rcases hu with rfl|rfl|rfl|rfl|rfl|rfl|rfl|rfl<;>rfl
theorem cell_of_recs{w:World}{B:Nat}{A:Option Addr}{l:List RR}(h:kR.Holds w B A l){k:Nat}(hk:k<l.length):
 ∃b o,A=some ⟨b,o,none⟩∧b<B∧w.cell? ⟨b,o+k*8,none⟩=some (.int .i64 l[k].r.op)∧w.cell? ⟨b,o+k*8+1,none⟩=some (.int .i64 l[k].r.id)∧
  w.cell? ⟨b,o+k*8+2,none⟩=some (.int .i64 l[k].r.par)∧w.cell? ⟨b,o+k*8+3,none⟩=some (.int .i64 l[k].r.bef)∧w.cell? ⟨b,o+k*8+4,none⟩=some (.string l[k].r.tag)∧
  w.cell? ⟨b,o+k*8+5,none⟩=some (.string l[k].r.txt)∧w.cell? ⟨b,o+k*8+6,none⟩=some (.string l[k].r.key)∧w.cell? ⟨b,o+k*8+7,none⟩=some (.slice l[k].va.A l[k].va.n l[k].va.c):=by
 obtain⟨b,o,rfl,hb,hc⟩:=h.at hk;exact⟨b,o,rfl,hb,hc 0 _ rfl,hc 1 _ rfl,hc 2 _ rfl,hc 3 _ rfl,hc 4 _ rfl,hc 5 _ rfl,hc 6 _ rfl,hc 7 _ rfl⟩
theorem own_r{B:Nat}{v:Value}{w:World}{l:List RR}(h:kR.Own w B v l):∃A n c,v = .slice A n c∧l.length=n∧n≤c∧c≤maxLen∧(A=none→c=0∧n=0)∧kR.Holds w w.heap.size A l:=by
 obtain⟨A,n,c,hv,h1,h2,h3,h4,h5⟩:=h.slice;exact⟨A,n,c,hv,h1,h2,h3,fun e=>by have:=h4 e;omega,h5⟩
theorem cloneRec_any(l:List RR)(A:Option Addr)(n c:Nat)(w:World)(hn:l.length=n)(hn2:n≤1000000)(hz:A=none→c=0∧n=0)(H:kR.Holds w w.heap.size A l):
 Calls Tryz.prog 34 #[.slice A n c] w (Cloned kR w l):=by
 cases A with
 |none=>
  obtain⟨rfl,rfl⟩:=hz rfl;obtain rfl:l=[]:=List.length_eq_zero_iff.1 hn;clear H hn hz;have hq:=fun w'=>Lib.run_eql_slice_nil (P:=Tryz.prog) w' 44 71 Option.none 0 0 0 0 Tryz.underlying44
  go_enter Tryz.func34,Tryz.ntmps34;go_wp2;go_ret;exact⟨none,0,0,rfl,Kind.Own.nil _ _ _,Ze⟩
 |some a=>
  have HM:=Zh hn;have HH:=Zh H;clear H hn hz;have hq:=fun w'=>Lib.run_eql_slice_nil (P:=Tryz.prog) w' 44 71 (some a) n c 0 0 Tryz.underlying44
  go_enter Tryz.func34,Tryz.ntmps34;go_wp2_with (at_builtin;refine kR.wp_app rfl _ _ rfl (v:=.slice (some ⟨w.heap.size,0,Option.none⟩) 0 0) (l:=[]) (m:=l) (B:=w.heap.size) rfl (Kind.Own.made kR w _ (Zl)) rfl HM.out (fun e=>by cases e) (HH.out.on (Zb _ _)) (by simp;omega) (by simp) ?_;intro v' w2 hown hgrow hat);go_ret;obtain⟨A',n',c',rfl,_⟩:=hown.slice;exact⟨A',n',c',rfl,hown,(Zb _ _).grown hgrow (by simp) (fun k hk=>by simp[Value.ownBlock] at hk;omega)⟩
structure RecOk(w:World)(a:RR):Prop where
 att:AOk w a.va a.r.attrs
 few:a.va.n≤1000000
structure Lg(w:World)(B g p:Nat)(vd:Value)(rs:List RR):Prop where
 blk:w.heap[g]? = some (.cells #[.pointer (some ⟨p,0,none⟩),vd] 89 (0,0))
 base:B≤g
 own:kR.Own w B vd rs
 recs:∀a∈rs,RecOk w a
def lfoot(g:Nat)(vd:Value)(k:Nat):Prop:=k=g∨vd.ownBlock=some k
section
variable{w w':World}{B g p q:Nat}{vd:Value}{rs:List RR}{x x':Dx}{y y':Rx}
theorem Lg.lt(h:Lg w B g p vd rs){k:Nat}(hk:lfoot g vd k):k<w.heap.size:=by
 rcases hk with rfl|hk
 ·exact heap_lt h.blk
 ·exact(h.own.lt hk).2
theorem Lg.ge(h:Lg w B g p vd rs){k:Nat}(hk:lfoot g vd k):B≤k:=by
 rcases hk with rfl|hk
 ·exact h.base
 ·exact(h.own.lt hk).1
theorem Lg.ty(h:Lg w B g p vd rs){k:Nat}(hk:lfoot g vd k):∃cur t,w.heap[k]? = some (.cells cur t (0,0))∧(t=89∨t=71):=by
 rcases hk with rfl|hk
 ·exact⟨_,_,h.blk,.inl rfl⟩
 ·obtain⟨c,hc⟩:=h.own.ty hk;exact⟨_,_,hc,.inr rfl⟩
theorem Lg.noA(h:Lg w B g p vd rs):NoA w (lfoot g vd):=by
 intro k cur fr hk hc;obtain⟨c,t,h1,h2⟩:=h.ty hk;rw[hc] at h1;injection h1 with h1;injection h1 with _ e;subst e;rcases h2 with h2|h2<;>exact absurd h2 (by decide)
theorem Lg.but{S:Nat→Prop}(h:Lg w B g p vd rs)(hb:But S w w')(hS:∀k,lfoot g vd k→¬S k)(hA:NoA w S):Lg w' B g p vd rs:=
 ⟨(hb.block g (heap_lt h.blk) (hS g (.inl rfl))).trans h.blk,h.base,h.own.but hb (fun k hk=>hS k (.inr hk)),fun a ha=>⟨(h.recs a ha).att.but hb hA,(h.recs a ha).few⟩⟩
theorem Lg.below(h:Lg w B g p vd rs)(hb:Below w.heap.size w w'):Lg w' B g p vd rs:=h.but (But.of_below hb (fun _=>False)) (fun _ _ h=>h) (NoA.none w)
theorem Lg.drewN(h:Lg w B g p vd rs)(n:Nat):Lg (w.drewN n) B g p vd rs:=h.below (Below_drewN Ze n)
theorem Lg.c0(h:Lg w B g p vd rs):w.cell? ⟨g,0,none⟩=some (.pointer (some ⟨p,0,none⟩)):=cell_of_row w g 0 _ _ (0,0) h.blk
theorem Lg.c1(h:Lg w B g p vd rs):w.cell? ⟨g,1,none⟩=some vd:=cell_of_row w g 1 _ _ (0,0) h.blk
theorem Lg.frozen(h:Lg w B g p vd rs)(i:Nat):w.frozen? ⟨g,i,none⟩=false:=by
 have:=h.blk;simp[World.frozen?,this]
theorem Lg.notD{B' p':Nat}(h:Lg w B g p vd rs)(hx:Dc w B' p' x){k:Nat}(hk:lfoot g vd k):¬foot p' x k:=by
 obtain⟨c,t,h1,h2⟩:=h.ty hk;rcases h2 with rfl|rfl<;>exact hx.other h1 (by decide) (by decide) (by decide) (by decide) (by decide)
theorem Lg.did{B' p':Nat}(h:Lg w B g p vd rs)(hx:Dc w B' p' x)(k:Did w B' p' x x' w'):Lg w' B g p vd rs:=h.but k.but (fun _ hi=>h.notD hx hi) hx.noA
theorem Rf.ty{B':Nat}(h:Rf w B' q y){k:Nat}(hk:rfoot q y k):∃cur t,w.heap[k]? = some (.cells cur t (0,0))∧(t=51∨t=48∨t=3):=by
 rcases hk with rfl|hk|⟨r,hr,hk⟩
 ·exact⟨_,_,h.blk,.inl rfl⟩
 ·obtain⟨c,hc⟩:=h.own.ty hk;exact⟨_,_,hc,.inr (.inl rfl)⟩
 ·obtain⟨c,hc⟩:=(h.nodes r hr).kids.ty hk;exact⟨_,_,hc,.inr (.inr rfl)⟩
theorem Lg.notR{B':Nat}(h:Lg w B g p vd rs)(hy:Rf w B' q y){k:Nat}(hk:lfoot g vd k):¬rfoot q y k:=by
 intro hr;obtain⟨c,t,h1,h2⟩:=h.ty hk;obtain⟨c',t',h3,h4⟩:=Rf.ty hy hr;rw[h1] at h3;injection h3 with h3;injection h3 with _ e;subst e;rcases h2 with h2|h2<;>rcases h4 with h4|h4|h4<;>exact absurd (h2.symm.trans h4) (by decide)
structure LDid(w:World)(B g p:Nat)(x:Dx)(vd:Value)(x':Dx)(vd':Value)(rs':List RR)(w':World):Prop where
 dc:Dc w' B p x'
 lg:Lg w' B g p vd' rs'
 but:But (fun k=>foot p x k∨lfoot g vd k) w w'
 ft:∀k,foot p x' k→foot p x k∨w.heap.size≤k
 lf:∀k,vd'.ownBlock=some k→vd.ownBlock=some k∨w.heap.size≤k
variable{vd':Value}{rs':List RR}
theorem or_noA{S T:Nat→Prop}(h:NoA w S)(k:NoA w T):NoA w (fun i=>S i∨T i):=fun i c f hi=>hi.elim (h i c f) (k i c f)
theorem Par.ldid(h:Par w B p q x y)(l:Lg w B g p vd rs)(k:LDid w B g p x vd x' vd' rs' w'):Par w' B p q x' y:=by
 refine⟨k.dc,h.rf.but k.but (fun i hi hf=>hf.elim (fun hf=>h.ap i hf hi) (fun hf=>l.notR h.rf hf hi)) (or_noA h.dc.noA l.noA),fun i hi hr=>?_⟩;rcases k.ft i hi with e|e
 ·exact h.ap i e hr
 ·have:=h.rf.lt hr;omega
theorem LDid.to_below(h:Dc w B p x)(l:Lg w B g p vd rs)(k:LDid w B g p x vd x' vd' rs' w'):Below B w w':=k.but.to_below (fun _ _ hi=>hi.elim h.ge l.ge) (by have:=h.base;have:=h.lt (.inl rfl:foot p x p);omega)
end
end P7
end Go.Proofs.YtaklfomaibchnaaGreat
