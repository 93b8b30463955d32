/- A part of what the claimed theorem hangs on. No condition but those stated. -/
import Derived.Laws.OwnMore
import Derived.Deep.RegionHeld3
import Derived.Deep.DeepCutAuto
import Derived.Deep.CutBlock
import Derived.Test.YtaklfomaibchnaaGreatM1
import Derived.Test.YtaklfomaibchnaaGreatM2
import Derived.Test.YtaklfomaibchnaaGreatM6
import Derived.Test.YtaklfomaibchnaaGreatM7
import Derived.Test.YtaklfomaibchnaaGreatM8
import Derived.Test.YtaklfomaibchnaaGreatM12
set_option linter.unusedVariables false
set_option linter.unusedSimpArgs false
set_option maxRecDepth 100000
set_option maxHeartbeats 40000000
namespace Go.Proofs.YtaklfomaibchnaaGreat
namespace P3
open Go.RowKit
theorem rnew_any(l:List At)(A:Option Addr)(n c:Nat)(w:World)(hn:l.length=n)(hl:n≤1000000)(H:Holds w w.heap.size A l):
 Calls Tryz.prog 46 #[.slice A n c] w (GivesA w (newA l)):=by
 have HH:=Zh H;have HN:=Zh hn;clear H hn;have hln:l.length≤1000000:=(by have:=HN.out;omega);have hst:=thoseA_len l true;go_enter Tryz.func46,Tryz.ntmps46;go_wp2_with fail;go_loopw [3,4] (fun v i wr=>∃k:Nat,k≤n∧i = .int .i64 k∧Hid (Below w.heap.size w wr)∧Hid (Own wr w.heap.size v (thoseA (l.take k) true))) (fun _ i _=>n-(intOf i).toNat)
 case atStart=>exact⟨0,by omega,rfl,Zh Ze,Zh (Own.nil _ _)⟩
 case round=>
  obtain⟨k,hk,rfl,HW,HO⟩:=hrel;have hz:w.heap.size≤wr.heap.size:=HW.out.size;by_cases hlt:k<n
  ·have hlt':k<l.length:=(by have:=HN.out;omega);obtain⟨b,o,rfl,hb,h0,h1,h2⟩:=(HH.out.below HW.out (Zl)) k hlt';have hle:=thoseA_take_len l true k;cases hs:l[k].st
   ·have HS:Hid ((l[k].st==true)=false):=Zh (by rw[hs];rfl);rw[hs] at h2;clear hs;go_wp2_with fail;go_roundw
    case rel=>exact⟨k+1,by omega,by go_num,HW,Zh (by rw[thoseA_no hlt' HS.out];exact HO.out)⟩
    case measure=>simp[intOf];omega
   ·have HS:Hid ((l[k].st==true)=true):=Zh (by rw[hs];rfl);have HE:Hid (l[k].st=true):=Zh hs;rw[hs] at h2;clear hs;have hbk:Blk (wr.alloc (.cells #[.string l[k].nm,.string l[k].vl,.bool true] 121)) wr.heap.size l[k]:=Blk.newS wr HE.out;go_wp2_with (at_builtin;refine wp_app rfl _ _ rfl (v:=u3) (l:=thoseA (l.take k) true) (m:=[l[k]]) (base:=w.heap.size) rfl (HO.out.alloc _) rfl rfl (fun e=>by cases e) (Holds.one hbk) (by simp;omega) (by simp;omega) ?_;intro v' w1 hown' hgrow _);go_roundw
    case rel=>exact⟨k+1,by omega,by go_num,Zh ((HW.out.alloc (by omega) _).grown hgrow (by simp;omega) (fun j hj=>(World.ownsRow.lt HO.out j hj).1)),Zh (by rw[thoseA_yes hlt' HS.out];exact hown')⟩
    case measure=>simp[intOf];omega
  ·obtain rfl:k=n:=by omega
   go_wp2_with fail;obtain⟨wo,rfl⟩:∃wo:World,wo=wr:=⟨_,rfl⟩;have HO':Hid (Own wo w.heap.size u3 (thoseA l true)):=Zh (by have:=HO.out;rwa[thoseA_all HN.out] at this);go_loopw [3,5] (fun v i wr=>∃j:Nat,j≤k∧i = .int .i64 j∧Hid (Below w.heap.size w wr)∧Hid (Own wr w.heap.size v (thoseA l true++thoseA (l.take j) false))) (fun _ i _=>k-(intOf i).toNat)
   case atStart=>exact⟨0,by omega,rfl,HW,Zh (by simpa[thoseA] using HO'.out)⟩
   case round=>
    obtain⟨j,hj,rfl,HWi,HOi⟩:=hrel;have hz:w.heap.size≤wr.heap.size:=HWi.out.size;by_cases hjn:j<k
    ·have hlt':j<l.length:=(by have:=HN.out;omega);obtain⟨b,o,rfl,hb,h0,h1,h2⟩:=(HH.out.below HWi.out (Zl)) j hlt';have hle:=thoseA_take_len l false j;cases hs:l[j].st
     ·have HS:Hid ((l[j].st==false)=true):=Zh (by rw[hs];rfl);have HE:Hid (l[j].st=false):=Zh hs;rw[hs] at h2;clear hs;have hbk:Blk (wr.alloc (.cells #[.string l[j].nm,.string l[j].vl,.bool false] 121)) wr.heap.size l[j]:=Blk.newS wr HE.out;go_wp2_with (at_builtin;refine wp_app rfl _ _ rfl (v:=u3) (l:=thoseA l true++thoseA (l.take j) false) (m:=[l[j]]) (base:=w.heap.size) rfl (HOi.out.alloc _) rfl rfl (fun e=>by cases e) (Holds.one hbk) (by simp;omega) (by simp;omega) ?_;intro v' w1 hown' hgrow _);go_roundw
      case rel=>exact⟨j+1,by omega,by go_num,Zh ((HWi.out.alloc (by omega) _).grown hgrow (by simp;omega) (fun i hi=>(World.ownsRow.lt HOi.out i hi).1)),Zh (by rw[thoseA_yes hlt' HS.out,←List.append_assoc];exact hown')⟩
      case measure=>simp[intOf];omega
     ·have HS:Hid ((l[j].st==false)=false):=Zh (by rw[hs];rfl);rw[hs] at h2;clear hs;go_wp2_with fail;go_roundw
      case rel=>exact⟨j+1,by omega,by go_num,HWi,Zh (by rw[thoseA_no hlt' HS.out];exact HOi.out)⟩
      case measure=>simp[intOf];omega
    ·obtain rfl:j=k:=by omega
     go_wp2_with fail;go_ret;exact⟨_,rfl,by have:=HOi.out;rwa[thoseA_all HN.out] at this,HWi.out⟩
theorem rjoin_all{l m:List At}{n':Nat}(hn:m.length=n'):joinA l m=(addA (thoseA l true) (thoseA (m.take n') false)).take 8:=by
 subst hn;simp[joinA]
theorem rjoin_any(l m:List At)(A B:Option Addr)(n n' c d:Nat)(w:World)(hn:l.length=n)(hn':m.length=n')(hl:n≤1000000)(hm:n'≤1000000)(H:Holds w w.heap.size A l)(H2:Holds w w.heap.size B m):
 Calls Tryz.prog 47 #[.slice A n c,.slice B n' d] w (GivesA w (joinA l m)):=by
 have HH:=Zh H;have HH2:=Zh H2;have HN:=Zh hn;have HN':=Zh hn';clear H H2 hn hn';have hln:l.length≤1000000:=(by have:=HN.out;omega);have hmn:m.length≤1000000:=(by have:=HN'.out;omega);have hst:=thoseA_len l true;go_enter Tryz.func47,Tryz.ntmps47;go_wp2_with fail;go_loopw [5,6] (fun v i wr=>∃k:Nat,k≤n∧i = .int .i64 k∧Hid (Below w.heap.size w wr)∧Hid (Own wr w.heap.size v (thoseA (l.take k) true))) (fun _ i _=>n-(intOf i).toNat)
 case atStart=>exact⟨0,by omega,rfl,Zh Ze,Zh (Own.nil _ _)⟩
 case round=>
  obtain⟨k,hk,rfl,HW,HO⟩:=hrel;have hz:w.heap.size≤wr.heap.size:=HW.out.size;by_cases hlt:k<n
  ·have hlt':k<l.length:=(by have:=HN.out;omega);obtain⟨b,o,rfl,hb,h0,h1,h2⟩:=(HH.out.below HW.out (Zl)) k hlt';have hle:=thoseA_take_len l true k;cases hs:l[k].st
   ·have HS:Hid ((l[k].st==true)=false):=Zh (by rw[hs];rfl);rw[hs] at h2;clear hs;go_wp2_with fail;go_roundw
    case rel=>exact⟨k+1,by omega,by go_num,HW,Zh (by rw[thoseA_no hlt' HS.out];exact HO.out)⟩
    case measure=>simp[intOf];omega
   ·have HS:Hid ((l[k].st==true)=true):=Zh (by rw[hs];rfl);have HE:Hid (l[k].st=true):=Zh hs;rw[hs] at h2;clear hs;go_wp2_with (at_builtin;refine wp_app rfl _ _ rfl (v:=u5) (l:=thoseA (l.take k) true) (m:=[l[k]]) (base:=w.heap.size) rfl (HO.out.alloc _) rfl rfl (fun e=>by cases e) (Holds.one (Blk.newS wr HE.out)) (by simp;omega) (by simp;omega) ?_;intro v' w1 hown' hgrow _);go_roundw
    case rel=>exact⟨k+1,by omega,by go_num,Zh ((HW.out.alloc (by omega) _).grown hgrow (by simp;omega) (fun j hj=>(World.ownsRow.lt HO.out j hj).1)),Zh (by rw[thoseA_yes hlt' HS.out];exact hown')⟩
    case measure=>simp[intOf];omega
  ·obtain rfl:k=n:=by omega
   go_wp2_with fail;obtain⟨wo,rfl⟩:∃wo:World,wo=wr:=⟨_,rfl⟩;have HO':Hid (Own wo w.heap.size u5 (thoseA l true)):=Zh (by have:=HO.out;rwa[thoseA_all HN.out] at this);go_loopw [5,7] (fun v i wr=>∃j:Nat,j≤n'∧i = .int .i64 j∧Hid (Below w.heap.size w wr)∧Hid (Own wr w.heap.size v (addA (thoseA l true) (thoseA (m.take j) false)))) (fun _ i _=>n'-(intOf i).toNat)
   case atStart=>exact⟨0,by omega,rfl,HW,Zh (by simpa[thoseA,addA] using HO'.out)⟩
   case round=>
    obtain⟨j,hj,rfl,HWi,HOi⟩:=hrel;have hz:w.heap.size≤wr.heap.size:=HWi.out.size;obtain⟨A5,n5,c5,rfl,hn5,hc5,hm5,hz5,hb5,h5⟩:=HOi.out.slice;have HN5:=Zh hn5;have hs5:n5≤2000000:=(by have:=radd_len (thoseA l true) m j;omega);have H5:=Zh h5;unfold maxLen at hm5;clear hn5 hz5 hb5 h5;by_cases hjn:j<n'
    ·have hlt':j<m.length:=(by have:=HN'.out;omega);obtain⟨b,o,rfl,hb,h0,h1,h2⟩:=(HH2.out.below HWi.out (Zl)) j hlt';go_wp2_with fail;obtain⟨wi,rfl⟩:∃wi:World,wi=wr:=⟨_,rfl⟩;go_loopw [8,9] (fun u i wr=>∃(q:Nat) (met:Bool),q≤n5∧u = .bool met∧i = .int .i64 q∧Hid (met=(m[j].st || hasA ((addA (thoseA l true) (thoseA (m.take j) false)).take q) m[j].nm))∧Hid (Below wi.heap.size wi wr)) (fun _ i _=>n5-(intOf i).toNat)
     case atStart=>exact⟨0,_,by omega,rfl,rfl,Zh (by simp[hasA,findA]),Zh Ze⟩
     case round=>
      obtain⟨q,met,hq,rfl,rfl,HM,HWq⟩:=hrel;have hzq:wi.heap.size≤wr.heap.size:=HWq.out.size;by_cases hqn:q<n5
      ·have hql:q<(addA (thoseA l true) (thoseA (m.take j) false)).length:=(by have:=HN5.out;omega);obtain⟨b5,o5,rfl,hb5,p0,p1,p2⟩:=(H5.out.below HWq.out (Zl)) q hql;have g0:wr.cell? ⟨b,o+j*3,none⟩=some (.string m[j].nm):=(by rw[HWq.out.cell (by show b<wi.heap.size;omega)];exact h0);have hsucc:=hasA_take_succ (s:=m[j].nm) hql;have HSU:=Zh hsucc;clear hsucc h0 h1 h2 p1 p2;cases met
       ·cases he:((addA (thoseA l true) (thoseA (m.take j) false))[q].nm.toList==m[j].nm.toList)
        ·have HE:=Zh he;go_wp2_with fail;go_quiet (fail);go_wp2_with fail;go_roundw
         case rel=>exact⟨q+1,false,by omega,rfl,by go_num,Zh (by rw[HSU.out,HE.out,Bool.or_false];exact HM.out),Zh (Below_drewN HWq.out _)⟩
         case measure=>simp[intOf];omega
        ·have HE:=Zh he;go_wp2_with fail;go_quiet (fail);go_wp2_with fail;go_roundw
         case rel=>exact⟨q+1,true,by omega,rfl,by go_num,Zh (by rw[HSU.out,HE.out];simp),Zh (Below_drewN HWq.out _)⟩
         case measure=>simp[intOf];omega
       ·go_wp2_with fail;go_quiet (fail);go_wp2_with fail;go_roundw
        case rel=>exact⟨q+1,true,by omega,rfl,by go_num,Zh (by rw[HSU.out,←Bool.or_assoc,←HM.out];rfl),Zh (Below_drewN HWq.out _)⟩
        case measure=>simp[intOf];omega
      ·obtain rfl:q=n5:=by omega
       have HM':Hid (met=(m[j].st || hasA (addA (thoseA l true) (thoseA (m.take j) false)) m[j].nm)):=Zh (by have:=HM.out;rwa[List.take_of_length_le (by have:=HN5.out;omega)] at this);have HO6:=Zh (HOi.out.below HWq.out (Zl));have HW6:=Zh (HWi.out.trans (HWq.out.mono hz));obtain⟨b',o',hA',hb',g0,g1,g2⟩:=(HH2.out.below HW6.out (Zl)) j hlt';injection hA' with hA';injection hA' with e1 e2;subst e1;subst e2;clear h0 h1 h2;cases met
       ·have hh5:(addA (thoseA l true) (thoseA (m.take j) false)).length=q:=HN5.out;have HH5:=Zh hh5;clear hh5;go_wp2_with (at_builtin;refine wp_app rfl _ _ rfl (v:=.slice A5 q c5) (l:=addA (thoseA l true) (thoseA (m.take j) false)) (m:=[m[j]]) (base:=w.heap.size) rfl (HO6.out.alloc _) rfl rfl (fun e=>by cases e) (Holds.one (Blk.new _ _)) (by have:=HH5.out;simp;omega) (by simp;omega) ?_;intro v' w1 hown' hgrow _);go_roundw
        case rel=>exact⟨j+1,by omega,by go_num,Zh ((HW6.out.alloc (by omega) _).grown hgrow (by simp;omega) (fun i hi=>(World.ownsRow.lt HO6.out i hi).1)),Zh (by rw[radd_no hlt' HM'.out];exact hown')⟩
        case measure=>simp[intOf];omega
       ·go_wp2_with fail;go_roundw
        case rel=>exact⟨j+1,by omega,by go_num,HW6,Zh (by rw[radd_yes hlt' HM'.out];exact HO6.out)⟩
        case measure=>simp[intOf];omega
    ·obtain rfl:j=n':=by omega
     by_cases h8:n5≤8
     ·go_wp2_with fail;go_ret;exact⟨_,rfl,join_done HOi.out HN5.out (by omega) (rjoin_all HN'.out),HWi.out⟩
     ·go_wp2_with fail;go_ret;exact⟨_,rfl,join_done HOi.out HN5.out (by omega) (rjoin_all HN'.out),HWi.out⟩
end P3
namespace P19
open Go.RowKit Kd P4 P5 P7 P14 P16
inductive SmW:WV→Prop
 |mk {kind:Int} {tag key txt:ByteArray} {sa sk:Sv} {attrs:List P3.At} {kids:List WV} (h1:tag.size≤maxLen) (h2:key.size≤maxLen) (h3:txt.size≤maxLen) (ha:P3.mayA attrs=true) (ks:∀k∈kids,SmW k):SmW (.mk kind tag key txt sa attrs sk kids)
theorem SmW.tag{t:WV}(h:SmW t):t.tag.size≤maxLen:=by cases h;assumption
theorem SmW.key{t:WV}(h:SmW t):t.key.size≤maxLen:=by cases h;assumption
theorem SmW.txt{t:WV}(h:SmW t):t.txt.size≤maxLen:=by cases h;assumption
theorem SmW.att{t:WV}(h:SmW t):P3.mayA t.attrs=true:=by cases h;assumption
theorem SmW.ks{t:WV}(h:SmW t):∀k∈t.kids,SmW k:=by cases h;assumption
theorem may_wf{l:List P3.At}(h:P3.mayA l=true):P3.Wf l∧l.length≤8:=by
 obtain⟨h1,h2,_⟩:=P3.mayA_iff.1 h;refine⟨fun a ha=>?_,h1⟩;obtain⟨a1,a2⟩:=h2 a ha;have b1:=P12.nameB_len a1;have b2:=P12.textB_len a2;simp at b1 b2;exact⟨by unfold maxLen;omega,by unfold maxLen;omega⟩
structure WantAt(w:World)(A:Option Addr)(n:Nat)(ts:List WV):Prop where
 len:ts.length=n
 holds:kQ.Holds w w.heap.size A ts
 ok:∀t∈ts,WOk kQ w w.heap.size t
structure PatchPre(w:World)(C B g q:Nat)(y:Rx)(v:Value)(rs:List RR)(par:Int)(ids:List Int)(A:Option Addr)(n c:Nat)(A':Option Addr)(n' _c':Nat)(ts:List WV):Prop where
 wk:Wk w B g q y v rs
 wf:WF y.d
 may:MayD y.d
 p0:par≠0
 kids:Kids (y.d,rs.map (·.r)) par ids
 nod:ids.Nodup
 few:ids.length≤200
 ids:IdsOk w g q v A n ids
 want:∀w',But (wfoot g q v) w w'→WantAt w' A' n' ts
 small:∀t∈ts,SmW t
 nz:A=none→c=0
 cnt:szL (erL ts)≤1000
 num:y.n+(szL (erL ts):Nat)≤90000
 len:rs.length+2000*(szL (erL ts)+1)≤800000
theorem PatchPre.below{w w':World}{C B g q:Nat}{y:Rx}{v:Value}{rs:List RR}{par:Int}{ids:List Int}{A:Option Addr}{n c:Nat}{A':Option Addr}{n' c':Nat}{ts:List WV}(h:PatchPre w C B g q y v rs par ids A n c A' n' c' ts)(hb:Below w.heap.size w w'):PatchPre w' C B g q y v rs par ids A n c A' n' c' ts:=
 ⟨h.wk.below hb,h.wf,h.may,h.p0,h.kids,h.nod,h.few,IdsOk.wdid h.wk (Wdid.below_ h.wk hb) h.ids,fun w2 hb2=>h.want w2 ((But.of_below hb (wfoot g q v)).trans hb2 (fun _ _ e=>e)),h.small,h.nz,h.cnt,h.num,h.len⟩
def PatchV(w:World)(B g q:Nat)(y:Rx)(v:Value)(rs:List RR)(s':Sg)(e:Ending)(w':World):Prop:=
 e = .returned (.tuple #[])∧∃y' v' rs',Wdid w B g q y v y' v' rs' w'∧(y'.d,rs'.map (·.r))=s'
def RPatchC(ts:List WV):Prop:=∀(f:Nat),dL (erL ts)≤f→∀(C B g q:Nat) (y:Rx) (v:Value) (rs:List RR) (par:Int) (ids:List Int) (A:Option Addr) (n c:Nat) (beh:Int) (A':Option Addr) (n' c':Nat) (w:World),
 PatchPre w C B g q y v rs par ids A n c A' n' c' ts→
 Calls Tryz.prog 18 #[.pointer (some ⟨g,0,none⟩),.int .i64 par,.slice A n c,.int .i64 beh,.slice A' n' c'] w (PatchV w B g q y v rs (patchP (f+1) (y.d,rs.map (·.r)) par ids beh (erL ts)))
structure Cx(w:World)(B g q:Nat)(y:Rx)(v:Value)(rs:List RR)(bx:Nat)(t:WV)(lv:Value)(left:List Int)(s:Sg)(wx:World):Prop where
 run:∃y' v' rs',Wdid w B g q y v y' v' rs' wx∧(y'.d,rs'.map (·.r))=s
 blk:wx.heap[bx]? = some (.cells #[.int .i64 t.kind,.string t.tag,.string t.key,.string t.txt,.slice t.sa.A t.sa.n t.sa.c,.slice t.sk.A t.sk.n t.sk.c] 103 (0,0))
 own:kI.Own wx 0 lv left
section
variable{w wx w':World}{B g q bx:Nat}{y:Rx}{v:Value}{rs:List RR}{t:WV}{lv:Value}{left:List Int}{s:Sg}
theorem Cx.c0(h:Cx w B g q y v rs bx t lv left s wx):wx.cell? ⟨bx,0,none⟩=some (.int .i64 t.kind):=cell_of_row wx bx 0 _ _ (0,0) h.blk
theorem Cx.c1(h:Cx w B g q y v rs bx t lv left s wx):wx.cell? ⟨bx,1,none⟩=some (.string t.tag):=cell_of_row wx bx 1 _ _ (0,0) h.blk
theorem Cx.c2(h:Cx w B g q y v rs bx t lv left s wx):wx.cell? ⟨bx,2,none⟩=some (.string t.key):=cell_of_row wx bx 2 _ _ (0,0) h.blk
theorem Cx.c3(h:Cx w B g q y v rs bx t lv left s wx):wx.cell? ⟨bx,3,none⟩=some (.string t.txt):=cell_of_row wx bx 3 _ _ (0,0) h.blk
theorem Cx.c4(h:Cx w B g q y v rs bx t lv left s wx):wx.cell? ⟨bx,4,none⟩=some (.slice t.sa.A t.sa.n t.sa.c):=cell_of_row wx bx 4 _ _ (0,0) h.blk
theorem Cx.c5(h:Cx w B g q y v rs bx t lv left s wx):wx.cell? ⟨bx,5,none⟩=some (.slice t.sk.A t.sk.n t.sk.c):=cell_of_row wx bx 5 _ _ (0,0) h.blk
theorem Cx.g0(h:Cx w B g q y v rs bx t lv left s wx):wx.cell? ⟨g,0,none⟩=some (.pointer (some ⟨q,0,none⟩)):=by
 obtain⟨y',v',rs',k,_⟩:=h.run;exact k.wk.c0
theorem Cx.q1(h:Cx w B g q y v rs bx t lv left s wx):wx.cell? ⟨q,1,none⟩=some (.int .i64 (s.1.n+1)):=by
 obtain⟨y',v',rs',k,e⟩:=h.run;rw[k.wk.doc.c1,←e];rfl
theorem Cx.step(h:Cx w B g q y v rs bx t lv left s wx){s':Sg}(hd:∀y' v' rs',Wdid w B g q y v y' v' rs' wx→(y'.d,rs'.map (·.r))=s→∃y2 v2 rs2,Wdid wx B g q y' v' y2 v2 rs2 w'∧(y2.d,rs2.map (·.r))=s'):Cx w B g q y v rs bx t lv left s' w':=by
 obtain⟨y',v',rs',k,e⟩:=h.run;obtain⟨y2,v2,rs2,k2,e2⟩:=hd y' v' rs' k e;refine⟨⟨y2,v2,rs2,k.trans k2,e2⟩,(k2.but.block bx (heap_lt h.blk) (k.wk.not_blk h.blk (by decide) (by decide) (by decide))).trans h.blk,k2.ints k.wk h.own⟩
theorem Cx.below(h:Cx w B g q y v rs bx t lv left s wx)(hb:Below wx.heap.size wx w'):Cx w B g q y v rs bx t lv left s w':=
 h.step fun y' v' rs' k e=>⟨y',v',rs',Wdid.below_ k.wk hb,e⟩
theorem Cx.list(h:Cx w B g q y v rs bx t lv left s wx){lv':Value}{left':List Int}(ho:kI.Own wx 0 lv' left'):Cx w B g q y v rs bx t lv' left' s wx:=⟨h.run,h.blk,ho⟩
theorem cx_do(r:Rc)(A:Option Addr)(n c:Nat)(h:Cx w B g q y v rs bx t lv left s wx)(hwf:WF s.1)(hn:s.1.n≤100000)(hl:s.2.length≤1000000)(h1:r.tag.size≤maxLen)(h2:r.txt.size≤maxLen)(h3:r.key.size≤maxLen)(hat:AOk wx ⟨A,n,c⟩ r.attrs)(hwa:P3.Wf r.attrs)(few:n≤1000000):
 Calls Tryz.prog 44 #[.pointer (some ⟨g,0,none⟩),.agg #[.int .i64 r.op,.int .i64 r.id,.int .i64 r.par,.int .i64 r.bef,.string r.tag,.string r.txt,.string r.key,.slice A n c]] wx fun e w'=>e = .returned (.tuple #[])∧Cx w B g q y v rs bx t lv left (doP s r) w':=by
 obtain⟨y',v',rs',k,e⟩:=h.run;subst e;refine(wdo_any r A n c wx hwf hn h1 h2 h3 hat hwa few (by simpa using hl) k.wk).mono ?_;rintro e w' ⟨rfl,y2,v2,rs2,k2,e2,_⟩;refine⟨rfl,(k2.but.block bx (heap_lt h.blk) (k.wk.not_blk h.blk (by decide) (by decide) (by decide))).trans h.blk |> fun hb=>⟨⟨y2,v2,rs2,k.trans k2,e2⟩,hb,k2.ints k.wk h.own⟩⟩
theorem cx_make(i:Int)(h:Cx w B g q y v rs bx t lv left s wx)(hwf:WF s.1)(hn:s.1.n≤100000)(hl:s.2.length≤1000000)(hs:SmW t):
 Calls Tryz.prog 44 #[.pointer (some ⟨g,0,none⟩),.agg #[.int .i64 1,.int .i64 i,.int .i64 0,.int .i64 0,.string t.tag,.string t.txt,.string t.key,.slice none 0 0]] wx fun e w'=>e = .returned (.tuple #[])∧Cx w B g q y v rs bx t lv left (doP s (recMake i t.tag t.txt t.key)) w':=
 cx_do (recMake i t.tag t.txt t.key) none 0 0 h hwf hn hl hs.tag hs.txt hs.key (argNone wx) wf_none (by omega)
theorem cx_put(i p b:Int)(h:Cx w B g q y v rs bx t lv left s wx)(hwf:WF s.1)(hn:s.1.n≤100000)(hl:s.2.length≤1000000):
 Calls Tryz.prog 44 #[.pointer (some ⟨g,0,none⟩),.agg #[.int .i64 2,.int .i64 i,.int .i64 p,.int .i64 b,.string ⟨#[]⟩,.string ⟨#[]⟩,.string ⟨#[]⟩,.slice none 0 0]] wx fun e w'=>e = .returned (.tuple #[])∧Cx w B g q y v rs bx t lv left (doP s (recPut i p b)) w':=
 cx_do (recPut i p b) none 0 0 h hwf hn hl z_small z_small z_small (argNone wx) wf_none (by omega)
theorem cx_attr(i:Int)(a:List P3.At)(A:Option Addr)(n c:Nat)(h:Cx w B g q y v rs bx t lv left s wx)(hwf:WF s.1)(hn:s.1.n≤100000)(hl:s.2.length≤1000000)(hat:AOk wx ⟨A,n,c⟩ a)(ha:P3.mayA a=true):
 Calls Tryz.prog 44 #[.pointer (some ⟨g,0,none⟩),.agg #[.int .i64 4,.int .i64 i,.int .i64 0,.int .i64 0,.string ⟨#[]⟩,.string ⟨#[]⟩,.string ⟨#[]⟩,.slice A n c]] wx fun e w'=>e = .returned (.tuple #[])∧Cx w B g q y v rs bx t lv left (doP s (recAttr i a)) w':=by
 obtain⟨h1,h2⟩:=may_wf ha;have h3:a.length=n:=hat.len;exact cx_do (recAttr i a) A n c h hwf hn hl z_small z_small z_small hat h1 (by omega)
def NbP(wx:World)(b:Nat)(nd:Nd)(AV:Option Addr)(nV cV:Nat)(AK:Option Addr)(nK cK:Nat):Prop:=NdB wx b nd AV nV cV AK nK cK∧AOk wx ⟨AV,nV,cV⟩ nd.attrs
theorem NbP.below{b:Nat}{nd:Nd}{AV:Option Addr}{nV cV:Nat}{AK:Option Addr}{nK cK:Nat}(h:NbP wx b nd AV nV cV AK nK cK)(hb:Below wx.heap.size wx w'):NbP w' b nd AV nV cV AK nK cK:=⟨(hb.block b (heap_lt h.1)).trans h.1,h.2.below hb⟩
theorem cx_textN(i:Int)(h:Cx w B g q y v rs bx t lv left s wx)(hwf:WF s.1)(hn:s.1.n≤100000)(hl:s.2.length≤1000000)(hs:SmW t):
 Calls Tryz.prog 44 #[.pointer (some ⟨g,0,none⟩),.agg #[.int .i64 5,.int .i64 i,.int .i64 0,.int .i64 0,.string ⟨#[]⟩,.string t.txt,.string ⟨#[]⟩,.slice none 0 0]] wx fun e w'=>e = .returned (.tuple #[])∧Cx w B g q y v rs bx t lv left (doP s (recText i t.txt)) w'∧∀b nd AV nV cV AK nK cK,NbP wx b nd AV nV cV AK nK cK→NbP w' b nd AV nV cV AK nK cK:=by
 obtain⟨y',v',rs',k,e⟩:=h.run;subst e;refine(wdo_any (recText i t.txt) none 0 0 wx hwf hn z_small hs.txt z_small (argNone wx) wf_none (by omega) (by simpa using hl) k.wk).mono ?_;rintro e w' ⟨rfl,y2,v2,rs2,k2,e2,_⟩;refine⟨rfl,⟨⟨y2,v2,rs2,k.trans k2,e2⟩,(k2.but.block bx (heap_lt h.blk) (k.wk.not_blk h.blk (by decide) (by decide) (by decide))).trans h.blk,k2.ints k.wk h.own⟩,fun b nd AV nV cV AK nK cK hn=>?_⟩;exact⟨(k2.but.block b (heap_lt hn.1) (k.wk.not_blk hn.1 (by decide) (by decide) (by decide))).trans hn.1,hn.2.but k2.but k.wk.noA⟩
theorem cx_next(beh:Int)(A:Option Addr)(n c:Nat)(h:Cx w B g q y v rs bx t (.slice A n c) left s wx):Calls Tryz.prog 45 #[.slice A n c,.int .i64 beh] wx fun e w'=>e = .returned (.int .i64 (nextP left beh))∧wx=w':=by
 obtain⟨h1,_,_,_,h5⟩:=own_all' h.own;exact next_any left A n c beh wx h5 h1
theorem cx_move(par:Int)(A:Option Addr)(n c:Nat)(beh id:Int)(h:Cx w B g q y v rs bx t (.slice A n c) left s wx)(hid:id∈left)(hll:left.length≤200)(hwf:WF s.1)(hn:s.1.n≤100000)(hl:s.2.length≤900000):
 Calls Tryz.prog 43 #[.pointer (some ⟨g,0,none⟩),.int .i64 par,.slice A n c,.int .i64 beh,.int .i64 id] wx fun e w'=>∃A1 n1 c1,e = .returned (.slice A1 n1 c1)∧Cx w B g q y v rs bx t (.slice A1 n1 c1) (moveP s par left beh id (left.idxOf id)).2 (moveP s par left beh id (left.idxOf id)).1 w':=by
 obtain⟨y',v',rs',k,e⟩:=h.run;subst e;have hlt:=List.idxOf_lt_length_iff.2 hid;obtain⟨hn1,_⟩:=own_all' h.own;refine(move_any par left A n c beh id (left.idxOf id) wx hlt (List.getElem_idxOf hlt) (fun j hj hjk e=>?_) h.own (by omega) hwf hn (by simpa using hl) k.wk).mono ?_
 ·have:=List.not_of_lt_findIdx (p:=(· == id)) hjk;simp at this;exact this e
 ·rintro e w' ⟨A1,n1,c1,y2,v2,rs2,rfl,ho,k2,e2,_⟩;exact⟨A1,n1,c1,rfl,⟨y2,v2,rs2,k.trans k2,e2⟩,(k2.but.block bx (heap_lt h.blk) (k.wk.not_blk h.blk (by decide) (by decide) (by decide))).trans h.blk,ho.base_le (Nat.zero_le _)⟩
theorem cx_kids(i:Int)(h:Cx w B g q y v rs bx t lv left s wx)(hwf:WF s.1):
 Calls Tryz.prog 33 #[.pointer (some ⟨q,0,none⟩),.int .i64 i] wx fun e w'=>(∃A n c,e = .returned (.slice A n c)∧kI.Own wx 0 (.slice A n c) (kidsOf s.1.l i))∧wx=w':=by
 obtain⟨y',v',rs',k,e⟩:=h.run;subst e;have hl:y'.rs.length≤1000:=(by have:=hwf.len200;rw[show y'.d.l=y'.l from rfl,rl_len] at this;omega);refine(kids_any i wx hwf.asc hl k.wk.doc).mono ?_;rintro e w' ⟨⟨A,n,c,rfl,ho,_⟩,rfl⟩;exact⟨⟨A,n,c,rfl,ho.base_le (Nat.zero_le _)⟩,rfl⟩
theorem cx_patch(hk:RPatchC t.kids)(f:Nat)(hf:dL (erL t.kids)≤f)(id:Int)(A:Option Addr)(n c:Nat)(h:Cx w B g q y v rs bx t lv left s wx)(hwf:WF s.1)(hmay:MayD s.1)(hid:id≠0)(ho:kI.Own wx 0 (.slice A n c) (kidsOf s.1.l id))
 (hw:∀w',But (wfoot g q v) w w'→WOk kQ w' w'.heap.size t) (hs:SmW t) (hc:szL (erL t.kids)≤1000) (hn:s.1.n+(szL (erL t.kids):Nat)≤90000) (hl:s.2.length+2000*(szL (erL t.kids)+1)≤800000):
 Calls Tryz.prog 18 #[.pointer (some ⟨g,0,none⟩),.int .i64 id,.slice A n c,.int .i64 0,.slice t.sk.A t.sk.n t.sk.c] wx fun e w'=>e = .returned (.tuple #[])∧Cx w B g q y v rs bx t lv left (patchP (f+1) s id (kidsOf s.1.l id) 0 (erL t.kids)) w':=by
 obtain⟨y',v',rs',k,e⟩:=h.run;subst e;have hw2:∀w2,But (wfoot g q v') wx w2→WantAt w2 t.sk.A t.sk.n t.kids:=fun w2 hb=>by
  have h1:=hw w2 (k.but.trans hb (fun i hi hf=>by
   rcases hf with e|e|e
   ·exact .inl e
   ·exact .inr (.inl e)
   ·rcases k.vf i e with e|e
    ·exact .inr (.inr e)
    ·omega))
  exact⟨h1.kl,h1.kh,h1.ks⟩
 obtain⟨k1,k2⟩:=kids_ok (s:=(y'.d,rs'.map (·.r))) hwf id;refine(hk f hf 0 B g q y' v' rs' id (kidsOf y'.d.l id) A n c 0 t.sk.A t.sk.n t.sk.c wx ⟨k.wk,hwf,hmay,hid,k1,k2,kids_len19 hwf id,IdsOk.of_own k.wk ho,hw2,hs.ks,(own_all' ho).2.2.2.1,hc,hn,by simpa using hl⟩).mono ?_;rintro e w' ⟨rfl,y2,v2,rs2,k2',e2⟩;exact⟨rfl,⟨y2,v2,rs2,k.trans k2',e2⟩,(k2'.but.block bx (heap_lt h.blk) (k.wk.not_blk h.blk (by decide) (by decide) (by decide))).trans h.blk,k2'.ints k.wk h.own⟩
theorem cx_new(h:Cx w B g q y v rs bx t lv left s wx)(hw:∀w',But (wfoot g q v) w w'→WOk kQ w' w'.heap.size t)(hs:SmW t):
 Calls Tryz.prog 46 #[.slice t.sa.A t.sa.n t.sa.c] wx fun e w'=>∃A n c,e = .returned (.slice A n c)∧AOk w' ⟨A,n,c⟩ (P3.newA t.attrs)∧Cx w B g q y v rs bx t lv left s w':=by
 obtain⟨y',v',rs',k,e⟩:=h.run;have ha:=hw wx k.but;have h8:=(may_wf hs.att).2;have hl:=ha.al;refine(P3.rnew_any t.attrs t.sa.A t.sa.n t.sa.c wx ha.al (by omega) (p3holds ha.ah)).mono ?_;rintro e w' ⟨u,rfl,ho,hb⟩;obtain⟨⟨A,n,c⟩,rfl,h1⟩:=AOk.own (show kA.Own w' wx.heap.size u (P3.newA t.attrs) from ho);exact⟨A,n,c,rfl,h1,h.below hb⟩
theorem cx_join(l:List P3.At)(A:Option Addr)(n c:Nat)(h:Cx w B g q y v rs bx t lv left s wx)(hw:∀w',But (wfoot g q v) w w'→WOk kQ w' w'.heap.size t)(hs:SmW t)(hl:AOk wx ⟨A,n,c⟩ l)(hlm:P3.mayA l=true):
 Calls Tryz.prog 47 #[.slice A n c,.slice t.sa.A t.sa.n t.sa.c] wx fun e w'=>∃A2 n2 c2,e = .returned (.slice A2 n2 c2)∧AOk w' ⟨A2,n2,c2⟩ (P3.joinA l t.attrs)∧AOk w' ⟨A,n,c⟩ l∧Below wx.heap.size wx w'∧Cx w B g q y v rs bx t lv left s w':=by
 obtain⟨y',v',rs',k,e⟩:=h.run;have ha:=hw wx k.but;have h8:=(may_wf hs.att).2;have h8':=(may_wf hlm).2;have hl1:=ha.al;have hl2:l.length=n:=hl.len;refine(P3.rjoin_any l t.attrs A t.sa.A n t.sa.n c t.sa.c wx hl2 ha.al (by omega) (by omega) (p3holds hl.holds) (p3holds ha.ah)).mono ?_;rintro e w' ⟨u,rfl,ho,hb⟩;obtain⟨⟨A2,n2,c2⟩,rfl,h1⟩:=AOk.own (show kA.Own w' wx.heap.size u (P3.joinA l t.attrs) from ho);exact⟨A2,n2,c2,rfl,h1,hl.below hb,hb,h.below hb⟩
end
end P19
namespace P19
open Go.RowKit Kd P4 P5 P11 P13 P14 P16
theorem sz60{b:ByteArray}(h:b.data.toList.length≤60):b.size≤maxLen:=by
 have:b.size=b.data.toList.length:=rfl;unfold maxLen;omega
theorem text60{b:ByteArray}(h:P1.textB b.data.toList=true):b.size≤maxLen:=by
 unfold P1.textB at h;rw[Bool.and_eq_true,decide_eq_true_eq] at h;exact sz60 h.1
theorem name60{b:ByteArray}(h:P1.nameB b.data.toList=true):b.size≤maxLen:=by
 refine sz60 ?_;revert h;generalize b.data.toList=l;intro h;cases l with
 |nil=>simp
 |cons c r=>
  simp only[P1.nameB,Bool.and_eq_true,decide_eq_true_eq] at h;simp only[List.length_cons];omega
theorem void60{b:ByteArray}(h:P1.voidB b.data.toList=true):b.size≤maxLen:=by
 refine sz60 ?_;unfold P1.voidB at h;simp only[Bool.or_eq_true,beq_iff_eq] at h;rcases h with((h|h)|h)|h<;>rw[h]<;>decide
theorem er_mem{k:WV}{l:List WV}(h:k∈l):P14.er k∈erL l:=by rw[erL_map];exact List.mem_map.2 ⟨k,h,rfl⟩
theorem z60:(z0:ByteArray).size≤maxLen:=by decide
theorem wf_sm{x:PW}(h:WfW x):x.tag.size≤maxLen∧x.key.size≤maxLen∧x.txt.size≤maxLen:=by
 cases h with
 |el hm _ _=>
  simp only[mayI,if_true,Bool.and_eq_true,Bool.not_eq_true'] at hm;exact⟨name60 hm.1.1,text60 hm.2,z60⟩
 |vo hm _=>
  simp[mayI] at hm;exact⟨void60 hm.1,text60 hm.2,z60⟩
 |tx hm=>
  simp[mayI] at hm;exact⟨z60,z60,text60 hm.1⟩
 |nd=>exact⟨z60,z60,z60⟩
 |al=>exact⟨z60,z60,z60⟩
theorem wf_kids{x:PW}(h:WfW x):∀k∈x.kids,WfW k:=by
 cases h with
 |el _ _ hk=>exact hk
 |vo _ _=>exact fun k hk=>by cases hk
 |tx _=>exact fun k hk=>by cases hk
 |nd=>exact fun k hk=>by cases hk
 |al=>exact fun k hk=>by cases hk
theorem sm_of:∀t:WV,WfW (P14.er t)→GoW (P14.er t)→SmW t:=by
 intro t
 induction t using WV.ind with
 |h kind tag key txt sa attrs sk kids ih=>
  intro hw hg;obtain⟨h1,h2,h3⟩:=wf_sm hw;refine .mk h1 h2 h3 hg.att (fun k hk=>ih k hk (wf_kids hw _ ?_) (hg.ks _ ?_))
  ·show P14.er k∈erL kids;exact er_mem hk
  ·show P14.er k∈erL kids;exact er_mem hk
theorem sm_all{us:List WV}(h1:∀x∈erL us,WfW x)(h2:∀x∈erL us,GoW x):∀t∈us,SmW t:=fun t ht=>sm_of t (h1 _ (er_mem ht)) (h2 _ (er_mem ht))
end P19
namespace P19
open Go.RowKit Kd P4 P5 P7 P14 P16
def recF(f:Nat):Rec:=fun s i ks w=>patchP f s i ks 0 w
def aw(f:Nat)(par beh:Int)(ids:List Int)(y:Rx)(rs:List RR)(ts:List WV)(i:Nat):Sg×List Int:=atW (recF f) par beh ids (ids.map (oldOf y.d.l)) (erL ts) (y.d,rs.map (·.r)) i
def tk(ids:List Int)(y:Rx)(ts:List WV):List Int:=(foldM (ids.map (oldOf y.d.l)) (erL ts)).take
theorem erL_len(ts:List WV):(erL ts).length=ts.length:=by rw[erL_map];simp
theorem tk_len(ids:List Int)(y:Rx)(ts:List WV):(tk ids y ts).length=ts.length:=by
 unfold tk;rw[take_len,erL_len]
section
variable{f:Nat}{par beh:Int}{ids:List Int}{y:Rx}{v:Value}{rs:List RR}{ts:List WV}{i:Nat}{w:World}{C B g q:Nat}{A A':Option Addr}{n c n' c':Nat}
theorem er_at(hi:i<ts.length):(erL ts)[i]'(by rw[erL_len];exact hi)=er ts[i]:=by simp[erL_map]
theorem aw_succ(hi:i<ts.length):aw f par beh ids y rs ts (i+1)=stepW (recF f) par beh ids (er ts[i]) ((tk ids y ts)[i]'(by rw[tk_len];exact hi)) (aw f par beh ids y rs ts i):=by
 unfold aw;rw[atW_succ (by rw[erL_len];exact hi),er_at hi];rfl
theorem szL_mem:∀{l:List PW} {i:Nat} (hi:i<l.length),szL (l.take i)+szW l[i]≤szL l
 |[],i,hi=>by simp at hi
 |x:: r,0,_=>by rw[List.take_zero,szL,szL,List.getElem_cons_zero];omega
 |x:: r,i+1,hi=>by
  have:=szL_mem (l:=r) (i:=i) (by simpa using hi);rw[List.take_succ_cons,szL,szL,List.getElem_cons_succ];omega
theorem num_n{a e:Int}{b c d:Nat}(h1:a≤e+(b:Nat))(h2:b+c≤d)(h3:e+(d:Nat)≤90000):a+(c:Nat)≤90000:=by omega
theorem num_log{a b c d e:Nat}(h1:a≤e+2000*b)(h2:b+c≤d)(h3:e+2000*(d+1)≤800000):a+2000*c+2000≤800000:=by omega
theorem num_end{a d e:Nat}(h1:a≤e+2000*d)(h3:e+2000*(d+1)≤800000):a≤800000:=by omega
structure AwF(y:Rx)(rs:List RR)(par:Int)(ids:List Int)(p:Sg×List Int)(t:WV):Prop where
 lv:Lv (y.d,rs.map (·.r)) par ids p.1
 may:MayD p.1.1
 sub:∀c∈p.2,c∈ids
 nod:p.2.Nodup
 len:p.2.length≤200
 num:p.1.1.n+(szW (er t):Nat)≤90000
 log:p.1.2.length+2000*szW (er t)+2000≤800000
 cnt:szW (er t)≤1000
theorem aw_facts(beh:Int)(pre:PatchPre w C B g q y v rs par ids A n c A' n' c' ts)(hi:i<ts.length):AwF y rs par ids (aw f par beh ids y rs ts i) ts[i]:=by
 have hie:i<(erL ts).length:=(by rw[erL_len];exact hi);have h:=at_all (want:=erL ts) (beh:=beh) (old:=ids.map (oldOf y.d.l)) (rec_ok f) pre.wf pre.p0 pre.kids pre.nod (by simp) i (by omega);have hl:=at_len (want:=erL ts) (beh:=beh) (old:=ids.map (oldOf y.d.l)) (rec_ok f) (rec_len_ok f) pre.wf pre.p0 pre.kids pre.nod pre.few (by simp) i (by omega);have hm:=cl_at (want:=erL ts) (beh:=beh) (par:=par) (ids:=ids) (old:=ids.map (oldOf y.d.l)) may_cl (rec_cl may_cl f) (s:=(y.d,rs.map (·.r))) pre.may i (by omega);have hs:=szL_mem hie;rw[er_at hi] at hs;have h1:=pre.num;have h2:=pre.len;have h3:=pre.cnt;have h4:(y.d,rs.map (·.r)).2.length=rs.length:=(by simp);have h5:(y.d,rs.map (·.r)).1.n=y.n:=rfl;have a1:(aw f par beh ids y rs ts i).1.1.n≤y.n+(szL ((erL ts).take i):Nat):=hl.1;have a2:(aw f par beh ids y rs ts i).1.2.length≤rs.length+2000*szL ((erL ts).take i):=by
  have:=hl.2;rw[h4] at this;exact this
 have hleft:(aw f par beh ids y rs ts i).2=selF ids (foldM (ids.map (oldOf y.d.l)) ((erL ts).take i)).left:=h.left;refine⟨h.lv,hm,fun c hc=>?_,?_,?_,?_,?_,?_⟩
 ·rw[hleft] at hc;exact(selF_sub _ _).subset hc
 ·rw[hleft];exact(selF_sub _ _).nodup pre.nod
 ·rw[hleft];exact Nat.le_trans (selF_sub _ _).length_le pre.few
 ·exact num_n a1 hs h1
 ·exact num_log a2 hs h2
 ·omega
theorem mv_facts(beh:Int)(pre:PatchPre w C B g q y v rs par ids A n c A' n' c' ts){p:Sg×List Int}{t:WV}(h:AwF y rs par ids p t){a:Int}(ha:a∈ids)(k:Nat):
 Lv (y.d,rs.map (·.r)) par ids (moveP p.1 par p.2 beh a k).1∧MayD (moveP p.1 par p.2 beh a k).1.1∧(moveP p.1 par p.2 beh a k).1.1.n=p.1.1.n∧(moveP p.1 par p.2 beh a k).1.2.length≤p.1.2.length+201:=by
 obtain⟨h1,h2⟩:=move_len (par:=par) h.lv.wf p.2 beh a k;have:=h.len;exact⟨h.lv.move pre.wf h.sub beh a k ha,cl_move may_cl h.may _ _ _ _ _,h1,by omega⟩
theorem aw_taken(beh:Int)(pre:PatchPre w C B g q y v rs par ids A n c A' n' c' ts)(hi:i<ts.length)(h0:0≤(tk ids y ts)[i]'(by rw[tk_len];exact hi)):
 ∃(j:Nat) (a:Int),(tk ids y ts)[i]'(by rw[tk_len];exact hi)=(j:Int)∧ids[j]? = some a∧a∈(aw f par beh ids y rs ts i).2∧a∈ids:=by
 have hie:i<(erL ts).length:=(by rw[erL_len];exact hi);have h:=at_all (want:=erL ts) (beh:=beh) (old:=ids.map (oldOf y.d.l)) (rec_ok f) pre.wf pre.p0 pre.kids pre.nod (by simp) i (by omega);obtain⟨j,a,e1,e2,e3,_⟩:=taken_at (old:=ids.map (oldOf y.d.l)) (ids:=ids) (by simp) hie h0;refine⟨j,a,e1,e2,?_,List.mem_of_getElem? e2⟩;have hleft:(aw f par beh ids y rs ts i).2=selF ids (foldM (ids.map (oldOf y.d.l)) ((erL ts).take i)).left:=h.left;rw[hleft];exact selF_mem e3 e2
theorem aw_end:gonesP (aw f par beh ids y rs ts ts.length).2 (aw f par beh ids y rs ts ts.length).1=patchP (f+1) (y.d,rs.map (·.r)) par ids beh (erL ts):=by
 rw[patch_succ,erL_len];rfl
end
theorem gones_snoc(l:List Int)(i:Int)(s:Sg):gonesP (l++[i]) s=doP (gonesP l s) (recGone i):=by
 unfold gonesP;rw[List.foldl_append];rfl
theorem gones_wf:∀(l:List Int) {s:Sg},WF s.1→WF (gonesP l s).1
 |[],_,h=>h
 |i:: l,s,h=>gones_wf l (s:=doP s (recGone i)) (doP_wf h _)
theorem aw_last{f:Nat}{par beh:Int}{ids:List Int}{y:Rx}{v:Value}{rs:List RR}{ts:List WV}{w:World}{C B g q:Nat}{A A':Option Addr}{n c n' c':Nat}(pre:PatchPre w C B g q y v rs par ids A n c A' n' c' ts):
 WF (aw f par beh ids y rs ts ts.length).1.1∧(aw f par beh ids y rs ts ts.length).1.1.n≤90000∧(aw f par beh ids y rs ts ts.length).1.2.length≤800000∧(aw f par beh ids y rs ts ts.length).2.length≤200:=by
 have h:=at_all (want:=erL ts) (beh:=beh) (old:=ids.map (oldOf y.d.l)) (rec_ok f) pre.wf pre.p0 pre.kids pre.nod (by simp) ts.length (by rw[erL_len];exact Zl);have hl:=at_len (want:=erL ts) (beh:=beh) (old:=ids.map (oldOf y.d.l)) (rec_ok f) (rec_len_ok f) pre.wf pre.p0 pre.kids pre.nod pre.few (by simp) ts.length (by rw[erL_len];exact Zl);have hleft:(aw f par beh ids y rs ts ts.length).2=selF ids (foldM (ids.map (oldOf y.d.l)) ((erL ts).take ts.length)).left:=h.left;have h4:(y.d,rs.map (·.r)).2.length=rs.length:=(by simp);have ht:(erL ts).take ts.length=erL ts:=(by rw[←erL_len,List.take_length]);rw[ht] at hl;have a1:(aw f par beh ids y rs ts ts.length).1.1.n≤y.n+(szL (erL ts):Nat):=hl.1;have a2:(aw f par beh ids y rs ts ts.length).1.2.length≤rs.length+2000*szL (erL ts):=by
  have:=hl.2;rw[h4] at this;exact this
 refine⟨h.lv.wf,by have:=pre.num;omega,num_end a2 pre.len,?_⟩;rw[hleft];exact Nat.le_trans (selF_sub _ _).length_le pre.few
def PtRel(w:World)(B g q:Nat)(y:Rx)(v:Value)(rs:List RR)(f:Nat)(par beh:Int)(ids:List Int)(ts:List WV)(n':Nat)(s15 s16:Value)(wr:World):Prop:=
 ∃(i:Nat) (A1:Option Addr) (n1 c1:Nat),i≤n'∧s16 = .int .i64 i∧s15 = .slice A1 n1 c1∧Hid (kI.Own wr 0 (.slice A1 n1 c1) (aw f par beh ids y rs ts i).2)∧Hid (∃y' v' rs',Wdid w B g q y v y' v' rs' wr∧(y'.d,rs'.map (·.r))=(aw f par beh ids y rs ts i).1)
def GoRel(w:World)(B g q:Nat)(y:Rx)(v:Value)(rs:List RR)(left:List Int)(S:Sg)(nL:Nat)(lv:Value)(s23:Value)(wr:World):Prop:=
 ∃(j:Nat),j≤nL∧s23 = .int .i64 j∧Hid (∃y' v' rs',Wdid w B g q y v y' v' rs' wr∧(y'.d,rs'.map (·.r))=gonesP (left.take j) S)∧Hid (kI.Own wr 0 lv left)
theorem pt_next{w wx:World}{B g q bx:Nat}{y:Rx}{v:Value}{rs:List RR}{f:Nat}{par beh:Int}{ids:List Int}{ts:List WV}{n' i:Nat}{t:WV}{A1:Option Addr}{n1 c1:Nat}{p:Sg×List Int}(hi:i<n')(hn:ts.length=n')(h:Cx w B g q y v rs bx t (.slice A1 n1 c1) p.2 p.1 wx)
 (hp:stepW (recF f) par beh ids (er (ts[i]'(by omega))) ((tk ids y ts)[i]'(by rw[tk_len];omega)) (aw f par beh ids y rs ts i)=p) (k:Value) (hk:k = .int .i64 (i+1:Nat)):PtRel w B g q y v rs f par beh ids ts n' (.slice A1 n1 c1) k wx:=by
 have e:aw f par beh ids y rs ts (i+1)=p:=(aw_succ (by omega)).trans hp;exact⟨i+1,A1,n1,c1,hi,hk,rfl,Zh (by rw[e];exact h.own),Zh (by rw[e];exact h.run)⟩
end P19
namespace P16
open Go.RowKit Kd P4 P5 P11 P12 P13 P14
theorem infoO:(Tryz.prog.info? 183).map (fun i=>(i.zero,i.size,i.bytes))=some (some (.agg #[.string ⟨#[]⟩,.string ⟨#[]⟩]),2,32):=by kernel_rfl
theorem infoU:(Tryz.prog.info? 98).map (fun i=>(i.zero,i.size,i.bytes))=some (some (.agg #[.string ⟨#[]⟩,.string ⟨#[]⟩]),2,32):=by kernel_rfl
theorem infoBo:(Tryz.prog.info? 4).map (fun i=>(i.zero,i.size,i.bytes))=some (some (.bool false),1,1):=by kernel_rfl
def Ol.cells(o:Ol):List Value:=[.string o.tag,.string o.key]
def kO:Kind Tryz.prog Ol where
 t:=149
 e:=183
 size:=2
 bytes:=32
 z:=.agg #[.string ⟨#[]⟩,.string ⟨#[]⟩]
 cs:=Ol.cells
 ht:=Tryz.underlying149
 info:=info_ex infoO
 hzs:=rfl
 hpos:=by decide
 hbb:=by decide
 len:=fun _=>rfl
 one:=fun a u hu=>by simp[Ol.cells] at hu;rcases hu with rfl|rfl<;>rfl
def kU:Kind Tryz.prog Ol where
 t:=96
 e:=98
 size:=2
 bytes:=32
 z:=.agg #[.string ⟨#[]⟩,.string ⟨#[]⟩]
 cs:=Ol.cells
 ht:=Tryz.underlying96
 info:=info_ex infoU
 hzs:=rfl
 hpos:=by decide
 hbb:=by decide
 len:=fun _=>rfl
 one:=fun a u hu=>by simp[Ol.cells] at hu;rcases hu with rfl|rfl<;>rfl
def kBo:Kind Tryz.prog Bool where
 t:=154
 e:=4
 size:=1
 bytes:=1
 z:=.bool false
 cs:=fun c=>[.bool c]
 ht:=Tryz.underlying154
 info:=info_ex infoBo
 hzs:=rfl
 hpos:=by decide
 hbb:=by decide
 len:=fun _=>rfl
 one:=fun a u hu=>by simp at hu;subst hu;rfl
theorem cell_of_u{w:World}{B:Nat}{A:Option Addr}{l:List Ol}(h:kU.Holds w B A l){k:Nat}(hk:k<l.length):
 ∃b o,A=some ⟨b,o,none⟩∧b<B∧w.cell? ⟨b,o+k*2,none⟩=some (.string l[k].tag)∧w.cell? ⟨b,o+k*2+1,none⟩=some (.string l[k].key):=by
 obtain⟨b,o,rfl,hb,hc⟩:=h.at hk;exact⟨b,o,rfl,hb,hc 0 _ rfl,hc 1 _ rfl⟩
theorem cell_of_o{w:World}{B:Nat}{A:Option Addr}{l:List Ol}(h:kO.Holds w B A l){k:Nat}(hk:k<l.length):
 ∃b o,A=some ⟨b,o,none⟩∧b<B∧w.cell? ⟨b,o+k*2,none⟩=some (.string l[k].tag)∧w.cell? ⟨b,o+k*2+1,none⟩=some (.string l[k].key):=by
 obtain⟨b,o,rfl,hb,hc⟩:=h.at hk;exact⟨b,o,rfl,hb,hc 0 _ rfl,hc 1 _ rfl⟩
theorem own_setK{P:Program}{α:Type}{K:Kind P α}{w:World}{B g n c:Nat}{l:List α}(h:K.Own w B (.slice (some ⟨g,0,none⟩) n c) l){k:Nat}(hk:k<l.length)(a:α):
 K.Own (w.setCells g (k*K.size) (K.cs a)) B (.slice (some ⟨g,0,none⟩) n c) (l.set k a):=by
 rcases h.form with⟨hv,_⟩|⟨g',c',cur,hv,_,hBg,hlt,hh,hnc,hcm,hcs,ht⟩
 ·cases hv
 injection hv with e1 e2 e3;injection e1 with e1;injection e1 with e1;subst e1;subst e2;subst e3;obtain⟨cur',h1,h2,h3⟩:=heap_setCells g (K.cs a) (k*K.size) w cur _ _ hh;have hmul:l.length*K.size≤c*K.size:=Nat.mul_le_mul_right _ hnc;have hkm:(k+1)*K.size≤l.length*K.size:=Nat.mul_le_mul_right _ hk;have hkm2:(k+1)*K.size=k*K.size+K.size:=(by rw[Nat.add_mul,Nat.one_mul]);refine Kind.own_mk (by simp) hBg h1 hnc hcm (by rw[h2];exact hcs) ?_;apply List.ext_getElem?;intro i;have hpos:=K.hpos;rw[List.getElem?_take];by_cases hi:i<l.length*K.size
 ·rw[if_pos hi,Array.getElem?_toList,h3 i (by omega),K.len];have hdm:i/K.size*K.size+i % K.size=i:=(by rw[Nat.mul_comm];exact Nat.div_add_mod i K.size);have hmod:i % K.size<K.size:=Nat.mod_lt _ hpos;have hdiv:i/K.size<l.length:=(by rw[Nat.div_lt_iff_lt_mul hpos];exact hi);have hat:=K.cells_at (l.set k a) (i/K.size) (by simpa using hdiv) (i % K.size) hmod;rw[hdm] at hat;rw[hat,List.getElem_set];by_cases hik:k=i/K.size
  ·subst hik;rw[if_pos rfl,if_pos ⟨by omega,by omega⟩];congr 1;omega
  ·rw[if_neg hik];have hat2:=K.cells_at l (i/K.size) hdiv (i % K.size) hmod;rw[hdm] at hat2;rw[←hat2,←ht,List.getElem?_take,if_pos hi,if_neg ?_,Array.getElem?_toList];rintro⟨h5,h6⟩;apply hik;have h7:k≤i/K.size:=(by rw[Nat.le_div_iff_mul_le hpos];exact h5);have h8:i/K.size<k+1:=(by rw[Nat.div_lt_iff_lt_mul hpos];omega);omega
 ·rw[if_neg hi,List.getElem?_eq_none];rw[Kind.cells_len,List.length_set];omega
theorem own_bool{w:World}{B g n c:Nat}{l:List Bool}(h:kBo.Own w B (.slice (some ⟨g,0,none⟩) n c) l){k:Nat}(hk:k<l.length):
 w.cell? ⟨g,k,none⟩=some (.bool l[k])∧w.frozen? ⟨g,k,none⟩=false∧∀b,kBo.Own (w.setCell ⟨g,k,none⟩ (.bool b)) B (.slice (some ⟨g,0,none⟩) n c) (l.set k b):=by
 refine⟨?_,?_,fun b=>?_⟩
 ·obtain⟨A',n',c',hv,_,_,_,_,e5⟩:=h.slice;injection hv with h1 h2 h3;subst h1;subst h2;subst h3;obtain⟨b,o,hA,_,hc⟩:=e5.at hk;injection hA with hA;injection hA with e1 e2 _;subst e1;subst e2;have:=hc 0 _ rfl;simpa[kBo] using this
 ·rcases h.form with⟨hv,_⟩|⟨g',c',cur,hv,_,_,_,hh,_⟩
  ·cases hv
  injection hv with e1;injection e1 with e1;injection e1 with e1;subst e1;simp[World.frozen?,hh]
 ·have:=own_setK h hk b;have e:k*kBo.size=k:=Nat.mul_one k;rw[e] at this;exact this
theorem set_but(w:World)(g k:Nat)(u:Value):But (fun i=>i=g) w (w.setCell ⟨g,k,none⟩ u):=But.setCell (S:=fun i=>i=g) (p:=⟨g,k,none⟩) (But.refl _ _) (fun _=>rfl) u
theorem cells_rep:∀M:Nat,kBo.cells (List.replicate M false)=List.replicate M (.bool false)
 |0=>rfl
 |M+1=>by
  have h:=cells_rep M;simp only[Kind.cells,List.replicate_succ,List.flatMap_cons] at h⊢;rw[h];rfl
theorem make_bools(W:World)(B M:Nat)(hB:B≤W.heap.size)(hM:M≤100000):
 ∃w',(Instr.makeSlice 154 (.int .i64 (M:Int)) (.int .i64 (M:Int))).run Tryz.prog W = .ok (.slice (some ⟨W.heap.size,0,none⟩) M M) w'∧
  kBo.Own w' B (.slice (some ⟨W.heap.size,0,none⟩) M M) (List.replicate M false)∧W.grownBy w' none:=by
 obtain⟨i0,hi,hz0,hz1,hz2⟩:=kBo.info;have hb:kBo.bytes=1:=rfl;obtain⟨w',h1,h2,h3⟩:=run_make_full (P:=Tryz.prog) W B 154 4 i0 kBo.z kBo.size Tryz.underlying154 hi hz0 hz1 .i64 .i64 M (by rw[hz2,hb];omega) (by unfold maxLen;omega) hB;refine⟨w',h1,?_,h3⟩;have e:(madeCells kBo.z.cells (M*kBo.size)).toList=kBo.cells (List.replicate M false):=by
  have e1:M*kBo.size=M:=Nat.mul_one M;have e2:kBo.z.cells=#[.bool false]:=rfl;rw[e1,e2,toList_madeCells_one,cells_rep]
 rw[e] at h2;show w'.ownsRow B kBo.e kBo.size _ (List.replicate M false).length _;rw[List.length_replicate];exact h2
theorem apart_grows{w:World}{v u v':Value}{o:Obj}{B:Nat}{l:List Int}(ha:Apart v u)(hu:kI.Own w B u l)(hat:v'.ownBlock=v.ownBlock∨v'.ownBlock=some (w.alloc o).heap.size):Apart v' u:=by
 intro g hg e;rcases hat with h|h
 ·exact ha g (h▸hg) e
 ·rw[h] at hg;injection hg with hg;have:=(hu.lt e).2;simp at hg;omega
theorem er_takes(t:WV)(o:Ol)(f:Bool):takesW (er t) o f=(if t.kind=1 then bq o.tag t.tag&&bq o.key t.key&&(f || !t.key.toList.isEmpty) else if t.kind=2 then f&&o.tag.toList.isEmpty else if t.kind=3 then f else false):=by rw[er_parts];rfl
theorem takes_any(t:WV)(ob:Ol)(f:Bool)(w:World):Calls Tryz.prog 84 #[.agg #[.int .i64 t.kind,.string t.tag,.string t.key,.string t.txt,.slice t.sa.A t.sa.n t.sa.c,.slice t.sk.A t.sk.n t.sk.c],.agg #[.string ob.tag,.string ob.key],.bool f] w fun e w'=>e = .returned (.bool (takesW (er t) ob f))∧Below w.heap.size w w':=by
 rw[er_takes];obtain⟨tag,key⟩:=ob;obtain⟨kind,tg,ky,tx,sa,ats,sk,ks⟩:=t;simp only[WV.kind,WV.tag,WV.key,WV.txt,WV.sa,WV.sk];obtain⟨A,n,c⟩:=sa;obtain⟨A2,n2,c2⟩:=sk;have B1:Hid (Below w.heap.size w ((w.alloc (.cells #[.int .i64 kind,.string tg,.string ky,.string tx,.slice A n c,.slice A2 n2 c2] 103)).alloc (.cells #[.string tag,.string key] 98))):=Zh ((Zb _ _).alloc (by simp) _);have X1:Hid (((w.alloc (.cells #[.int .i64 kind,.string tg,.string ky,.string tx,.slice A n c,.slice A2 n2 c2] 103)).alloc (.cells #[.string tag,.string key] 98)).heap[w.heap.size]? = some (.cells #[.int .i64 kind,.string tg,.string ky,.string tx,.slice A n c,.slice A2 n2 c2] 103 (0,0))):=Zh (heap_up (heap_alloc_new w _));have Y1:Hid (((w.alloc (.cells #[.int .i64 kind,.string tg,.string ky,.string tx,.slice A n c,.slice A2 n2 c2] 103)).alloc (.cells #[.string tag,.string key] 98)).heap[w.heap.size+1]? = some (.cells #[.string tag,.string key] 98 (0,0))):=Zh (by
  have:=heap_alloc_new (w.alloc (.cells #[.int .i64 kind,.string tg,.string ky,.string tx,.slice A n c,.slice A2 n2 c2] 103)) (.cells #[.string tag,.string key] 98);simpa using this)
 go_enter Tryz.func84,Tryz.ntmps84;go_upto_region 1 with fail;generalize (w.alloc (.cells #[.int .i64 kind,.string tg,.string ky,.string tx,.slice A n c,.slice A2 n2 c2] 103)).alloc (.cells #[.string tag,.string key] 98)=W at B1 X1 Y1⊢;have a0:W.cell? ⟨w.heap.size,0,none⟩=some (.int .i64 kind):=cell_of_row W w.heap.size 0 _ _ (0,0) X1.out;have a1:W.cell? ⟨w.heap.size,1,none⟩=some (.string tg):=cell_of_row W w.heap.size 1 _ _ (0,0) X1.out;have a2:W.cell? ⟨w.heap.size,2,none⟩=some (.string ky):=cell_of_row W w.heap.size 2 _ _ (0,0) X1.out;have b0:W.cell? ⟨w.heap.size+1,0,none⟩=some (.string tag):=cell_of_row W (w.heap.size+1) 0 _ _ (0,0) Y1.out;have b1:W.cell? ⟨w.heap.size+1,1,none⟩=some (.string key):=cell_of_row W (w.heap.size+1) 1 _ _ (0,0) Y1.out;obtain⟨bt,hbt⟩:∃b,(tag.toList==tg.toList)=b:=⟨_,rfl⟩;obtain⟨bk,hbk⟩:∃b,(key.toList==ky.toList)=b:=⟨_,rfl⟩;obtain⟨ek,hek⟩:∃b,ky.toList.isEmpty=b:=⟨_,rfl⟩;obtain⟨et,het⟩:∃b,tag.toList.isEmpty=b:=⟨_,rfl⟩;by_cases h1:kind=1
 ·subst h1;have HR:Hid ((if(1:Int)=1 then bq tag tg&&bq key ky&&(f || !ky.toList.isEmpty) else if(1:Int)=2 then f&&tag.toList.isEmpty else if(1:Int)=3 then f else false)=(bt&&bk&&(f || !ek))):=Zh (by rw[if_pos rfl,bq,bq,hbt,hbk,hek]);cases bt<;>cases bk<;>cases f<;>cases ek
  all_goals
   go_wp2_with fail;go_ret;exact⟨by first|rfl|(simp_all [bq]),B1.out⟩
 ·have q1:=int_ne h1;by_cases h2:kind=2
  ·subst h2;cases et<;>cases f
   all_goals
    go_wp2_with fail;go_ret;exact⟨by first|rfl|(simp_all),B1.out⟩
  ·have q2:=int_ne h2;by_cases h3:kind=3
   ·subst h3;go_wp2_with fail;go_ret;exact⟨by simp,B1.out⟩
   ·have q3:=int_ne h3;go_wp2_with fail;go_ret;exact⟨by simp[h1,h2,h3],B1.out⟩
def Mv3(w:World)(a b d:List Int)(e:Ending)(w':World):Prop:=∃(A1:Option Addr) (n1 c1:Nat) (A2:Option Addr) (n2 c2:Nat) (A3:Option Addr) (n3 c3:Nat),e = .returned (.tuple #[.slice A1 n1 c1,.slice A2 n2 c2,.slice A3 n3 c3])∧
 kI.Own w' w.heap.size (.slice A1 n1 c1) a∧kI.Own w' w.heap.size (.slice A2 n2 c2) b∧kI.Own w' w.heap.size (.slice A3 n3 c3) d∧Below w.heap.size w w'
def MRel(w:World)(g n:Nat)(old:List Ol)(ws:List PW)(s9 s10 s11:Value)(wr:World):Prop:=∃(j:Nat) (A1:Option Addr) (n1 c1:Nat) (A2:Option Addr) (n2 c2:Nat),j≤ws.length∧s11 = .int .i64 j∧s9 = .slice A1 n1 c1∧s10 = .slice A2 n2 c2∧
 Hid (kBo.Own wr w.heap.size (.slice (some ⟨g,0,none⟩) n n) (foldM old (ws.take j)).left)∧Hid (kI.Own wr w.heap.size (.slice A1 n1 c1) (foldM old (ws.take j)).take)∧Hid (kI.Own wr w.heap.size (.slice A2 n2 c2) (foldM old (ws.take j)).kept)∧Hid (Apart (.slice A1 n1 c1) (.slice A2 n2 c2))∧Hid (Below w.heap.size w wr)
def KRel(W:World)(C g n:Nat)(left1:List Bool)(kept0 take1:List Int)(v9:Value)(s10 s15:Value)(wr:World):Prop:=∃(k:Nat) (A2:Option Addr) (n2 c2:Nat),k≤n∧s15 = .int .i64 k∧s10 = .slice A2 n2 c2∧
 Hid (kBo.Own wr C (.slice (some ⟨g,0,none⟩) n n) (clearM left1 k))∧Hid (kI.Own wr C (.slice A2 n2 c2) (kept0++idxM left1 k))∧Hid (kI.Own wr C v9 take1)∧Hid (Apart v9 (.slice A2 n2 c2))∧Hid (Below C W wr)
theorem own_int_bool{w:World}{B B' g n:Nat}{v u:Value}{l:List Int}{m:List Bool}(h:kI.Own w B v l)(hb:kBo.Own w B' (.slice (some ⟨g,0,none⟩) n n) m)(k:Nat):kI.Own (w.setCell ⟨g,k,none⟩ u) B v l:=
 h.but (set_but w g k u) (fun i hi e=>Kind.Own.ne_ h hb (by decide) i hi (by rw[e];rfl))
theorem rof16_any(old:List Ol)(ts:List WV)(A:Option Addr)(n c:Nat)(A':Option Addr)(n' c':Nat)(w:World)(hh:kU.Holds w w.heap.size A old)(hn:old.length=n)(hl:n≤1000)(hh':kQ.Holds w w.heap.size A' ts)(hn':ts.length=n')(hl':n'≤1000):
 Calls Tryz.prog 42 #[.slice A n c,.slice A' n' c'] w (Mv3 w (foldM old (erL ts)).take (foldM old (erL ts)).kept (idxM (foldM old (erL ts)).left old.length)):=by
 have KH:=Zh hh;have KL:=Zh hn;have KH':=Zh hh';have KL':=Zh hn';have EL:Hid ((erL ts).length=n'):=Zh (by rw[erL_map];simpa using hn');obtain⟨wm,hmk,ownM,grM⟩:=make_bools w w.heap.size n (Zl) (by omega);have BM:Hid (Below w.heap.size w wm):=Zh (Ze.grown grM (Zl) (fun k hk=>by cases hk));obtain⟨g,hg⟩:∃g,g=w.heap.size:=⟨_,rfl⟩;rw[←hg] at hmk;have OM:Hid (kBo.Own wm w.heap.size (.slice (some ⟨g,0,none⟩) n n) (List.replicate n false)):=Zh (by rw[hg];exact ownM);have HG:=Zh hg;clear hh hn hh' hn' ownM grM hg;go_enter Tryz.func42,Tryz.ntmps42;go_wp2_with fail;go_loopw [8] (fun s wr=>∃(k:Nat),k≤n∧s = .int .i64 k∧Hid (kBo.Own wr w.heap.size (.slice (some ⟨g,0,none⟩) n n) (List.replicate k true++List.replicate (n-k) false))∧Hid (Below w.heap.size w wr)) (fun s _=>n-(intOf s).toNat)
 case atStart=>exact⟨0,by omega,rfl,Zh (by simpa using OM.out),BM⟩
 case round=>
  obtain⟨k,hk,rfl,HO,HB⟩:=hrel;clear hmk;by_cases hkn:k<n
  ·have OB:=own_bool HO.out (k:=k) (by simp;omega);obtain⟨c0,f0,st⟩:=OB;have HO2:Hid (kBo.Own (wr.setCell ⟨g,k,none⟩ (.bool true)) w.heap.size (.slice (some ⟨g,0,none⟩) n n) (List.replicate (k+1) true++List.replicate (n-(k+1)) false)):=Zh (by
    have:=st true;obtain⟨r,hr⟩:∃r,n-k=r+1:=⟨n-k-1,by omega⟩;rw[hr,List.set_append_right _ _ (by simp),List.length_replicate,Nat.sub_self,List.replicate_succ,List.set_cons_zero] at this;rw[show n-(k+1)=r by omega,List.replicate_succ',List.append_assoc];exact this)
   have HB2:Hid (Below w.heap.size w (wr.setCell ⟨g,k,none⟩ (.bool true))):=Zh (HB.out.trans ((set_but wr g k _).to_below (fun i _ hi=>by have:=HG.out;omega) HB.out.size));clear st OM BM;go_wp2_with fail;go_roundw
   case rel=>exact⟨k+1,by omega,by go_num,HO2,HB2⟩
   case measure=>simp[intOf];omega
  ·obtain rfl:k=n:=by omega
   have HO3:Hid (kBo.Own wr w.heap.size (.slice (some ⟨g,0,none⟩) k k) (foldM old ((erL ts).take 0)).left):=Zh (by
    have:=HO.out;simp only[Nat.sub_self,List.replicate_zero,List.append_nil] at this;rw[List.take_zero];show kBo.Own wr w.heap.size _ (List.replicate old.length true);rw[KL.out];exact this)
   have ST:Hid (MRel w g k old (erL ts) (.slice none 0 0) (.slice none 0 0) (.int .i64 0) wr):=Zh ⟨0,none,0,0,none,0,0,by omega,rfl,rfl,rfl,HO3,Zh (Kind.Own.nil kI wr _),Zh (Kind.Own.nil kI wr _),Zh (fun g hg=>by cases hg),HB⟩;clear HO HO3 OM BM;go_wp2_with fail;go_loopw [9,10,11] (fun s9 s10 s11 wr=>MRel w g k old (erL ts) s9 s10 s11 wr) (fun _ _ s11 _=>n'-(intOf s11).toNat)
   case atStart=>exact ST.out
   case round=>
    obtain⟨j,A1,n1,c1,A2,n2,c2,hj,rfl,rfl,rfl,HL,HTa,HKe,HAp,HB1⟩:=hrel;clear ST HB;rw[EL.out] at hj;have hns:=foldM_lens old ((erL ts).take j);have hlf:=foldM_left old ((erL ts).take j);by_cases hjn:j<n'
    ·have hjl:j<ts.length:=(by have:=KL'.out;omega);have hje:j<(erL ts).length:=(by have:=EL.out;omega);have SN:=Zh (foldM_snoc (old:=old) hje);rw[erL_at hjl hje] at SN;rw[List.length_take] at hns;generalize foldM old ((erL ts).take j)=s at HL HTa HKe SN hns hlf;obtain⟨left,take,kept⟩:=s;simp only at HL HTa HKe SN hns hlf;have hlf2:left.length=k:=(by have:=KL.out;omega);have htl:take.length≤1000:=(by omega);have hkl2:kept.length≤1000000:=by
      have h1:min j (erL ts).length*old.length≤1000*1000:=Nat.mul_le_mul (by omega) (by have:=KL.out;omega);omega
     have HTL:=Zh htl;have HKL2:=Zh hkl2;have HLF:=Zh hlf2;clear hns hlf htl hkl2 hlf2;obtain⟨b',o',rfl,hb',y0,y1,y2,y3,y4,y5⟩:=cell_of_q KH'.out hjl;have GW:Hid (∀wz,Below w.heap.size w wz→wz.cell? ⟨b',o'+j*6,none⟩=some (.int .i64 ts[j].kind)∧wz.cell? ⟨b',o'+j*6+1,none⟩=some (.string ts[j].tag)∧wz.cell? ⟨b',o'+j*6+2,none⟩=some (.string ts[j].key)∧wz.cell? ⟨b',o'+j*6+3,none⟩=some (.string ts[j].txt)∧wz.cell? ⟨b',o'+j*6+4,none⟩=some (.slice ts[j].sa.A ts[j].sa.n ts[j].sa.c)∧wz.cell? ⟨b',o'+j*6+5,none⟩=some (.slice ts[j].sk.A ts[j].sk.n ts[j].sk.c)):=Zh (fun wz h=>⟨(h.cell hb').trans y0,(h.cell hb').trans y1,(h.cell hb').trans y2,(h.cell hb').trans y3,(h.cell hb').trans y4,(h.cell hb').trans y5⟩);clear y0 y1 y2 y3 y4 y5 hje;have HKD:Hid ((er ts[j]).kind=ts[j].kind):=Zh (by rw[er_parts];rfl);generalize ts[j]=t at GW SN HKD;clear hjl;obtain⟨W,rfl⟩:∃W:World,W=wr:=⟨_,rfl⟩;obtain⟨av,hav⟩:∃a,(scanM (er t) old left old.length).1=a:=⟨_,rfl⟩;have HAV:=Zh hav;have SN2:Hid ((t.kind=4→foldM old ((erL ts).take (j+1))=⟨List.replicate old.length false,take++[av],kept++idxM (leftM left av) old.length⟩)∧(¬t.kind=4→foldM old ((erL ts).take (j+1))=⟨leftM left av,take++[av],kept⟩)):=Zh (by
      rw[SN.out,stepM,HKD.out];simp only[hav];exact⟨fun h=>by rw[if_pos h],fun h=>by rw[if_neg h]⟩)
     clear hav SN HKD;have ST1:Hid (∃(m:Nat),m≤k∧(Value.int .i64 0) = .int .i64 (m:Int)∧(Value.int .i64 (-1)) = .int .i64 (scanM (er t) old left m).1∧(Value.bool true) = .bool (scanM (er t) old left m).2∧Hid (Below W.heap.size W W)):=Zh ⟨0,by omega,rfl,rfl,rfl,Zh Ze⟩
     go_upto_block 4 with fail
     go_cut [12] (fun s12 wx=>s12 = .int .i64 av∧Hid (Below W.heap.size W wx))
     case first=>
      go_wp2_with fail;go_loopw [12,13,14] (fun s12 s13 s14 wr=>∃(m:Nat),m≤k∧s14 = .int .i64 (m:Int)∧s12 = .int .i64 (scanM (er t) old left m).1∧s13 = .bool (scanM (er t) old left m).2∧Hid (Below W.heap.size W wr)) (fun _ _ s14 _=>k-(intOf s14).toNat)
      case atStart=>exact ST1.out
      case round=>
       obtain⟨m,hm,rfl,rfl,rfl,HX⟩:=hrel;clear ST1;have hrg:=scanM_range (er t) old left m;by_cases hmk:m<k∧¬0≤(scanM (er t) old left m).1
       ·obtain⟨hmk,hneg⟩:=hmk;have hml:m<old.length:=(by have:=KL.out;omega);have hml2:m<left.length:=(by have:=HLF.out;omega);have OB:=own_bool (HL.out.below HX.out (Zl)) (k:=m) hml2;obtain⟨c0,f0,_⟩:=OB;have S1:Hid (left[m]=false→scanM (er t) old left (m+1)=scanM (er t) old left m):=Zh (fun e=>scanM_gone hneg (by rw[List.getElem?_eq_getElem hml2,e]));have S2:Hid (left[m]=true→scanM (er t) old left (m+1)=(if takesW (er t) old[m] (scanM (er t) old left m).2 then(m:Int) else -1,false)):=Zh (fun e=>scanM_left hneg (List.getElem?_eq_getElem hml) (by rw[List.getElem?_eq_getElem hml2,e]));have ev:(scanM (er t) old left m).1 = -1:=hrg.2.2 (by omega);obtain⟨bo,oo,rfl,hbo,z0',z1'⟩:=cell_of_u KH.out hml;have BWX:Hid (Below w.heap.size w wr):=Zh (HB1.out.trans (HX.out.mono HB1.out.size));have z0:=(BWX.out.cell hbo).trans z0';have z1:=(BWX.out.cell hbo).trans z1';obtain⟨y0,y1,y2,y3,y4,y5⟩:=GW.out wr BWX.out;clear z0' z1' f0;have HEV:=Zh ev;generalize left[m]=lb at c0 S1 S2;generalize old[m]=ob at z0 z1 S2;generalize hfs:(scanM (er t) old left m).2=fs at S2;have HFS:=Zh hfs;rw[ev];clear hneg ev hrg hml2 hfs hml;cases lb with
        |false=>
         have S3:=Zh (S1.out rfl);go_wp2_with fail;go_roundw
         case rel=>exact⟨m+1,by omega,by go_num,by rw[S3.out,HEV.out],by rw[S3.out,HFS.out],HX⟩
         case measure=>simp[intOf];omega
        |true=>
         have S3:=Zh (S2.out rfl);have CT:Hid (∀w9,Below wr.heap.size wr w9→Calls Tryz.prog 84 #[.agg #[.int .i64 t.kind,.string t.tag,.string t.key,.string t.txt,.slice t.sa.A t.sa.n t.sa.c,.slice t.sk.A t.sk.n t.sk.c],.agg #[.string ob.tag,.string ob.key],.bool fs] w9 fun e w'=>e = .returned (.bool (takesW (er t) ob fs))∧Below w9.heap.size w9 w'):=Zh (fun w9 _=>takes_any t ob fs w9);generalize takesW (er t) ob fs=tb at CT S3;have SK0:Hid (∀wz,Below wr.heap.size wr wz→wz.cell? ⟨b',o'+j*6,none⟩=some (.int .i64 t.kind)∧wz.cell? ⟨b',o'+j*6+1,none⟩=some (.string t.tag)∧wz.cell? ⟨b',o'+j*6+2,none⟩=some (.string t.key)∧wz.cell? ⟨b',o'+j*6+3,none⟩=some (.string t.txt)∧wz.cell? ⟨b',o'+j*6+4,none⟩=some (.slice t.sa.A t.sa.n t.sa.c)∧wz.cell? ⟨b',o'+j*6+5,none⟩=some (.slice t.sk.A t.sk.n t.sk.c)∧wz.cell? ⟨bo,oo+m*2,none⟩=some (.string ob.tag)∧wz.cell? ⟨bo,oo+m*2+1,none⟩=some (.string ob.key)):=Zh (fun wz h=>by
          have hz:=BWX.out.trans (h.mono BWX.out.size);obtain⟨x0,x1,x2,x3,x4,x5⟩:=GW.out wz hz;exact⟨x0,x1,x2,x3,x4,x5,(h.cell (show bo<wr.heap.size by have:=BWX.out.size;omega)).trans z0,(h.cell (show bo<wr.heap.size by have:=BWX.out.size;omega)).trans z1⟩)
         go_upto_region 17 with fail;have SK:=SK0.out wr Ze;go_region_held3 (fun w'=>w'.cell? ⟨b',o'+j*6,none⟩=some (.int .i64 t.kind)∧w'.cell? ⟨b',o'+j*6+1,none⟩=some (.string t.tag)∧w'.cell? ⟨b',o'+j*6+2,none⟩=some (.string t.key)∧w'.cell? ⟨b',o'+j*6+3,none⟩=some (.string t.txt)∧w'.cell? ⟨b',o'+j*6+4,none⟩=some (.slice t.sa.A t.sa.n t.sa.c)∧w'.cell? ⟨b',o'+j*6+5,none⟩=some (.slice t.sk.A t.sk.n t.sk.c)∧w'.cell? ⟨bo,oo+m*2,none⟩=some (.string ob.tag)∧w'.cell? ⟨bo,oo+m*2+1,none⟩=some (.string ob.key)) (first|go_keep|exact SK) ((first
          |(go_at_call 84;refine(CT.out _ (by first|exact Below_drewN Ze _|exact Ze.drew|exact Ze)).mono ?_;rintro e w10 ⟨rfl,b10⟩;have b10x:Below wr.heap.size wr w10:=(by first|exact(Below_drewN Ze _).trans b10|exact(Ze.drew).trans b10|exact b10);have HX2:Hid (Below W.heap.size W w10):=Zh (HX.out.trans (b10x.mono HX.out.size));have SK:=SK0.out w10 b10x;clear b10 b10x)
          |fail))
         clear z0 z1 y0 y1 y2 y3 y4 y5;cases tb with
         |true=>
          go_wp2_with fail;go_roundw
          case rel=>exact⟨m+1,by omega,by go_num,by rw[S3.out];rfl,by rw[S3.out],HX2⟩
          case measure=>simp[intOf];omega
         |false=>
          go_wp2_with fail;go_roundw
          case rel=>exact⟨m+1,by omega,by go_num,by rw[S3.out];rfl,by rw[S3.out],HX2⟩
          case measure=>simp[intOf];omega
       ·have HE:Hid ((scanM (er t) old left old.length).1=(scanM (er t) old left m).1):=Zh (by
         by_cases h:0≤(scanM (er t) old left m).1
         ·have:=scanM_stays h (old.length-m);rw[show m+(old.length-m)=old.length by have:=KL.out;omega] at this;rw[this]
         ·rw[show m=old.length by have:=KL.out;omega])
        rw[HAV.out] at HE;by_cases hmk2:m<k
        ·have h0:0≤(scanM (er t) old left m).1:=by
          rcases Classical.em (0≤(scanM (er t) old left m).1) with h|h
          ·exact h
          ·exact absurd ⟨hmk2,h⟩ hmk
         generalize (scanM (er t) old left m).1=a1 at HE h0 hrg⊢;go_wp2_with fail;go_meet;exact⟨by rw[HE.out],HX⟩
        ·generalize (scanM (er t) old left m).1=a1 at HE hrg⊢;go_wp2_with fail;go_meet;exact⟨by rw[HE.out],HX⟩
     case rest=>
      obtain⟨rfl,HX⟩:=hcut;obtain⟨w5,rfl⟩:∃x,x=wc:=⟨_,rfl⟩;have hr1:=(scanM_range (er t) old left old.length);rw[HAV.out,KL.out] at hr1;have hr1a:=hr1.1;have hr1b:=hr1.2.1;clear hr1;have L5:=Zh (HL.out.below HX.out (Zl));have T5:=Zh (HTa.out.below HX.out (Zl));have K5:=Zh (HKe.out.below HX.out (Zl));have B5:=Zh (HB1.out.trans (HX.out.mono HB1.out.size))
      go_upto_if 63 with fail
      go_cut [] (fun wx=>Hid (kBo.Own wx w.heap.size (.slice (some ⟨g,0,none⟩) k k) (leftM left av))∧Hid (kI.Own wx w.heap.size (.slice A1 n1 c1) take)∧Hid (kI.Own wx w.heap.size (.slice A2 n2 c2) kept)∧Hid (Below w.heap.size w wx))
      case first=>
       by_cases h0:0≤av
       ·obtain⟨a,rfl⟩:∃a:Nat,av=a:=⟨av.toNat,by omega⟩;have hal:a<left.length:=(by have:=HLF.out;omega);have hak:a<k:=(by have:=HLF.out;omega);obtain⟨c0,f0,st⟩:=own_bool L5.out hal;have e:leftM left (a:Int)=left.set a false:=(by rw[leftM,if_pos h0];rfl);have ST5:Hid (kBo.Own (w5.setCell ⟨g,a,none⟩ (.bool false)) w.heap.size (.slice (some ⟨g,0,none⟩) k k) (leftM left (a:Int))):=Zh (by rw[e];exact st false);have T6:=Zh (own_int_bool (u:=.bool false) T5.out L5.out a);have K6:=Zh (own_int_bool (u:=.bool false) K5.out L5.out a);have B6:Hid (Below w.heap.size w (w5.setCell ⟨g,a,none⟩ (.bool false))):=Zh (B5.out.trans ((set_but w5 g a _).to_below (fun i _ hi=>by have:=HG.out;omega) B5.out.size));generalize left[a]=lv at c0;clear st e hal;go_wp2_with fail;go_meet;exact⟨ST5,T6,K6,B6⟩
       ·have e:leftM left av=left:=(by rw[leftM,if_neg h0]);go_wp2_with fail;go_meet;exact⟨by rw[e];exact L5,T5,K5,B5⟩
      case rest=>
       obtain⟨L6,T6,K6,B6⟩:=hcut;obtain⟨w6,rfl⟩:∃x,x=wc:=⟨_,rfl⟩;have hb6:=B6.out.size;clear L5 T5 K5 B5;have LD:Hid (kI.Holds (w6.alloc (.cells #[.int .i64 av] 3)) (w6.heap.size+1) (some ⟨w6.heap.size,0,none⟩) [av]):=Zh (Kind.Holds.lit (heap_alloc_new w6 _) rfl);have LL:Hid ((leftM left av).length=k):=Zh (by rw[leftM_len,HLF.out]);go_upto_region 24 with(at_builtin;refine kI.wp_app rfl _ _ rfl (v:=.slice A1 n1 c1) (l:=take) (m:=[av]) (B:=w.heap.size) rfl (T6.out.alloc _) rfl rfl (fun e=>by cases e) LD.out (by have:=HTL.out;simp;omega) (by simp;omega) ?_;intro v' w7 hown hgrow hat;have B7:Hid (Below w.heap.size w w7):=Zh ((B6.out.alloc hb6 _).grown hgrow (by simp;omega) (fun i hi=>(T6.out.lt hi).1));have L7:Hid (kBo.Own w7 w.heap.size (.slice (some ⟨g,0,none⟩) k k) (leftM left av)):=Zh ((L6.out.alloc _).grown hgrow (fun i hi e=>(Kind.Own.ne_ L6.out T6.out (by decide)) i hi e));have K7:Hid (kI.Own w7 w.heap.size (.slice A2 n2 c2) kept):=Zh ((K6.out.alloc _).grown hgrow (fun i hi e=>HAp.out i e hi));have AP7:=Zh (apart_grows HAp.out K6.out hat);obtain⟨A7,n7,c7,rfl,_,_,_,_,_⟩:=hown.slice;have T7:=Zh hown;clear hown hgrow hat);clear LD T6 L6 K6;have hb7:=B7.out.size;generalize leftM left av=left1 at L7 LL SN2;by_cases h4:t.kind=4
       ·have SN3:Hid (foldM old ((erL ts).take (j+1))=⟨List.replicate old.length false,take++[av],kept++idxM left1 old.length⟩):=Zh (SN2.out.1 h4);have ST7:Hid (KRel w7 w.heap.size g k left1 kept (take++[av]) (.slice A7 n7 c7) (.slice A2 n2 c2) (.int .i64 0) w7):=Zh ⟨0,A2,n2,c2,by omega,rfl,rfl,by rw[clearM_zero];exact L7,by simp only[idxM,List.append_nil];exact K7,T7,AP7,Zh Ze⟩;go_wp2_with fail;go_loopw [10,15] (fun s10 s15 wr=>KRel w7 w.heap.size g k left1 kept (take++[av]) (.slice A7 n7 c7) s10 s15 wr) (fun _ s15 _=>k-(intOf s15).toNat)
        case atStart=>exact ST7.out
        case round=>
         obtain⟨m,A8,n8,c8,hm,rfl,rfl,HL8,HK8,HT8,HA8,HB8⟩:=hrel;clear ST7;have BW8:Hid (Below w.heap.size w wr):=Zh (B7.out.trans (HB8.out.mono (Zl)));obtain⟨y0,_,_,_,_,_⟩:=GW.out wr BW8.out;rw[h4] at y0;have hb8:=BW8.out.size;by_cases hmk:m<k
         ·have hml:m<(clearM left1 m).length:=(by rw[clearM_len (by have:=LL.out;omega)];have:=LL.out;omega);have hml2:m<left1.length:=(by have:=LL.out;omega);obtain⟨c0,f0,st⟩:=own_bool HL8.out hml;have e1:(clearM left1 m)[m]=left1[m]:=by
           have:=clearM_at hml2;rw[List.getElem?_eq_getElem hml,List.getElem?_eq_getElem hml2] at this;injection this
          rw[e1] at c0;have I1:Hid (left1[m]=true→idxM left1 (m+1)=idxM left1 m++[(m:Int)]):=Zh (fun e=>idxM_yes (by rw[List.getElem?_eq_getElem hml2,e]));have I2:Hid (left1[m]=false→idxM left1 (m+1)=idxM left1 m∧clearM left1 m=clearM left1 (m+1)):=Zh (fun e=>⟨idxM_no (by rw[List.getElem?_eq_getElem hml2,e]),clearM_no hml2 (by rw[List.getElem?_eq_getElem hml2,e])⟩);have I3:=Zh (clearM_yes hml2);have STF:=Zh (st false);rw[I3.out] at STF;have hil:=idxM_len left1 m;clear st e1;generalize left1[m]=lb at c0 I1 I2;clear hml hml2;cases lb with
          |false=>
           obtain⟨i1,i2⟩:=I2.out rfl;have I4:=Zh i1;have I5:=Zh i2;clear i1 i2 STF f0;go_wp2_with fail;go_roundw
           case rel=>exact⟨m+1,A8,n8,c8,by omega,by go_num,rfl,by rw[←I5.out];exact HL8,by rw[I4.out];exact HK8,HT8,HA8,HB8⟩
           case measure=>simp[intOf];omega
          |true=>
           have I4:=Zh (I1.out rfl);have LD8:Hid (kI.Holds (wr.alloc (.cells #[.int .i64 (m:Int)] 3)) (wr.heap.size+1) (some ⟨wr.heap.size,0,none⟩) [(m:Int)]):=Zh (Kind.Holds.lit (heap_alloc_new wr _) rfl);clear STF f0;go_upto_region 28 with(at_builtin;refine kI.wp_app rfl _ _ rfl (v:=.slice A8 n8 c8) (l:=kept++idxM left1 m) (m:=[(m:Int)]) (B:=w.heap.size) rfl (HK8.out.alloc _) rfl rfl (fun e=>by cases e) LD8.out (by have:=HKL2.out;simp;omega) (by simp;omega) ?_;intro v' w9 hown hgrow hat;have B9:Hid (Below w.heap.size w7 w9):=Zh ((HB8.out.alloc hb8 _).grown hgrow (by simp;omega) (fun i hi=>(HK8.out.lt hi).1));have L9:Hid (kBo.Own w9 w.heap.size (.slice (some ⟨g,0,none⟩) k k) (clearM left1 m)):=Zh ((HL8.out.alloc _).grown hgrow (fun i hi e=>(Kind.Own.ne_ HL8.out HK8.out (by decide)) i hi e));have T9:Hid (kI.Own w9 w.heap.size (.slice A7 n7 c7) (take++[av])):=Zh ((HT8.out.alloc _).grown hgrow (fun i hi e=>HA8.out i hi e));have AP9:=Zh (apart_grows (Apart.symm HA8.out) HT8.out hat);obtain⟨A9,n9,c9,rfl,_,_,_,_,_⟩:=hown.slice;have K9:=Zh hown;clear hown hgrow hat);clear LD8 c0;obtain⟨c0,f0,st⟩:=own_bool L9.out (k:=m) (by rw[clearM_len (by have:=LL.out;omega)];have:=LL.out;omega);have STF:=Zh (st false);rw[I3.out] at STF;have T10:=Zh (own_int_bool (u:=.bool false) T9.out L9.out m);have K10:=Zh (own_int_bool (u:=.bool false) K9.out L9.out m);have B10:Hid (Below w.heap.size w7 (w9.setCell ⟨g,m,none⟩ (.bool false))):=Zh (B9.out.trans ((set_but w9 g m _).to_below (fun i _ hi=>by have:=HG.out;omega) (by have:=B9.out.size;omega)));have AP10:=Zh (Apart.symm AP9.out);clear st;go_wp2_with fail;go_roundw
           case rel=>exact⟨m+1,A9,n9,c9,by omega,by go_num,rfl,STF,by rw[I4.out,←List.append_assoc];exact K10,T10,AP10,B10⟩
           case measure=>simp[intOf];omega
         ·obtain rfl:m=k:=by omega
          have REL:Hid (MRel w g m old (erL ts) (.slice A7 n7 c7) (.slice A8 n8 c8) (.int .i64 ((j+1:Nat):Int)) wr):=Zh ⟨j+1,A7,n7,c7,A8,n8,c8,by rw[EL.out];omega,rfl,rfl,rfl,by
           rw[SN3.out];have:=HL8.out;rw[←LL.out,clearM_all] at this;simp only;rw[KL.out,←LL.out];exact Zh this,by rw[SN3.out];exact HT8,by
           rw[SN3.out];simp only;rw[KL.out];exact HK8,HA8,BW8⟩
          go_wp2_with fail;go_roundw
          case rel=>exact REL.out
          case measure=>simp[intOf];omega
       ·have SN3:Hid (foldM old ((erL ts).take (j+1))=⟨left1,take++[av],kept⟩):=Zh (SN2.out.2 h4);have q4:=int_ne h4;go_wp2_with fail;go_loopw [10,15] (fun s10 s15 wr=>s10 = .slice A2 n2 c2∧s15 = .int .i64 0∧Hid (wr=w7)) (fun _ _ _=>0)
        case atStart=>exact⟨rfl,rfl,Zh rfl⟩
        case round=>
         obtain⟨rfl,rfl,HE⟩:=hrel;obtain rfl:=HE.out;obtain⟨y0,_,_,_,_,_⟩:=GW.out wr B7.out;have REL:Hid (MRel w g k old (erL ts) (.slice A7 n7 c7) (.slice A2 n2 c2) (.int .i64 ((j+1:Nat):Int)) wr):=Zh ⟨j+1,A7,n7,c7,A2,n2,c2,by rw[EL.out];omega,rfl,rfl,rfl,by rw[SN3.out];exact L7,by rw[SN3.out];exact T7,by rw[SN3.out];exact K7,AP7,B7⟩;by_cases hk0:0<k
         ·go_wp2_with fail;go_roundw
          case rel=>exact REL.out
          case measure=>simp[intOf];omega
         ·go_wp2_with fail;go_roundw
          case rel=>exact REL.out
          case measure=>simp[intOf];omega
    ·obtain rfl:j=n':=by omega
     have FJ:Hid ((erL ts).take j=erL ts):=Zh (List.take_of_length_le (by have:=EL.out;omega));rw[FJ.out] at HL HTa HKe hlf;have hlf2:(foldM old (erL ts)).left.length=k:=(by rw[hlf,KL.out]);have HLF:=Zh hlf2;clear hns hlf hlf2 FJ;obtain⟨s,hs⟩:∃s,foldM old (erL ts)=s:=⟨_,rfl⟩;rw[hs] at HL HTa HKe HLF;have HS:=Zh hs;clear hs;obtain⟨left,take,kept⟩:=s;simp only at HL HTa HKe HLF;obtain⟨W,rfl⟩:∃W:World,W=wr:=⟨_,rfl⟩;have hbW:=HB1.out.size;have STG:Hid (∃(m:Nat) (A3:Option Addr) (n3 c3:Nat),m≤k∧(Value.int .i64 0) = .int .i64 (m:Int)∧(Value.slice none 0 0) = .slice A3 n3 c3∧Hid (kI.Own W W.heap.size (.slice A3 n3 c3) (idxM left m))∧Hid (Below W.heap.size W W)):=Zh ⟨0,none,0,0,by omega,rfl,rfl,Zh (Kind.Own.nil kI W _),Zh Ze⟩;go_wp2_with fail;go_loopw [16,17] (fun s16 s17 wr=>∃(m:Nat) (A3:Option Addr) (n3 c3:Nat),m≤k∧s17 = .int .i64 (m:Int)∧s16 = .slice A3 n3 c3∧Hid (kI.Own wr W.heap.size (.slice A3 n3 c3) (idxM left m))∧Hid (Below W.heap.size W wr)) (fun _ s17 _=>k-(intOf s17).toNat)
     case atStart=>exact STG.out
     case round=>
      obtain⟨m,A3,n3,c3,hm,rfl,rfl,HO3,HX⟩:=hrel;clear STG;have hbx:=HX.out.size;by_cases hmk:m<k
      ·have hml:m<left.length:=(by have:=HLF.out;omega);obtain⟨c0,_,_⟩:=own_bool (HL.out.below HX.out (Zl)) hml;have I1:Hid (left[m]=true→idxM left (m+1)=idxM left m++[(m:Int)]):=Zh (fun e=>idxM_yes (by rw[List.getElem?_eq_getElem hml,e]));have I2:Hid (left[m]=false→idxM left (m+1)=idxM left m):=Zh (fun e=>idxM_no (by rw[List.getElem?_eq_getElem hml,e]));have hil:=idxM_len left m;generalize left[m]=lb at c0 I1 I2;clear hml;cases lb with
       |false=>
        have I4:=Zh (I2.out rfl);go_wp2_with fail;go_roundw
        case rel=>exact⟨m+1,A3,n3,c3,by omega,by go_num,rfl,by rw[I4.out];exact HO3,HX⟩
        case measure=>simp[intOf];omega
       |true=>
        have I4:=Zh (I1.out rfl);have LD8:Hid (kI.Holds (wr.alloc (.cells #[.int .i64 (m:Int)] 3)) (wr.heap.size+1) (some ⟨wr.heap.size,0,none⟩) [(m:Int)]):=Zh (Kind.Holds.lit (heap_alloc_new wr _) rfl);go_wp2_with (at_builtin;refine kI.wp_app rfl _ _ rfl (v:=.slice A3 n3 c3) (l:=idxM left m) (m:=[(m:Int)]) (B:=W.heap.size) rfl (HO3.out.alloc _) rfl rfl (fun e=>by cases e) LD8.out (by simp;omega) (by simp;omega) ?_;intro v' w9 hown hgrow hat;have B9:Hid (Below W.heap.size W w9):=Zh ((HX.out.alloc hbx _).grown hgrow (by simp;omega) (fun i hi=>(HO3.out.lt hi).1));obtain⟨A9,n9,c9,rfl,_,_,_,_,_⟩:=hown.slice;have K9:=Zh hown;clear hown hgrow hat);go_roundw
        case rel=>exact⟨m+1,A9,n9,c9,by omega,by go_num,rfl,by rw[I4.out];exact K9,B9⟩
        case measure=>simp[intOf];omega
      ·obtain rfl:m=k:=by omega
       go_wp2_with fail;go_ret3;rw[HS.out];exact⟨A1,n1,c1,A2,n2,c2,A3,n3,c3,rfl,HTa.out.below HX.out (Zl),HKe.out.below HX.out (Zl),by rw[KL.out];exact HO3.out.base_le hbW,HB1.out.trans (HX.out.mono hbW)⟩
end P16
end Go.Proofs.YtaklfomaibchnaaGreat
