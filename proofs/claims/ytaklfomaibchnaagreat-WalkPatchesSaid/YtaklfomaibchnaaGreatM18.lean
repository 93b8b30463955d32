/- A part of what the claimed theorem hangs on. No condition but those stated. -/
import Derived.Deep.RegionHeld3
import Derived.WideKeyEntry
import Derived.DeepKeys4
import Derived.Deep.LoopGhost
import Derived.Test.YtaklfomaibchnaaGreatM1
import Derived.Test.YtaklfomaibchnaaGreatM3
import Derived.Test.YtaklfomaibchnaaGreatM6
import Derived.Test.YtaklfomaibchnaaGreatM12
import Derived.Test.YtaklfomaibchnaaGreatM13
import Derived.Test.YtaklfomaibchnaaGreatM16
import Derived.Test.YtaklfomaibchnaaGreatM17
set_option linter.unusedVariables false
set_option linter.unusedSimpArgs false
set_option maxRecDepth 100000
set_option maxHeartbeats 40000000
namespace Go.Proofs.YtaklfomaibchnaaGreat
namespace P19
open P5 P14 P16
section
variable{rec:Rec}{s0 s:Sg}{par beh:Int}{ids:List Int}{want:List PW}{old:List Ol}
theorem none_taken(ho:old.length=([]:List Int).length){i:Nat}(hi:i<want.length):¬0≤((foldM old want).take[i]'(by rw[take_len];exact hi)):=fun h=>by
 obtain⟨j,a,_,e2,_⟩:=taken_at (ids:=[]) ho hi h;simp at e2
theorem at_none(R:RecOk19 rec)(h0:WF s.1)(ho:old.length=([]:List Int).length):∀i,i≤want.length→At par [] old want s i (atW rec par beh [] old want s i)
 |0,_=>⟨⟨h0,Stays.refl _ _,fun _ h=>by cases h⟩,by
  show([]:List Int)=selF [] _;unfold selF;rfl⟩
 |i+1,hi=>by
  have h:=at_none R h0 ho i (by omega);have hi':i<want.length:=(by omega);have hn:=none_taken ho hi';have hs:∀fl,selF ([]:List Int) fl=[]:=fun fl=>by unfold selF;rfl
  have hl:(atW rec par beh [] old want s i).2=[]:=h.left.trans (hs _);rw[atW_succ hi'];unfold stepW;split
  ·exact⟨h.lv,(hs _).symm⟩
  split
  ·exact⟨h.lv,hl.trans (hs _).symm⟩
  ·exact⟨h.lv.new R h0 _ _,hl.trans (hs _).symm⟩
theorem at_all2(R:RecOk19 rec)(h0:WF s.1)(hp:par≠0∨ids=[])(hk:Kids s par ids)(hd:ids.Nodup)(ho:old.length=ids.length):∀i,i≤want.length→At par ids old want s i (atW rec par beh ids old want s i):=by
 rcases hp with hp|rfl
 ·exact at_all R h0 hp hk hd ho
 ·exact at_none R h0 ho
theorem at_len2(R:RecOk19 rec)(RL:RecLen rec)(h0:WF s.1)(hp:par≠0∨ids=[])(hk:Kids s par ids)(hd:ids.Nodup)(hl:ids.length≤200)(ho:old.length=ids.length):∀i,i≤want.length→
 (atW rec par beh ids old want s i).1.1.n≤s.1.n+(szL (want.take i):Nat)∧(atW rec par beh ids old want s i).1.2.length≤s.2.length+2000*szL (want.take i):=by
 rcases hp with hp|rfl
 ·exact at_len R RL h0 hp hk hd hl ho
 ·intro i
  induction i with
  |zero=>
   intro _;show s.1.n≤s.1.n+(szL (want.take 0):Nat)∧s.2.length≤s.2.length+2000*szL (want.take 0);exact⟨by omega,by omega⟩
  |succ i ih=>
   intro hi;obtain⟨a1,a2⟩:=ih (by omega);have hi':i<want.length:=(by omega);have hw:=(at_none (par:=par) (beh:=beh) (want:=want) R h0 ho i (by omega)).lv.wf;have hn:=none_taken (want:=want) ho hi';rw[atW_succ hi',szL_take hi',szW_kids];generalize atW rec par beh [] old want s i=p at a1 a2 hw;unfold stepW;split
   ·(try dsimp only);exact⟨by omega,by omega⟩
   split
   ·(try dsimp only);exact⟨by omega,by omega⟩
   ·obtain⟨t1,t2⟩:=new_len (par:=par) RL hw (nextP p.2 beh) want[i]
    (try dsimp only);exact⟨by omega,by omega⟩
end
section
variable{s:Sg}{par:Int}
theorem kids_upd_same{l:List Nd}{i:Int}{f:Nd→Nd}(h1:∀x,(f x).id=x.id)(h2:∀x,(f x).kids=x.kids)(y:Int):kidsOf (upd l i f) y=kidsOf l y:=by
 rw[kids_upd (f:=f) h1 (g:=fun x=>x.kids) h2];unfold kidsOf;cases find l y<;>simp
theorem kids_attr(d:D)(i:Int)(a:List P3.At)(y:Int):kidsOf (attrsD d i a).2.l y=kidsOf d.l y:=by
 unfold attrsD;split
 ·rfl
 split
 ·rfl
 split
 ·rfl
 ·exact kids_upd_same (l:=d.l) (i:=i) (f:=withAttrs a) (fun _=>rfl) (fun _=>rfl) y
theorem kids_recAttr(s:Sg)(i:Int)(a:List P3.At)(y:Int):kidsOf (doP s (recAttr i a)).1.l y=kidsOf s.1.l y:=kids_attr s.1 i a y
theorem kids_tak3(x:PW)(id:Int)(s:Sg)(y:Int):kidsOf (tak3 x id s).1.l y=kidsOf s.1.l y:=by
 unfold tak3;split
 ·exact kids_recAttr _ _ _ _
 ·rfl
theorem inside_self{l:List Nd}{i:Int}(h:hasL l i=true):inside l i i=true:=by
 unfold inside aboveL;rw[up,if_pos h];simp
theorem kids_put0{d:D}{i p b:Int}(hi:parOf d.l i=0)(hk:kidsOf d.l i=[]):kidsOf (putD d i p b).2.l i=[]:=by
 unfold putD;split
 ·rename_i h;have ho:=putErr_ok h;have hip:i≠p:=fun e=>by
   have h1:=ho.hn;rw[←e,inside_self ho.hi] at h1;cases h1
  show kidsOf (putL d.l i p b) i=[];unfold putL leaveL;rw[if_pos hi,kids_par,kids_with ho.hp,setF_ne _ _ hip];exact hk
 ·exact hk
theorem new_none(hw:WF s.1):kidsOf s.1.l (s.1.n+1)=[]∧parOf s.1.l (s.1.n+1)=0:=by
 have hnx:=hw.next;unfold hasL at hnx;unfold kidsOf parOf;cases hf:find s.1.l (s.1.n+1) with
 |none=>exact⟨rfl,rfl⟩
 |some x=>rw[hf] at hnx;cases hnx
theorem new_made(hw:WF s.1)(tag txt key:ByteArray):kidsOf (doP s (recMake (s.1.n+1) tag txt key)).1.l (s.1.n+1)=[]∧parOf (doP s (recMake (s.1.n+1) tag txt key)).1.l (s.1.n+1)=0:=by
 show kidsOf (makeD s.1 (recMake (s.1.n+1) tag txt key)).2.l (s.1.n+1)=[]∧parOf (makeD s.1 (recMake (s.1.n+1) tag txt key)).2.l (s.1.n+1)=0;have h0:=new_none hw;unfold makeD;split
 ·exact h0
 split
 ·exact h0
 ·show kidsOf (s.1.l++[newN (s.1.n+1) tag txt key]) (s.1.n+1)=[]∧parOf (s.1.l++[newN (s.1.n+1) tag txt key]) (s.1.n+1)=0;have hf:find (s.1.l++[newN (s.1.n+1) tag txt key]) (s.1.n+1)=some (newN (s.1.n+1) tag txt key):=by
   rw[find_new (x:=newN (s.1.n+1) tag txt key) hw.next (s.1.n+1)];exact if_pos rfl
  unfold kidsOf parOf;rw[hf];exact⟨rfl,rfl⟩
theorem kids_new2(hw:WF s.1)(b:Int)(x:PW):kidsOf (new2 par b x s).1.l (s.1.n+1)=[]:=by
 obtain⟨h1,h2⟩:=new_made hw x.tag x.txt x.key;exact kids_put0 h2 h1
theorem kids_new3(hw:WF s.1)(b:Int)(x:PW):kidsOf (new3 par b x s).1.l (s.1.n+1)=[]:=by
 unfold new3;split
 ·exact kids_new2 hw b x
 ·rw[kids_recAttr];exact kids_new2 hw b x
end
end P19
namespace P19
open Go.RowKit Kd P4 P5 P7 P14 P16
def PlB(w:World)(q g p:Nat)(par beh:Int)(v:Value):Prop:=w.heap[q]? = some (.cells #[.pointer (some ⟨g,0,none⟩),.pointer (some ⟨p,0,none⟩),.int .i64 par,v,.int .i64 beh] 145 (0,0))
def plZ(Z:Nat→Prop)(q:Nat)(v:Value)(k:Nat):Prop:=Z k∨k=q∨v.ownBlock=some k
section
variable{w wx w':World}{B g p q:Nat}{x:Dx}{vd v v':Value}{Z:Nat→Prop}{s s1:Sg}{par beh:Int}{left:List Int}
theorem PlB.c0(h:PlB w q g p par beh v):w.cell? ⟨q,0,none⟩=some (.pointer (some ⟨g,0,none⟩)):=cell_of_row w q 0 _ _ (0,0) h
theorem PlB.c1(h:PlB w q g p par beh v):w.cell? ⟨q,1,none⟩=some (.pointer (some ⟨p,0,none⟩)):=cell_of_row w q 1 _ _ (0,0) h
theorem PlB.c2(h:PlB w q g p par beh v):w.cell? ⟨q,2,none⟩=some (.int .i64 par):=cell_of_row w q 2 _ _ (0,0) h
theorem PlB.c3(h:PlB w q g p par beh v):w.cell? ⟨q,3,none⟩=some v:=cell_of_row w q 3 _ _ (0,0) h
theorem PlB.c4(h:PlB w q g p par beh v):w.cell? ⟨q,4,none⟩=some (.int .i64 beh):=cell_of_row w q 4 _ _ (0,0) h
theorem PlB.fr(h:PlB w q g p par beh v)(i:Nat):w.frozen? ⟨q,i,none⟩=false:=by
 unfold PlB at h;simp[World.frozen?,h]
theorem PlB.lt(h:PlB w q g p par beh v):q<w.heap.size:=heap_lt h
theorem PlB.kept(h:PlB w q g p par beh v)(k:Kept Z w w')(hz:Z q):PlB w' q g p par beh v:=(k.block hz h.lt).trans h
theorem PlB.below(h:PlB w q g p par beh v)(hb:Below w.heap.size w w'):PlB w' q g p par beh v:=(hb.block q h.lt).trans h
structure Pl(w:World)(B g p:Nat)(x:Dx)(vd:Value)(Z:Nat→Prop)(q:Nat)(par beh:Int)(v:Value)(left:List Int)(s:Sg)(wx:World):Prop where
 pw:Pw w B g p x vd (plZ Z q v) s wx
 blk:PlB wx q g p par beh v
 own:kI.Own wx w.heap.size v left
 qn:w.heap.size≤q
 qz:¬Z q
 vz:∀k,v.ownBlock=some k→¬Z k
def DoneV(w:World)(B g p:Nat)(x:Dx)(vd:Value)(Z:Nat→Prop)(s1:Sg)(ok:Prop)(wx:World)(e:Ending)(w':World):Prop:=
 ∃(c:Int) (s':Sg),e = .returned (errV c)∧Pw w B g p x vd Z s' w'∧Kept Z wx w'∧(c=0→s'=s1)∧(ok→c=0)
theorem DoneV.yes{ok:Prop}(h:Pw w B g p x vd Z s1 w')(k:Kept Z wx w'):DoneV w B g p x vd Z s1 ok wx (.returned .nilIface) w':=⟨0,s1,rfl,h,k,fun _=>rfl,fun _=>rfl⟩
theorem DoneV.no{ok:Prop}{c:Int}(hc:c≠0)(h:Pw w B g p x vd Z s w')(k:Kept Z wx w')(hn:¬ok):DoneV w B g p x vd Z s1 ok wx (.returned (errV c)) w':=⟨c,s,rfl,h,k,fun e=>absurd e hc,fun e=>absurd e hn⟩
theorem Kept.refl(Z:Nat→Prop)(wx:World):Kept Z wx wx:=Kept.of_below Ze
theorem apply_if{s:Sg}{r:Rc}{c:Int}(hc:(applyD s.1 r).1=c)(h:c≠0):¬OkD s r:=fun e=>h (hc.symm.trans e)
theorem err_ne{c:Int}(h:c≠0):errV c = .iface 43 (.int .i64 c):=by unfold errV;rw[if_neg h]
theorem k_own{w:World}{B:Nat}{v:Value}{l:List P3.At}(h:P3.Own w B v l):kA.Own w B v l:=by
 have e:kA.cells l=P3.cellsA l:=by
  unfold Kind.cells P3.cellsA;rfl
 have h':w.ownsRow B 121 3 v l.length (P3.cellsA l):=h;rw[←e] at h';exact h'
theorem Pl.kept(h:Pl w B g p x vd Z q par beh v left s wx)(hp:Pw w B g p x vd (plZ Z q v) s1 w')(hk:Kept (plZ Z q v) wx w'):Pl w B g p x vd Z q par beh v left s1 w':=
 ⟨hp,h.blk.kept hk (.inr (.inl rfl)),hk.own h.own (fun k hk=> .inr (.inr hk)),h.qn,h.qz,h.vz⟩
theorem Pw.drewN(h:Pw w B g p x vd Z s wx)(n:Nat):Pw w B g p x vd Z s (wx.drewN n):=h.below (Below_drewN Ze n) (fun _ hk=> .inl hk)
theorem Kept.undrew{n:Nat}(h:Kept Z (wx.drewN n) w'):Kept Z wx w':=(Kept.of_below (Below_drewN Ze n)).trans h
theorem Pw.on(h:Pw w B g p x vd Z s wx)(hb:Below wx.heap.size wx w'):Pw w B g p x vd Z s w':=h.below hb (fun _ hk=> .inl hk)
theorem Kept.on{w2:World}(hb:Below wx.heap.size wx w')(h:Kept Z w' w2):Kept Z wx w2:=(Kept.of_below hb).trans h
theorem PwV.on{r:Rc}{e:Ending}{w2:World}(hb:Below wx.heap.size wx w')(h:PwV w B g p x vd Z s r w' e w2):PwV w B g p x vd Z s r wx e w2:=⟨h.1,h.2.1,h.2.2.on hb⟩
theorem Pl.below(h:Pl w B g p x vd Z q par beh v left s wx)(hb:Below wx.heap.size wx w'):Pl w B g p x vd Z q par beh v left s w':=
 h.kept (h.pw.below hb (fun k hk=> .inl hk)) (Kept.of_below hb)
theorem Kept.out(h:Kept (plZ Z q v) wx w'):Kept Z wx w':=h.less (fun _ hk=> .inl hk)
theorem Pw.turn{S:Nat→Prop}(h:Pw w B g p x vd Z s wx)(hb:But S wx w')(hS:∀k,S k→w.heap.size≤k)(hZ:∀k,S k→k<wx.heap.size→Z k)(hA:NoA wx S):Pw w B g p x vd Z s w':=by
 obtain⟨x',vd',rs',h1,h2,h3⟩:=h;have hn:∀k,pfoot p x' g vd' k→¬S k:=fun k hk hs=>by
  have hlt:k<wx.heap.size:=by
   rcases hk with hk|hk
   ·exact h1.dc.lt hk
   ·exact h1.lg.lt hk
  exact(h3 k (hZ k hs hlt)).2 hk
 refine⟨x',vd',rs',⟨h1.dc.but hb (fun k hk=>hn k (.inl hk)) hA,h1.lg.but hb (fun k hk=>hn k (.inr hk)) hA,h1.but.trans hb (fun i hi hs=>?_),h1.ft,h1.lf⟩,h2,fun k hk=>⟨Nat.lt_of_lt_of_le (h3 k hk).1 hb.size,(h3 k hk).2⟩⟩;have:=hS i hs;omega
end
variable{w wx w':World}{B g p q:Nat}{x:Dx}{vd v:Value}{Z:Nat→Prop}{s:Sg}{par beh:Int}
theorem Kept.holds{A:Option Addr}{ids:List Int}(h:Kept Z wx w')(hh:kI.Holds wx wx.heap.size A ids)(ha:∀b o,A=some ⟨b,o,none⟩→Z b):kI.Holds w' w'.heap.size A ids:=
 (hh.keep (fun b ⟨o,ho⟩ hb=>h.block (ha b o ho) hb)).more h.size
theorem puts_okat(par b:Int):∀(l:List Int) (s:Sg),PutsOk par b l s→∀k (h:k<l.length),OkD (putsP par b (l.take k) s) (recPut l[k] par b)
 |[],_,_,k,h=>absurd h (by simp)
 |i:: l,s,⟨h1,h2⟩,0,h=>h1
 |i:: l,s,⟨h1,h2⟩,k+1,h=>by
  have:=puts_okat par b l _ h2 k (by simpa using h);exact this
theorem gones_okat:∀(l:List Int) (s:Sg),GonesOk l s→∀k (h:k<l.length),OkD (gonesP (l.take k) s) (recGone l[k])
 |[],_,_,k,h=>absurd h (by simp)
 |i:: l,s,⟨h1,h2⟩,0,h=>h1
 |i:: l,s,⟨h1,h2⟩,k+1,h=>by
  have:=gones_okat l _ h2 k (by simpa using h);exact this
theorem wgones_snoc(l:List Int)(i:Int)(s:Sg):gonesP (l++[i]) s=doP (gonesP l s) (recGone i):=by
 unfold gonesP;rw[List.foldl_append];rfl
theorem wgones_wf:∀(l:List Int) {s:Sg},WF s.1→WF (gonesP l s).1
 |[],_,h=>h
 |i:: l,s,h=>wgones_wf l (doP_wf h (recGone i))
def PtR(w:World)(B g p:Nat)(x:Dx)(vd:Value)(Z:Nat→Prop)(wx:World)(n:Nat)(F:Nat→Sg)(s12:Value)(wr:World):Prop:=
 ∃k,k≤n∧s12 = .int .i64 k∧Hid (Pw w B g p x vd Z (F k) wr)∧Hid (Kept Z wx wr)
theorem wput_any(ids:List Int)(A:Option Addr)(n c:Nat)(bef:Int)(h:Pw w B g p x vd Z s wx)(hb:PlB wx q g p par beh v)(hz:Z q)(hh:kI.Holds wx wx.heap.size A ids)(ha:∀b o,A=some ⟨b,o,none⟩→Z b)(hn:ids.length=n)(few:n≤300)(hwf:WF s.1)(hnn:s.1.n≤100000)(hl:s.2.length≤900000):
 Calls Tryz.prog 146 #[.pointer (some ⟨q,0,none⟩),.int .i64 bef,.slice A n c] wx (DoneV w B g p x vd Z (putsP par bef ids s) (PutsOk par bef ids s) wx):=by
 have q1:=err_neq_nil;have q2:=nil_neq_nil;have H:=Zh h;have HB:=Zh hb;have HZ:=Zh hz;have HH:=Zh hh;have HA:=Zh ha;have LI:=Zh hn;have HW:=Zh hwf;clear h hb hz hh ha hn hwf;go_enter Tryz.func146,Tryz.ntmps146;go_wp2_with fail;go_loopw [12] (fun s12 wr=>PtR w B g p x vd Z wx n (fun k=>putsP par bef (ids.take k) s) s12 wr) (fun s12 _=>n-(intOf s12).toNat)
 case atStart=>exact⟨0,by omega,rfl,H,Zh (Kept.refl _ _)⟩
 case round=>
  obtain⟨k,hk,rfl,HP,HK⟩:=hrel;by_cases hkn:k<n
  ·have hkl:k<ids.length:=(by rw[LI.out];exact hkn);obtain⟨b,o,rfl,hb',g0⟩:=cell_int (HK.out.holds HH.out HA.out) hkl;have PB:=Zh (HB.out.kept HK.out HZ.out);have c0:=PB.out.c0;have c2:=PB.out.c2;obtain⟨w1,w2,w3⟩:=puts_wf par bef (ids.take k) HW.out;have w4:(ids.take k).length≤n:=(by rw[List.length_take];omega);have CP:Hid (∀jj,Calls Tryz.prog 119 _ (wr.drewN jj) (PwV w B g p x vd Z (putsP par bef (ids.take k) s) (recPut ids[k] par bef) (wr.drewN jj))):=Zh (fun jj=>pw_put (s:=putsP par bef (ids.take k) s) ids[k] par bef (HP.out.drewN jj) w1 (by omega) (by omega));obtain⟨m,hm⟩:∃m,(applyD (putsP par bef (ids.take k) s).1 (recPut ids[k] par bef)).1=m:=⟨_,rfl⟩;have HM:=Zh hm;have NX:Hid (putsP par bef (ids.take (k+1)) s=doP (putsP par bef (ids.take k) s) (recPut ids[k] par bef)):=Zh (by rw[List.take_succ_eq_append_getElem hkl,puts_snoc]);have OK:Hid (PutsOk par bef ids s→OkD (putsP par bef (ids.take k) s) (recPut ids[k] par bef)):=Zh (fun e=>puts_okat par bef ids s e k hkl);clear hm w1 w2 w3 w4;generalize ids[k]=i at g0 CP HM NX OK;clear hkl;go_upto_region 4 with fail;go_region_held3 (fun w'=>w'.cell? ⟨q,0,none⟩=some (.pointer (some ⟨g,0,none⟩))∧w'.cell? ⟨q,2,none⟩=some (.int .i64 par)) (first|go_keep|exact K9) ((first
    |(go_at_call 119;refine(CP.out _).mono ?_;rintro e w2 ⟨rfl,p2,k2⟩;rw[HM.out];have H2:=Zh p2;have K2:=Zh (HK.out.trans k2.undrew);have PB2:=Zh (PB.out.kept k2.undrew HZ.out);have K9:=And.intro PB2.out.c0 PB2.out.c2;clear p2 k2)
    |fail))
   all_goals
    clear CP c0 c2 g0;by_cases hm0:m=0
    ·subst hm0;rw[show errV 0 = .nilIface from rfl];go_wp2_with fail;go_roundw
     case rel=>exact⟨k+1,by omega,by go_num,Zh (by(try dsimp only);rw[NX.out];exact H2.out),K2⟩
     case measure=>simp[intOf];omega
    ·rw[err_ne hm0];go_wp2_with fail;go_ret;have:=DoneV.no (s1:=putsP par bef ids s) hm0 H2.out K2.out (fun e=>apply_if HM.out hm0 (OK.out e));rwa[err_ne hm0] at this
  ·obtain rfl:k=n:=by omega
   have e:ids.take k=ids:=List.take_of_length_le (by rw[LI.out];exact Zl);have HE:Hid (Pw w B g p x vd Z (putsP par bef ids s) wr):=Zh (by have:=HP.out;simp only[e] at this;exact this);clear e HP;go_wp2_with fail;go_ret;exact DoneV.yes HE.out HK.out
theorem wdrop_any{left:List Int}(h:Pl w B g p x vd Z q par beh v left s wx)(hn:left.length≤300)(hwf:WF s.1)(hnn:s.1.n≤100000)(hl:s.2.length≤900000):
 Calls Tryz.prog 81 #[.pointer (some ⟨q,0,none⟩)] wx (DoneV w B g p x vd (plZ Z q v) (gonesP left s) (GonesOk left s) wx):=by
 have q1:=err_neq_nil;have q2:=nil_neq_nil;obtain⟨A,n,c,rfl,_,_,_,_,_⟩:=h.own.slice;have OA:=Zh (own_all' h.own);have LI:Hid (left.length=n):=Zh OA.out.1;have hn2:n≤300:=(by rw[←LI.out];exact hn);have H:=Zh h;have HW:=Zh hwf;have hc3:=h.blk.c3;have GI:Hid (∀wz,Kept (plZ Z q (.slice A n c)) wx wz→kI.Holds wz wz.heap.size A left):=Zh (fun wz hz=>(own_all' (hz.own H.out.own (fun k hk=> .inr (.inr hk)))).2.2.2.2);clear h hwf hn;go_enter Tryz.func81,Tryz.ntmps81;go_wp2_with fail;clear hc3;go_loopw [11] (fun s12 wr=>PtR w B g p x vd (plZ Z q (.slice A n c)) wx n (fun k=>gonesP (left.take k) s) s12 wr) (fun s12 _=>n-(intOf s12).toNat)
 case atStart=>exact⟨0,by omega,rfl,Zh H.out.pw,Zh (Kept.refl _ _)⟩
 case round=>
  obtain⟨k,hk,rfl,HP,HK⟩:=hrel;by_cases hkn:k<n
  ·have hkl:k<left.length:=(by rw[LI.out];exact hkn);obtain⟨b,o,hA,hb',g0⟩:=cell_int (GI.out _ HK.out) hkl;subst hA;have PB:=Zh (H.out.blk.kept HK.out (.inr (.inl rfl)));have c0:=PB.out.c0;have w1:=wgones_wf (left.take k) HW.out;obtain⟨w2,w3⟩:=gones_len (left.take k) s;have w4:(left.take k).length≤n:=(by rw[List.length_take];omega);have CP:=Zh (pw_gone (s:=gonesP (left.take k) s) left[k] HP.out w1 (by omega) (by omega));obtain⟨m,hm⟩:∃m,(applyD (gonesP (left.take k) s).1 (recGone left[k])).1=m:=⟨_,rfl⟩;have HM:=Zh hm;have NX:Hid (gonesP (left.take (k+1)) s=doP (gonesP (left.take k) s) (recGone left[k])):=Zh (by rw[List.take_succ_eq_append_getElem hkl,wgones_snoc]);have OK:Hid (GonesOk left s→OkD (gonesP (left.take k) s) (recGone left[k])):=Zh (fun e=>gones_okat left s e k hkl);clear hm w1 w2 w3 w4;generalize left[k]=i at g0 CP HM NX OK;clear hkl;go_wp2_with fail;refine(CP.out).mono ?_;rintro e w2 ⟨rfl,p2,k2⟩;rw[HM.out];have H2:=Zh p2;have K2:=Zh (HK.out.trans k2);clear p2 k2 CP c0 g0;by_cases hm0:m=0
   ·subst hm0;rw[show errV 0 = .nilIface from rfl];go_wp2_with fail;go_roundw
    case rel=>exact⟨k+1,by omega,by go_num,Zh (by(try dsimp only);rw[NX.out];exact H2.out),K2⟩
    case measure=>simp[intOf];omega
   ·rw[err_ne hm0];go_wp2_with fail;go_ret;have:=DoneV.no (s1:=gonesP left s) hm0 H2.out K2.out (fun e=>apply_if HM.out hm0 (OK.out e));rwa[err_ne hm0] at this
  ·obtain rfl:k=n:=by omega
   have e:left.take k=left:=List.take_of_length_le (by rw[LI.out];exact Zl);have HE:Hid (Pw w B g p x vd (plZ Z q (.slice A k c)) (gonesP left s) wr):=Zh (by have:=HP.out;simp only[e] at this;exact this);clear e HP;go_wp2_with fail;go_ret;exact DoneV.yes HE.out HK.out
end P19
namespace P19
open Go.RowKit Kd P4 P5 P7
theorem first_any(left:List Int)(A:Option Addr)(n c:Nat)(beh:Int)(w:World)(H:kI.Holds w w.heap.size A left)(hn:left.length=n):Calls Tryz.prog 147 #[.slice A n c,.int .i64 beh] w fun e w'=>e = .returned (.int .i64 (nextP left beh))∧w=w':=by
 cases left with
 |nil=>
  obtain rfl:n=0:=hn.symm;clear H hn;go_enter Tryz.func147,Tryz.ntmps147;go_wp2_with fail;go_ret;exact⟨rfl,rfl⟩
 |cons i r=>
  obtain⟨b,o,rfl,hb,g0⟩:=cell_int H (k:=0) (by simp);have hn0:0<n:=(by rw[←hn];simp);have q0:((n:Int)==0)=false:=(by simp;omega);have i0:(0:Int)<(n:Int):=(by omega);simp only[Nat.add_zero,List.getElem_cons_zero] at g0;clear H hn;go_enter Tryz.func147,Tryz.ntmps147;go_wp2_with fail;go_ret;exact⟨rfl,rfl⟩
theorem at_no(ids:List Int)(A:Option Addr)(n c:Nat)(t:Int)(w:World)(ht:t<0):Calls Tryz.prog 80 #[.slice A n c,.int .i64 t] w fun e w'=>e = .returned (.int .i64 0)∧w=w':=by
 go_enter Tryz.func80,Tryz.ntmps80;go_wp2_with fail;go_ret;exact⟨rfl,rfl⟩
theorem at_yes19(ids:List Int)(A:Option Addr)(n c k:Nat)(w:World)(hk:k<ids.length)(H:kI.Holds w w.heap.size A ids)(hn:ids.length=n):Calls Tryz.prog 80 #[.slice A n c,.int .i64 k] w fun e w'=>e = .returned (.int .i64 ids[k])∧w=w':=by
 obtain⟨b,o,rfl,hb,g0⟩:=cell_int H hk;have hkn:k<n:=(by omega);clear H hn;generalize ids[k]=i at g0;clear hk;go_enter Tryz.func80,Tryz.ntmps80;go_wp2_with fail;go_ret;exact⟨rfl,rfl⟩
end P19
namespace P19
open Go.RowKit Kd P4 P5 P7 P14 P16
variable{w wx w':World}{B g p q:Nat}{x:Dx}{vd v:Value}{Z:Nat→Prop}{s:Sg}{par beh:Int}{left:List Int}
theorem DoneV.from_{s1:Sg}{ok:Prop}{e:Ending}{wz:World}(k:Kept Z wx wz)(d:DoneV w B g p x vd Z s1 ok wz e w'):DoneV w B g p x vd Z s1 ok wx e w':=by
 obtain⟨c,s',h1,h2,h3,h4⟩:=d;exact⟨c,s',h1,h2,k.trans h3,h4⟩
theorem DoneV.less{Z':Nat→Prop}{s1:Sg}{ok:Prop}{e:Ending}(d:DoneV w B g p x vd Z s1 ok wx e w')(hZ:∀k,Z' k→Z k):DoneV w B g p x vd Z' s1 ok wx e w':=by
 obtain⟨c,s',h1,h2,h3,h4⟩:=d;exact⟨c,s',h1,h2.less hZ,h3.less hZ,h4⟩
theorem DoneV.and_{s1:Sg}{ok ok':Prop}{e:Ending}(d:DoneV w B g p x vd Z s1 ok wx e w')(h:ok'→ok):DoneV w B g p x vd Z s1 ok' wx e w':=by
 obtain⟨c,s',h1,h2,h3,h4,h5⟩:=d;exact⟨c,s',h1,h2,h3,h4,fun h6=>h5 (h h6)⟩
theorem wput_one{W wz:World}{V:Value}{i bef:Int}(h:Pw w B g p x vd Z s W)(hb:PlB W q g p par beh V)(hz:Z q)(hwf:WF s.1)(hnn:s.1.n≤100000)(hl:s.2.length≤900000)(hbz:Below W.heap.size W wz)(hi:wz.heap[W.heap.size]? = some (.cells #[.int .i64 i] 3 (0,0))):
 Calls Tryz.prog 146 #[.pointer (some ⟨q,0,none⟩),.int .i64 bef,.slice (some ⟨W.heap.size,0,none⟩) 1 1] wz (DoneV w B g p x vd Z (doP s (recPut i par bef)) (OkD s (recPut i par bef)) W):=by
 have hlt:=heap_lt hi;have H2:Pw w B g p x vd (fun k=>Z k∨k=W.heap.size) s wz:=h.below hbz (fun k hk=>hk.imp id (fun e=>by subst e;exact⟨Zl,hlt⟩));have hh:kI.Holds wz wz.heap.size (some ⟨W.heap.size,0,none⟩) [i]:=(Kind.Holds.lit (K:=kI) (l:=[i]) hi rfl).more hlt;refine(wput_any [i] _ 1 1 bef H2 (hb.below hbz) (.inl hz) hh (fun b o e=>by injection e with e;injection e with e1 _;exact .inr e1.symm) rfl (by omega) hwf hnn hl).mono ?_;intro e w' d;exact((d.less (fun k hk=> .inl hk)).from_ (Kept.of_below hbz)).and_ (fun h=>⟨h,trivial⟩)
def mk0(tag txt key:ByteArray):Rc:=⟨0,0,0,0,tag,txt,key,[]⟩
theorem wadd_any(tag txt key:ByteArray)(h:Pl w B g p x vd Z q par beh v left s wx)(hwf:WF s.1)(hnn:s.1.n≤95000)(hl:s.2.length≤850000)(h1:tag.size≤maxLen)(h2:txt.size≤maxLen)(h3:key.size≤maxLen):
 Calls Tryz.prog 118 #[.pointer (some ⟨q,0,none⟩),.agg #[.int .i64 0,.int .i64 0,.int .i64 0,.int .i64 0,.string tag,.string txt,.string key,.slice none 0 0]] wx
  (DoneV w B g p x vd (plZ Z q v) (doP (doP s (recMake (s.1.n+1) tag txt key)) (recPut (s.1.n+1) par (nextP left beh))) (OkD s (recMake (s.1.n+1) tag txt key)∧OkD (doP s (recMake (s.1.n+1) tag txt key)) (recPut (s.1.n+1) par (nextP left beh))) wx):=by
 have q1:=err_neq_nil;have q2:=nil_neq_nil;obtain⟨A,n,c,rfl,_,_,_,_,_⟩:=h.own.slice;have RB0:Hid (RcB (wx.alloc (.cells #[.int .i64 0,.int .i64 0,.int .i64 0,.int .i64 0,.string tag,.string txt,.string key,.slice none 0 0] 71)) wx.heap.size (mk0 tag txt key) none 0 0):=Zh (RcB.new wx (mk0 tag txt key) none 0 0);have BX:Hid (Below wx.heap.size wx (wx.alloc (.cells #[.int .i64 0,.int .i64 0,.int .i64 0,.int .i64 0,.string tag,.string txt,.string key,.slice none 0 0] 71))):=Zh (Zb _ _);have H:=Zh h;have HWF:=Zh hwf;clear h hwf;go_enter Tryz.func118,Tryz.ntmps118;go_upto_region 1 with fail;generalize wx.alloc (.cells #[.int .i64 0,.int .i64 0,.int .i64 0,.int .i64 0,.string tag,.string txt,.string key,.slice none 0 0] 71)=w1 at RB0 BX⊢;obtain⟨gw,hgw⟩:∃k,wx.heap.size=k:=⟨_,rfl⟩;have GE:Hid (wx.heap.size≤gw):=Zh (by omega);have GL:Hid (gw<w1.heap.size):=Zh (by rw[←hgw];exact RB0.out.lt);have H1:=Zh (H.out.below BX.out);rw[hgw] at RB0⊢;clear hgw;have CN:=Zh (pw_next H1.out.pw (by omega));have p1:=H1.out.blk.c1;have f0:w1.frozen? ⟨gw,0,none⟩=false:=(by have hb:=RB0.out;unfold RcB at hb;simp[World.frozen?,hb]);have f1:w1.frozen? ⟨gw,1,none⟩=false:=(by have hb:=RB0.out;unfold RcB at hb;simp[World.frozen?,hb]);have a0:w1.cell? ⟨gw,0,none⟩=some (.int .i64 0):=RB0.out.c0;have a1:w1.cell? ⟨gw,1,none⟩=some (.int .i64 0):=RB0.out.c1;go_upto_region 2 with(go_at_call 51;refine CN.out.mono ?_;rintro e w' ⟨rfl,rfl⟩);have B3:Hid (Below wx.heap.size wx ((w1.setCell ⟨gw,0,none⟩ (.int .i64 1)).setCell ⟨gw,1,none⟩ (.int .i64 (s.1.n+1)))):=Zh ((BX.out.setCell (p:=⟨gw,0,none⟩) GE.out _).setCell (p:=⟨gw,1,none⟩) GE.out _);have RB3:Hid (RcB ((w1.setCell ⟨gw,0,none⟩ (.int .i64 1)).setCell ⟨gw,1,none⟩ (.int .i64 (s.1.n+1))) gw (recMake (s.1.n+1) tag txt key) none 0 0):=Zh (by
  have hb:=RB0.out;unfold RcB at hb⊢;exact heap_set (heap_set hb 0 _) 1 _)
 clear CN p1 f0 f1 a0 a1 H1 BX RB0 GL;generalize (w1.setCell ⟨gw,0,none⟩ (.int .i64 1)).setCell ⟨gw,1,none⟩ (.int .i64 (s.1.n+1))=w3 at B3 RB3⊢;have P3':Hid (Pw w B g p x vd (fun k=>plZ Z q (.slice A n c) k∨k=gw) s w3):=Zh (H.out.pw.below B3.out (fun k hk=>hk.imp id (fun e=>by subst e;exact⟨GE.out,RB3.out.lt⟩)));have PB3:=Zh (H.out.blk.below B3.out);have CM:Hid (∀wz,Below w3.heap.size w3 wz→Calls Tryz.prog 119 _ wz (PwV w B g p x vd (fun k=>plZ Z q (.slice A n c) k∨k=gw) s (recMake (s.1.n+1) tag txt key) w3)):=Zh (fun wz hb=>(pw_make (s.1.n+1) tag txt key (P3'.out.on hb) HWF.out (by omega) (by omega) h1 h2 h3).mono (fun e w' d=>d.on hb));have p0:=PB3.out.c0;have r0:=RB3.out.c0;have r1:=RB3.out.c1;have r2:=RB3.out.c2;have r3:=RB3.out.c3;have r4:=RB3.out.c4;have r5:=RB3.out.c5;have r6:=RB3.out.c6;have r7:=RB3.out.c7;simp only[recMake] at r0 r1 r2 r3 r4 r5 r6 r7;obtain⟨m,hm⟩:∃m,(applyD s.1 (recMake (s.1.n+1) tag txt key)).1=m:=⟨_,rfl⟩;have HM:=Zh hm;clear hm;go_region_held3 (fun w'=>w'.cell? ⟨q,0,none⟩=some (.pointer (some ⟨g,0,none⟩))∧w'.cell? ⟨gw,0,none⟩=some (.int .i64 1)∧w'.cell? ⟨gw,1,none⟩=some (.int .i64 (s.1.n+1))∧w'.cell? ⟨gw,2,none⟩=some (.int .i64 0)∧w'.cell? ⟨gw,3,none⟩=some (.int .i64 0)∧w'.cell? ⟨gw,4,none⟩=some (.string tag)∧w'.cell? ⟨gw,5,none⟩=some (.string txt)∧w'.cell? ⟨gw,6,none⟩=some (.string key)∧w'.cell? ⟨gw,7,none⟩=some (.slice none 0 0)) (first|go_keep|exact K9) ((first
  |(go_at_call 119;refine(CM.out _ (by first|exact Below_drewN Ze _|exact Ze.drew|exact Ze)).mono ?_;rintro e w4 ⟨rfl,p4,k4⟩;rw[HM.out];have H4:=Zh p4;have K4:=Zh k4;have PB4:=Zh (PB3.out.kept k4 (.inl (.inr (.inl rfl))));have RB4:Hid (RcB w4 gw (recMake (s.1.n+1) tag txt key) none 0 0):=Zh ((k4.block (.inr rfl) RB3.out.lt).trans RB3.out);have K9:w4.cell? ⟨q,0,none⟩=some (.pointer (some ⟨g,0,none⟩))∧w4.cell? ⟨gw,0,none⟩=some (.int .i64 1)∧w4.cell? ⟨gw,1,none⟩=some (.int .i64 (s.1.n+1))∧w4.cell? ⟨gw,2,none⟩=some (.int .i64 0)∧w4.cell? ⟨gw,3,none⟩=some (.int .i64 0)∧w4.cell? ⟨gw,4,none⟩=some (.string tag)∧w4.cell? ⟨gw,5,none⟩=some (.string txt)∧w4.cell? ⟨gw,6,none⟩=some (.string key)∧w4.cell? ⟨gw,7,none⟩=some (.slice none 0 0):=⟨PB4.out.c0,RB4.out.c0,RB4.out.c1,RB4.out.c2,RB4.out.c3,RB4.out.c4,RB4.out.c5,RB4.out.c6,RB4.out.c7⟩;clear p4 k4)
  |fail))
 all_goals
  clear CM p0 r0 r1 r2 r3 r4 r5 r6 r7 K9;have KX:Hid (Kept (plZ Z q (.slice A n c)) wx w4):=Zh ((Kept.of_below B3.out).trans (K4.out.less (fun k hk=> .inl hk)));have HX:Hid (Pw w B g p x vd (plZ Z q (.slice A n c)) (doP s (recMake (s.1.n+1) tag txt key)) w4):=Zh (H4.out.less (fun k hk=> .inl hk));by_cases hm0:m=0
  ·subst hm0;rw[show errV 0 = .nilIface from rfl];have OM:Hid (OkD s (recMake (s.1.n+1) tag txt key)):=Zh HM.out;have W4:Hid (WF (doP s (recMake (s.1.n+1) tag txt key)).1):=Zh (doP_wf HWF.out _);have n4:=doP_n s (recMake (s.1.n+1) tag txt key);have l4:=doP_len s (recMake (s.1.n+1) tag txt key);have OL:=Zh (own_all' (KX.out.own H.out.own (fun k hk=> .inr (.inr hk))));have CF:Hid (∀wz,Below w4.heap.size w4 wz→Calls Tryz.prog 147 #[.slice A n c,.int .i64 beh] wz fun e w'=>e = .returned (.int .i64 (nextP left beh))∧wz=w'):=Zh (fun wz hb=>first_any left A n c beh _ (OL.out.2.2.2.2.on hb) OL.out.1);have CP:Hid (∀wz,Below w4.heap.size w4 wz→wz.heap[w4.heap.size]? = some (.cells #[.int .i64 (s.1.n+1)] 3 (0,0))→Calls Tryz.prog 146 #[.pointer (some ⟨q,0,none⟩),.int .i64 (nextP left beh),.slice (some ⟨w4.heap.size,0,none⟩) 1 1] wz (DoneV w B g p x vd (fun k=>plZ Z q (.slice A n c) k∨k=gw) (doP (doP s (recMake (s.1.n+1) tag txt key)) (recPut (s.1.n+1) par (nextP left beh))) (OkD (doP s (recMake (s.1.n+1) tag txt key)) (recPut (s.1.n+1) par (nextP left beh))) w4)):=Zh (fun wz hb hi=>wput_one H4.out PB4.out (.inl (.inr (.inl rfl))) W4.out (by omega) (by omega) hb hi);have p3:=PB4.out.c3;have p4:=PB4.out.c4;have r1:=RB4.out.c1;simp only[recMake] at r1;clear n4 l4 HM;obtain⟨nx,hnx⟩:∃nx,nextP left beh=nx:=⟨_,rfl⟩;rw[hnx] at CF CP;have NX:=Zh hnx;clear hnx;go_upto_region 5 with fail;go_region_held3 (fun w'=>w'.cell? ⟨q,3,none⟩=some (.slice A n c)∧w'.cell? ⟨q,4,none⟩=some (.int .i64 beh)∧w'.cell? ⟨gw,1,none⟩=some (.int .i64 (s.1.n+1))) (first|go_keep|exact K9) ((first
    |(go_at_call 147;refine(CF.out _ (by first|exact Below_drewN Ze _|exact Ze.drew|exact Below_drewN (Zb _ _) _|exact(Zb _ _).drew|exact Zb _ _|exact(Ze.drew.alloc (Zl) _).drew|exact(Below_drewN Ze _).alloc (Zl) _|exact Ze)).mono ?_;rintro e w5 ⟨rfl,rfl⟩)
    |(go_at_call 146;refine(CP.out _ (by first|exact Below_drewN Ze _|exact Ze.drew|exact Below_drewN (Zb _ _) _|exact(Zb _ _).drew|exact Zb _ _|exact(Ze.drew.alloc (Zl) _).drew|exact(Below_drewN Ze _).alloc (Zl) _|exact Ze) (by first|exact heap_alloc_new _ _)).mono ?_;rintro e w6 ⟨m6,s6,rfl,d6⟩;have D6:=Zh d6;clear d6;have K9:w6.cell? ⟨q,3,none⟩=some (.slice A n c)∧w6.cell? ⟨q,4,none⟩=some (.int .i64 beh)∧w6.cell? ⟨gw,1,none⟩=some (.int .i64 (s.1.n+1)):=⟨(PB4.out.kept D6.out.2.1 (.inl (.inr (.inl rfl)))).c3,(PB4.out.kept D6.out.2.1 (.inl (.inr (.inl rfl)))).c4,(D6.out.2.1.cell (q:=⟨gw,1,none⟩) (.inr rfl) RB4.out.lt).trans RB4.out.c1⟩;obtain⟨ev,hev⟩:∃ev,errV m6=ev:=⟨_,rfl⟩;rw[hev])
    |fail))
   all_goals
    go_wp2_with fail;go_ret;rw[←hev];obtain⟨d1,d2,d3,d4⟩:=D6.out;rw[←NX.out] at d3 d4;exact⟨m6,s6,rfl,d1.less (fun k hk=> .inl hk),KX.out.trans (d2.less (fun k hk=> .inl hk)),d3,fun ok=>d4 ok.2⟩
  ·rw[err_ne hm0];go_wp2_with fail;go_ret;have:=DoneV.no (s1:=doP (doP s (recMake (s.1.n+1) tag txt key)) (recPut (s.1.n+1) par (nextP left beh))) (ok:=OkD s (recMake (s.1.n+1) tag txt key)∧OkD (doP s (recMake (s.1.n+1) tag txt key)) (recPut (s.1.n+1) par (nextP left beh))) hm0 HX.out KX.out (fun e=>apply_if HM.out hm0 e.1);rwa[err_ne hm0] at this
variable{w wx w':World}{B g p q:Nat}{x:Dx}{vd v:Value}{Z:Nat→Prop}{s:Sg}{par beh:Int}{left:List Int}
theorem next0{l:List Int}{b:Int}(h:0<l.length):nextP l b=l[0]:=by
 cases l with
 |nil=>simp at h
 |cons a r=>rfl
theorem wadv_any{id:Int}{k:Nat}(h:Pl w B g p x vd Z q par beh v left s wx)(hk:k<left.length)(hid:left[k]=id)(few:left.length≤250)(hwf:WF s.1)(hnn:s.1.n≤95000)(hl:s.2.length≤850000):
 Calls Tryz.prog 142 #[.pointer (some ⟨q,0,none⟩),.int .i64 k] wx (DoneV w B g p x vd (plZ Z q v) (moveP s par left beh id k).1 (MoveOk s par left beh id k) wx):=by
 rcases h.own.form with⟨hv,e⟩|⟨gb,c,cur,rfl,hob,y1,y2,y3,hnc,hcm,y4,y5⟩
 ·subst e;exact absurd hk (by simp)
 obtain⟨n,hn⟩:∃n,left.length=n:=⟨_,rfl⟩;rw[hn] at h hnc few⊢;have H:=Zh h;have LL:=Zh hn;have HWF:=Zh hwf;have OB:Hid (Z gb∨gb=q∨(Value.slice (some ⟨gb,0,none⟩) n c).ownBlock=some gb):=Zh (.inr (.inr rfl));have HD:Hid (∀wz,Kept (plZ Z q (.slice (some ⟨gb,0,none⟩) n c)) wx wz→kI.Holds wz wz.heap.size (some ⟨gb,0,none⟩) left):=Zh (fun wz hz=>(own_all' (hz.own H.out.own (fun k hk=> .inr (.inr hk)))).2.2.2.2);have GI:Hid (∀wz,Kept (plZ Z q (.slice (some ⟨gb,0,none⟩) n c)) wx wz→∀j (hj:j<left.length),wz.cell? ⟨gb,j,none⟩=some (.int .i64 left[j])):=Zh (fun wz hz j hj=>by
  obtain⟨b',o',hA,_,gg⟩:=cell_int (HD.out wz hz) hj;injection hA with hA;injection hA with e1 e2;subst e1;subst e2;simpa using gg)
 have hkn:k<n:=(by omega);have g0:=GI.out wx (Kept.refl _ _) k hk;have p3:=h.blk.c3;rw[hid] at g0;have i1:(0:Int)≤(k:Int):=(by omega);have i2:(k:Int)<(n:Int):=(by omega);have HID:=Zh hid;clear h hn hwf hob hid y1 y2 y3 y4 y5 cur;go_enter Tryz.func142,Tryz.ntmps142;by_cases hk0:k=0
 ·subst hk0;have MV:Hid ((moveP s par left beh id 0).1=s):=Zh (by unfold moveP;simp);clear HD GI;go_wp2_with fail;go_ret;rw[MV.out];exact DoneV.yes H.out.pw (Kept.refl _ _)
 ·have q0:((k:Int)==0)=false:=(by simp;omega);have K0:=Zh hk0;have p1:=H.out.blk.c1;have CO:Hid (∀wz,Below wx.heap.size wx wz→Calls Tryz.prog 53 #[.pointer (some ⟨p,0,none⟩)] wz fun e w'=>e = .returned (.int .i64 s.1.foc)∧wz=w'):=Zh (fun wz hb=>pw_focus (H.out.pw.on hb));have CI:Hid (∀wz,Below wx.heap.size wx wz→Calls Tryz.prog 157 #[.pointer (some ⟨p,0,none⟩),.int .i64 s.1.foc,.int .i64 id] wz fun e w'=>e = .returned (.bool (inside s.1.l s.1.foc id))∧Below wx.heap.size wx w'):=Zh (fun wz hz=>(pw_inside s.1.foc id (H.out.pw.on hz) HWF.out).mono (by
   rintro e w' ⟨rfl,hb⟩;exact⟨rfl,hz.trans (hb.mono hz.size)⟩))
  obtain⟨bi,hbi⟩:∃bi,inside s.1.l s.1.foc id=bi:=⟨_,rfl⟩;rw[hbi] at CI;have HBI:=Zh hbi;generalize s.1.foc=foc at CO CI;clear hbi hk0;go_upto_region 4 with fail;clear g0 p3;go_cut [16] (fun s16 wx2=>s16 = .bool bi∧Hid (Below wx.heap.size wx wx2))
  case first=>
   go_region_held3 (fun w'=>w'.cell? ⟨q,1,none⟩=some (.pointer (some ⟨p,0,none⟩))) (first|go_keep|exact K9) ((first
    |(go_at_call 53;refine(CO.out _ (by first|exact Below_drewN Ze _|exact Ze.drew|exact Ze)).mono ?_;rintro e w5 ⟨rfl,rfl⟩)
    |(go_at_call 157;refine(CI.out _ (by first|exact Below_drewN Ze _|exact Ze.drew|exact Ze)).mono ?_;rintro e w6 ⟨rfl,b6⟩;have B6:=Zh b6;have K9:=(H.out.blk.below b6).c1;clear b6)
    |fail))
   all_goals
    go_wp2_with fail;go_meet;exact⟨rfl,B6⟩
  case rest=>
   obtain⟨rfl,BC⟩:=hcut;obtain⟨w1,rfl⟩:∃w1,w1=wc:=⟨_,rfl⟩;have H1:=Zh (H.out.below BC.out);have KC:Hid (Kept (plZ Z q (.slice (some ⟨gb,0,none⟩) n c)) wx w1):=Zh (Kept.of_below BC.out);have p3:=H1.out.blk.c3;clear CO CI p1;cases bi with
   |true=>
    have MV:Hid ((moveP s par left beh id k).1=putsP par (nextP (left.drop (k+1)) beh) (left.take k) s):=Zh (by unfold moveP;rw[if_neg K0.out,if_neg (by rw[HBI.out];decide)]);have MO:Hid (MoveOk s par left beh id k→PutsOk par (nextP (left.drop (k+1)) beh) (left.take k) s):=Zh (fun e=>(e K0.out).2 HBI.out);have p4:=H1.out.blk.c4;have LT:Hid ((left.take k).length=k):=Zh (by rw[List.length_take,LL.out];omega);have LR:Hid ((left.drop (k+1)).length=n-(k+1)):=Zh (by rw[List.length_drop,LL.out]);have CP:Hid (∀wz,Below w1.heap.size w1 wz→Calls Tryz.prog 146 #[.pointer (some ⟨q,0,none⟩),.int .i64 (nextP (left.drop (k+1)) beh),.slice (some ⟨gb,0,none⟩) k c] wz (DoneV w B g p x vd (plZ Z q (.slice (some ⟨gb,0,none⟩) n c)) (putsP par (nextP (left.drop (k+1)) beh) (left.take k) s) (PutsOk par (nextP (left.drop (k+1)) beh) (left.take k) s) wx)):=Zh (fun wz hz=>by
     refine(wput_any (left.take k) (some ⟨gb,0,none⟩) k c _ (H1.out.pw.on hz) (H1.out.blk.below hz) (.inr (.inl rfl)) (((HD.out w1 KC.out).take k).on hz) (fun b o e=>by injection e with e;injection e with e1 _;subst e1;exact OB.out) LT.out (by omega) HWF.out (by omega) (by omega)).mono ?_;intro e w' d;exact d.from_ (KC.out.trans (Kept.of_below hz)))
    have i3:(k:Int)≤(c:Int):=(by omega);have i5:(n:Int)≤(c:Int):=(by omega);have i6:IntKind.i64.wrap ((k:Int)+1)=((k+1:Nat):Int):=by
     unfold maxLen at hcm;simp[IntKind.wrap,IntKind.bits,IntKind.signed];omega
    have i7:((k+1:Nat):Int)≤(n:Int):=(by omega);have i8:(0:Int)≤((k+1:Nat):Int):=(by omega);have HR:Hid (kI.Holds w1 w1.heap.size (some ⟨gb,k+1,none⟩) (left.drop (k+1))):=Zh (by
     have:=(HD.out w1 KC.out).drop (k+1);simpa[kI] using this)
    have HR0:Hid (c=k+1→kI.Holds w1 w1.heap.size (some ⟨gb,0,none⟩) (left.drop (k+1))):=Zh (fun e=>by
     rw[List.drop_of_length_le (by rw[LL.out];omega)];exact Kind.Holds.nil _ _ _)
    obtain⟨pe,hpe⟩:∃pe,k+1=pe:=⟨_,rfl⟩;rw[hpe] at LR i6 i7 i8 MV MO CP HR HR0;have PE:Hid (k+1=pe):=Zh hpe;generalize hnx:nextP (left.drop pe) beh=nx at MV MO CP;have NX:=Zh hnx;clear hpe hnx K0 GI;by_cases hcap:c=pe
    ·subst hcap;obtain rfl:n=c:=by omega
     have CF:Hid (∀wz,Below w1.heap.size w1 wz→Calls Tryz.prog 147 #[.slice (some ⟨gb,0,none⟩) 0 0,.int .i64 beh] wz fun e w'=>e = .returned (.int .i64 nx)∧wz=w'):=Zh (fun wz hz=>by
      have:=first_any (left.drop n) (some ⟨gb,0,none⟩) 0 0 beh wz ((HR0.out rfl).on hz) (by rw[LR.out];omega);rwa[NX.out] at this)
     clear HR HR0 LR;go_upto_region 5 with fail;go_region_held3 (fun w'=>w'.cell? ⟨q,3,none⟩=some (.slice (some ⟨gb,0,none⟩) n n)∧w'.cell? ⟨q,4,none⟩=some (.int .i64 beh)) (first|go_keep|exact K9) ((first
      |(go_at_call 147;refine(CF.out _ (by first|exact Below_drewN Ze _|exact Ze.drew|exact Ze)).mono ?_;rintro e w5 ⟨rfl,rfl⟩)
      |(go_at_call 146;refine(CP.out _ (by first|exact Below_drewN Ze _|exact Ze.drew|exact Ze)).mono ?_;rintro e w6 ⟨m6,s6,rfl,d6⟩;have D6:=Zh d6;clear d6;have K9:w6.cell? ⟨q,3,none⟩=some (.slice (some ⟨gb,0,none⟩) n n)∧w6.cell? ⟨q,4,none⟩=some (.int .i64 beh):=⟨(H.out.blk.kept D6.out.2.1 (.inr (.inl rfl))).c3,(H.out.blk.kept D6.out.2.1 (.inr (.inl rfl))).c4⟩;obtain⟨ev,hev⟩:∃ev,errV m6=ev:=⟨_,rfl⟩;rw[hev])
      |fail))
     all_goals
      go_wp2_with fail;go_ret;rw[←hev,MV.out];obtain⟨d1,d2,d3,d4⟩:=D6.out;exact⟨m6,s6,rfl,d1,d2,d3,fun ok=>d4 (MO.out ok)⟩
    ·have CF:Hid (∀wz,Below w1.heap.size w1 wz→Calls Tryz.prog 147 #[.slice (some ⟨gb,pe,none⟩) (n-pe) (c-pe),.int .i64 beh] wz fun e w'=>e = .returned (.int .i64 nx)∧wz=w'):=Zh (fun wz hz=>by
      have:=first_any (left.drop pe) (some ⟨gb,pe,none⟩) (n-pe) (c-pe) beh wz (HR.out.on hz) LR.out;rwa[NX.out] at this)
     clear HR HR0 LR;go_upto_region 5 with fail;go_region_held3 (fun w'=>w'.cell? ⟨q,3,none⟩=some (.slice (some ⟨gb,0,none⟩) n c)∧w'.cell? ⟨q,4,none⟩=some (.int .i64 beh)) (first|go_keep|exact K9) ((first
      |(go_at_call 147;refine(CF.out _ (by first|exact Below_drewN Ze _|exact Ze.drew|exact Ze)).mono ?_;rintro e w5 ⟨rfl,rfl⟩)
      |(go_at_call 146;refine(CP.out _ (by first|exact Below_drewN Ze _|exact Ze.drew|exact Ze)).mono ?_;rintro e w6 ⟨m6,s6,rfl,d6⟩;have D6:=Zh d6;clear d6;have K9:w6.cell? ⟨q,3,none⟩=some (.slice (some ⟨gb,0,none⟩) n c)∧w6.cell? ⟨q,4,none⟩=some (.int .i64 beh):=⟨(H.out.blk.kept D6.out.2.1 (.inr (.inl rfl))).c3,(H.out.blk.kept D6.out.2.1 (.inr (.inl rfl))).c4⟩;obtain⟨ev,hev⟩:∃ev,errV m6=ev:=⟨_,rfl⟩;rw[hev])
      |fail))
     all_goals
      go_wp2_with fail;go_ret;rw[←hev,MV.out];obtain⟨d1,d2,d3,d4⟩:=D6.out;exact⟨m6,s6,rfl,d1,d2,d3,fun ok=>d4 (MO.out ok)⟩
   |false=>
    have MV:Hid ((moveP s par left beh id k).1=doP s (recPut id par (nextP left 0))):=Zh (by unfold moveP;rw[if_neg K0.out,if_pos HBI.out]);have MO:Hid (MoveOk s par left beh id k→OkD s (recPut id par (nextP left 0))):=Zh (fun e=>(e K0.out).1 HBI.out);have CP:Hid (∀wz,Below w1.heap.size w1 wz→wz.heap[w1.heap.size]? = some (.cells #[.int .i64 id] 3 (0,0))→Calls Tryz.prog 146 #[.pointer (some ⟨q,0,none⟩),.int .i64 (nextP left 0),.slice (some ⟨w1.heap.size,0,none⟩) 1 1] wz (DoneV w B g p x vd (plZ Z q (.slice (some ⟨gb,0,none⟩) n c)) (doP s (recPut id par (nextP left 0))) (OkD s (recPut id par (nextP left 0))) wx)):=Zh (fun wz hb hi=>(wput_one H1.out.pw H1.out.blk (.inr (.inl rfl)) HWF.out (by omega) (by omega) hb hi).mono (fun e w' d=>d.from_ KC.out));have g0:=GI.out w1 KC.out 0 (by omega);rw[←next0 (b:=0) (by omega)] at g0;have i3:(0:Int)<(n:Int):=(by omega);generalize nextP left 0=nx at MV MO CP g0;go_wp2_with fail;refine(CP.out _ (by first|exact Zb _ _) (heap_alloc_new _ _)).mono ?_;rintro e w6 ⟨m6,s6,rfl,d6⟩;have D6:=Zh d6;clear d6;obtain⟨ev,hev⟩:∃ev,errV m6=ev:=⟨_,rfl⟩;rw[hev];go_wp2_with fail;go_ret;rw[←hev,MV.out];obtain⟨d1,d2,d3,d4⟩:=D6.out;exact⟨m6,s6,rfl,d1,d2,d3,fun ok=>d4 (MO.out ok)⟩
end P19
namespace P16
open Go.RowKit Kd P4 P5 P11 P12 P13 P14
def isK(t k:ByteArray)(o:Ol):Bool:=bq o.tag t&&bq o.key k
def seekM(t k:ByteArray):List Ol→Nat→Int
 |[],_=>-1
 |o:: l,i=>if isK t k o then(i:Int) else seekM t k l (i+1)
def nxM(old:List Ol)(t k:ByteArray)(i:Nat):Int:=seekM t k (old.drop i) i
theorem nxM_end{old:List Ol}{t k:ByteArray}{i:Nat}(h:old.length≤i):nxM old t k i = -1:=by
 unfold nxM;rw[List.drop_of_length_le h];rfl
theorem nxM_yes{old:List Ol}{t k:ByteArray}{i:Nat}(h:i<old.length)(hk:isK t k old[i]=true):nxM old t k i=(i:Int):=by
 unfold nxM;rw[List.drop_eq_getElem_cons h,seekM,if_pos hk]
theorem nxM_no{old:List Ol}{t k:ByteArray}{i:Nat}(h:i<old.length)(hk:isK t k old[i]=false):nxM old t k i=nxM old t k (i+1):=by
 unfold nxM;rw[List.drop_eq_getElem_cons h,seekM,if_neg (by rw[hk];decide)]
theorem nxM_spec(old:List Ol)(t k:ByteArray):∀(d i:Nat),old.length-i=d→
 (nxM old t k i = -1∧∀j (h:j<old.length),i≤j→isK t k old[j]=false)∨
 ∃(j:Nat) (h:j<old.length),nxM old t k i=(j:Int)∧i≤j∧isK t k old[j]=true∧∀m (h:m<old.length),i≤m→m<j→isK t k old[m]=false
 |0,i,hd=> .inl ⟨nxM_end (by omega),fun j h hj=>by omega⟩
 |d+1,i,hd=>by
  have hi:i<old.length:=(by omega);cases hk:isK t k old[i] with
  |true=>exact .inr ⟨i,hi,nxM_yes hi hk,Zl,hk,fun m _ h1 h2=>by omega⟩
  |false=>
   rw[nxM_no hi hk];rcases nxM_spec old t k d (i+1) (by omega) with⟨h1,h2⟩|⟨j,hj,h1,h2,h3,h4⟩
   ·refine .inl ⟨h1,fun j h hj=>?_⟩;by_cases e:j=i
    ·subst e;exact hk
    ·exact h2 j h (by omega)
   ·refine .inr ⟨j,hj,h1,by omega,h3,fun m h hm hmj=>?_⟩;by_cases e:m=i
    ·subst e;exact hk
    ·exact h4 m h (by omega) hmj
theorem scan_none{w:PW}{old:List Ol}{left:List Bool}(h:∀j:Nat,left[j]? = some true→∀o:Ol,old[j]? = some o→∀f,takesW w o f=false):∀m,(scanM w old left m).1 = -1
 |0=>rfl
 |m+1=>by
  have ih:=scan_none h m;rw[scanM,if_neg (by omega)];split
  ·rename_i o ho hl;simp only;rw[h m hl o ho,if_neg (by decide)]
  ·exact ih
theorem scan_none_to{w:PW}{old:List Ol}{left:List Bool}{n:Nat}(h:∀j:Nat,j<n→left[j]? = some true→∀o:Ol,old[j]? = some o→∀f,takesW w o f=false):∀m,m≤n→(scanM w old left m).1 = -1
 |0,_=>rfl
 |m+1,hm=>by
  have ih:=scan_none_to h m (by omega);rw[scanM,if_neg (by omega)];split
  ·rename_i o ho hl;simp only;rw[h m (by omega) hl o ho,if_neg (by decide)]
  ·exact ih
theorem scan_first{w:PW}{old:List Ol}{left:List Bool}{j m:Nat}{o:Ol}(h:∀i:Nat,i<j→left[i]? = some true→∀o:Ol,old[i]? = some o→∀f,takesW w o f=false)(hl:left[j]? = some true)(ho:old[j]? = some o)(ht:∀f,takesW w o f=true)(hm:j<m):
 (scanM w old left m).1=(j:Int):=by
 have h0:=scan_none_to h j (Zl);have h1:(scanM w old left (j+1)).1=(j:Int):=by
  rw[scanM_left (by omega) ho hl,ht];rfl
 obtain⟨d,rfl⟩:∃d,m=j+1+d:=⟨m-(j+1),by omega⟩;rw[scanM_stays (by omega) d,h1]
theorem scan_gone{w:PW}{old:List Ol}{left:List Bool}{n:Nat}(h:∀i:Nat,i<n→left[i]? = some false):∀m,m≤n→scanM w old left m=(-1,true)
 |0,_=>rfl
 |m+1,hm=>by
  have ih:=scan_gone (w:=w) (old:=old) h m (by omega);rw[scanM_gone (by rw[ih];decide) (h m (by omega)),ih]
theorem scan_rest{w:PW}{old:List Ol}{left:List Bool}{m:Nat}(hw:∀o,takesW w o false=false)(h:scanM w old left m=(-1,false)):∀j,scanM w old left (m+j)=(-1,false)
 |0=>h
 |j+1=>by
  have ih:=scan_rest hw h j;rw[←Nat.add_assoc,scanM,if_neg (by rw[ih];decide)];split
  ·rename_i o ho hl;rw[ih,hw,if_neg (by decide)]
  ·exact ih
theorem scan_front{w:PW}{old:List Ol}{left:List Bool}{F n:Nat}{o:Ol}(hw:∀o,takesW w o false=false)(h:∀i:Nat,i<F→left[i]? = some false)(hl:left[F]? = some true)(ho:old[F]? = some o)(hn:F<n):
 (scanM w old left n).1=if takesW w o true then(F:Int) else -1:=by
 have h0:=scan_gone (w:=w) (old:=old) h F (Zl);have h1:scanM w old left (F+1)=(if takesW w o true then(F:Int) else -1,false):=by
  rw[scanM_left (by rw[h0];decide) ho hl,h0]
 obtain⟨d,rfl⟩:∃d,n=F+1+d:=⟨n-(F+1),by omega⟩;cases ht:takesW w o true with
 |true=>
  rw[ht] at h1;simp only[if_true] at h1⊢;rw[scanM_stays (by rw[h1];simp) d,h1]
 |false=>
  rw[ht] at h1;simp only[Bool.false_eq_true,if_false] at h1⊢;rw[scan_rest hw h1 d]
theorem takes_key{w:PW}(h1:w.kind=1)(hk:w.key.toList.isEmpty=false)(o:Ol)(f:Bool):takesW w o f=isK w.tag w.key o:=by
 unfold takesW isK;rw[if_pos h1,hk];simp
theorem takes_first{w:PW}(h:¬(w.kind=1∧w.key.toList.isEmpty=false))(o:Ol):takesW w o false=false:=by
 unfold takesW;split
 ·rename_i h1;cases hk:w.key.toList.isEmpty with
  |false=>exact absurd ⟨h1,hk⟩ h
  |true=>simp
 ·split
  ·rfl
  ·split<;>rfl
theorem clear_gone{left:List Bool}{q:Nat}:∀d,(∀i,q≤i→i<q+d→left[i]? = some false)→q+d≤left.length→clearM left (q+d)=clearM left q∧idxM left (q+d)=idxM left q
 |0,_,_=>⟨rfl,rfl⟩
 |d+1,h,hl=>by
  have ih:=clear_gone d (fun i h1 h2=>h i h1 (by omega)) (by omega);have hf:=h (q+d) (by omega) (by omega);rw[←Nat.add_assoc,←clearM_no (by omega) hf,idxM_no hf];exact ih
theorem clear_get{left:List Bool}{q i:Nat}(h:q≤i)(hl:q≤left.length):(clearM left q)[i]? = left[i]?:=by
 unfold clearM;rw[List.getElem?_append_right (by simpa using h),List.length_replicate,List.getElem?_drop];congr 1;omega
theorem clear_lo{left:List Bool}{q i:Nat}(h:i<q)(hl:q≤left.length):(clearM left q)[i]? = some false:=by
 unfold clearM;rw[List.getElem?_append_left (by simpa using h),List.getElem?_replicate,if_pos h]
theorem isK_iff{t k:ByteArray}{o:Ol}:isK t k o=true↔o.tag=t∧o.key=k:=by
 have e:∀a b:ByteArray,a.toList=b.toList↔a=b:=fun a b=>⟨fun h=>by
  rw[ByteArray.toList_eq,ByteArray.toList_eq] at h;obtain⟨⟨a⟩⟩:=a;obtain⟨⟨b⟩⟩:=b;simp only at h;rw[h],fun h=>by rw[h]⟩
 unfold isK bq;rw[Bool.and_eq_true,beq_iff_eq,beq_iff_eq,e,e]
end P16
namespace Mv
open Go.RowKit Kd Go.ChangeMaps Go.MapKept
open Go.Maps (Keyed)
section
variable{P:Program}{w w':World}{k:TypeId}{b n s:Nat}{f:Lit→Option Value}
theorem MapIs.tight(h:MapIs P k w b n s f):MapIs P k w b s s f:=by
 obtain⟨D,⟨es,cl,hb,F,hs,hD⟩,h2,h3⟩:=h;have:es.size≤s:=by
  rw[←h2,hD,Maps.size_eq,length_sorted];simp
 exact⟨D,⟨es,cl,hb,F,this,hD⟩,h2,h3⟩
variable{ops:Array Oper}{o:Oper}{act:Act}{Kk:Act→World→Prop}{Q:Exit→Act→World→Prop}{E:Prop}
end
noncomputable def setL (f:Lit→Option Value) (l:Lit) (o:Option Value):Lit→Option Value:=fun x=>by
 classical
 exact if x=l then o else f x
theorem setL_put(f:Lit→Option Value)(l:Lit)(o:Option Value):PutF f (setL f l o) l o:=⟨by unfold setL;simp,fun y hy=>by unfold setL;simp[hy]⟩
theorem grown_drew{w w':World}{r:Option Nat}(h:w.drew.grownBy w' r):w.grownBy w' r:=⟨h.1,h.2,h.3,h.4,h.5⟩
end Mv
namespace P16
open Go.RowKit Kd P4 P5 P11 P12 P13 P14 Mv
theorem laidOutO:laidOutB Tryz.prog=true:=by kernel_rfl
theorem rowO:(183:TypeId)<Tryz.prog.types.size:=of_decide_eq_true (by kernel_rfl)
theorem wideO:(match Tryz.prog.underlying 183 with|some (.array _ _)|some (.struct _)=>true|_=>false)=true:=by rw[Tryz.underlying183]
theorem lawO:WideMaps.KeyLaw Tryz.prog 183:=deep_law_laid laidOutO (m:=2) (by omega) rowO (by kernel_rfl) wideO
def okL(t k:ByteArray):Lit:=.string (keyBytes [.string t.data.toList,.string k.data.toList])
theorem ktO:Tryz.prog.keyType 183=true:=by kernel_rfl
theorem cellsOf_o:Tryz.prog.cellsOf 183=2:=by kernel_rfl
theorem cellsOf_s:Tryz.prog.cellsOf 9=1:=by kernel_rfl
theorem manyO:∃m,Tryz.prog.types.size=m+1:=⟨Tryz.prog.types.size-1,(Nat.succ_pred_eq_of_pos (Nat.lt_of_le_of_lt (Nat.zero_le _) rowO)).symm⟩
theorem key_o{tag key:ByteArray}(h1:tag.size≤maxLen)(h2:key.size≤maxLen):keyOf Tryz.prog 183 (.agg #[.string tag,.string key])=some (okL tag key):=by
 obtain⟨m,hm⟩:=manyO;unfold keyOf;simp only[Tryz.underlying183];rw[if_pos (by simp[ktO,Value.formed,Tryz.underlying183,cellsOf_o]),hm];unfold Program.keyLits;simp only[Tryz.underlying183,Value.cells];rw[if_pos (by rw[cellsOf_o];exact⟨rfl,by simp⟩)];simp[cellsOf_s,Program.keyLits,Tryz.underlying9,h1,h2,okL]
theorem ok_inj{t k t' k':ByteArray}(h1:t.size≤maxLen)(h2:k.size≤maxLen)(h3:t'.size≤maxLen)(h4:k'.size≤maxLen)(h:okL t k=okL t' k'):t=t'∧k=k':=by
 have:=lawO.inj (key_o h1 h2) (by rw[h];exact key_o h3 h4);simpa using this
theorem zeroInt(w:World):(zeroValue 3).run Tryz.prog w = .ok (.int .i64 0) w:=by kernel_rfl
def Nmd(o:Option Value)(a:Int):Prop:=(o=none∧a = -1)∨o=some (.int .i64 a)
def NmOk(old:List Ol)(left:List Bool)(f:Lit→Option Value):Prop:=∀t k:ByteArray,t.size≤maxLen→k.size≤maxLen→t.toList.isEmpty=false→k.toList.isEmpty=false→
 ∃i:Nat,Nmd (f (okL t k)) (nxM old t k i)∧∀(j:Nat) (h:j<old.length),j<i→isK t k old[j]=true→left[j]? = some false
def NxOk(old:List Ol)(nl:List Int)(i:Nat):Prop:=∀(j:Nat) (h:j<old.length),i≤j→old[j].tag.toList.isEmpty=false→old[j].key.toList.isEmpty=false→nl[j]? = some (nxM old old[j].tag old[j].key (j+1))
def lfV(A:Option Addr)(n c g F m h:Nat):Obj:=.cells #[.slice A n c,.slice (some ⟨g,0,none⟩) n n,.int .i64 (F:Int),.map (some m),.slice (some ⟨h,0,none⟩) n n] 199 (0,0)
structure Lf(w:World)(B p g h m:Nat)(A:Option Addr)(n c:Nat)(old:List Ol)(left:List Bool)(F s:Nat)(f:Lit→Option Value)(nl:List Int):Prop where
 blk:w.heap[p]? = some (lfV A n c g F m h)
 Bp:B≤p
 Bm:B≤m
 old_:kO.Holds w B A old
 own:kBo.Own w B (.slice (some ⟨g,0,none⟩) n n) (left.map not)
 nx:kI.Own w B (.slice (some ⟨h,0,none⟩) n n) nl
 map:MapIs Tryz.prog 183 w m s s f
 sz:s≤1000
 len:old.length=n
 lenL:left.length=n
 small:n≤1000
 szs:∀o∈old,o.tag.size≤maxLen∧o.key.size≤maxLen
 front:F≤n
 gone:∀i:Nat,i<F→left[i]? = some false
 nm:NmOk old left f
 nxt:NxOk old nl 0
def W3(p g m:Nat)(k:Nat):Prop:=k=p∨k=g∨k=m
section
variable{w w':World}{B p g h m:Nat}{A:Option Addr}{n c:Nat}{old:List Ol}{left:List Bool}{F s:Nat}{f:Lit→Option Value}{nl:List Int}
theorem not_map'{k:TypeId}{b n s:Nat}{f:Lit→Option Value}(h:MapIs Tryz.prog k w b n s f){g:Nat}{cur:Array Value}{t:TypeId}{fr:Nat×Nat}(h':w.heap[g]? = some (.cells cur t fr)):g≠b:=fun e=>by
 obtain⟨es,cl,hb⟩:=h.blk;exact map_ne hb h' e.symm
theorem Lf.gty(x:Lf w B p g h m A n c old left F s f nl):∃cur,w.heap[g]? = some (.cells cur 4 (0,0)):=x.own.ty rfl
theorem Lf.hty(x:Lf w B p g h m A n c old left F s f nl):∃cur,w.heap[h]? = some (.cells cur 3 (0,0)):=x.nx.ty rfl
theorem Lf.pg(x:Lf w B p g h m A n c old left F s f nl):p≠g:=by obtain⟨cur,hc⟩:=x.gty;exact heap_ne x.blk hc (by decide)
theorem Lf.ph(x:Lf w B p g h m A n c old left F s f nl):p≠h:=by obtain⟨cur,hc⟩:=x.hty;exact heap_ne x.blk hc (by decide)
theorem Lf.gh(x:Lf w B p g h m A n c old left F s f nl):g≠h:=by obtain⟨cur,hc⟩:=x.hty;obtain⟨cur',hc'⟩:=x.gty;exact heap_ne hc' hc (by decide)
theorem Lf.pm(x:Lf w B p g h m A n c old left F s f nl):p≠m:=not_map' x.map x.blk
theorem Lf.gm(x:Lf w B p g h m A n c old left F s f nl):g≠m:=by obtain⟨cur,hc⟩:=x.gty;exact not_map' x.map hc
theorem Lf.hm(x:Lf w B p g h m A n c old left F s f nl):h≠m:=by obtain⟨cur,hc⟩:=x.hty;exact not_map' x.map hc
theorem Lf.Bg(x:Lf w B p g h m A n c old left F s f nl):B≤g:=(x.own.lt rfl).1
theorem Lf.plt(x:Lf w B p g h m A n c old left F s f nl):p<w.heap.size:=heap_lt x.blk
theorem Lf.le(x:Lf w B p g h m A n c old left F s f nl):B≤w.heap.size:=by have:=x.plt;have:=x.Bp;omega
theorem Lf.but{S:Nat→Prop}(x:Lf w B p g h m A n c old left F s f nl)(hb:But S w w')(hS:∀i,S i→B≤i∧i≠p∧i≠g∧i≠h∧i≠m):Lf w' B p g h m A n c old left F s f nl:=by
 have keep:∀i,i<w.heap.size→i=p∨i=g∨i=h∨i=m→w'.heap[i]? = w.heap[i]?:=fun i hi e=>hb.block i hi (fun hs=>by
  obtain⟨_,h1,h2,h3,h4⟩:=hS i hs;rcases e with e|e|e|e<;>contradiction)
 exact {x with
  blk:=(keep p x.plt (.inl rfl)).trans x.blk
  old_:=x.old_.keep (fun b _ hlt=>hb.block b (by have:=x.le;omega) (fun hs=>by have:=(hS b hs).1;omega))
  own:=x.own.keep (fun i hi=>keep i (x.own.lt hi).2 (.inr (.inl (Option.some.inj hi).symm)))
  nx:=x.nx.keep (fun i hi=>keep i (x.nx.lt hi).2 (.inr (.inr (.inl (Option.some.inj hi).symm))))
  map:=x.map.kept (keep m x.map.lt (.inr (.inr (.inr rfl))))}
theorem Lf.below{C:Nat}(x:Lf w B p g h m A n c old left F s f nl)(hb:Below C w w')(h1:B≤C)(h2:p<C)(h3:g<C)(h4:h<C)(h5:m<C):Lf w' B p g h m A n c old left F s f nl:=
 x.but (S:=fun i=>C≤i) ⟨hb.os,hb.tape,hb.output,hb.size,fun i _ hn=>hb.block i (by omega)⟩ (fun i hi=>by omega)
theorem Lf.on(x:Lf w B p g h m A n c old left F s f nl)(hb:Below w.heap.size w w'):Lf w' B p g h m A n c old left F s f nl:=
 x.below hb x.le x.plt (x.own.lt rfl).2 (x.nx.lt rfl).2 x.map.lt
theorem Lf.drewN(x:Lf w B p g h m A n c old left F s f nl)(k:Nat):Lf (w.drewN k) B p g h m A n c old left F s f nl:=x.on (Below_drewN Ze k)
theorem Lf.alloc(x:Lf w B p g h m A n c old left F s f nl)(o:Obj):Lf (w.alloc o) B p g h m A n c old left F s f nl:=x.on (Ze.alloc (Zl) o)
theorem Lf.noI(x:Lf w B p g h m A n c old left F s f nl){B':Nat}{v:Value}{l:List Int}(hv:kI.Own w B' v l):∀i,v.ownBlock=some i→¬W3 p g m i:=fun i hi hw=>by
 obtain⟨cur,hc⟩:=hv.ty hi;obtain⟨cur',hg⟩:=x.gty;rcases hw with rfl|rfl|rfl
 ·exact heap_ne x.blk hc (by decide) rfl
 ·exact heap_ne hg hc (by decide) rfl
 ·exact not_map' x.map hc rfl
theorem Lf.c0(x:Lf w B p g h m A n c old left F s f nl):w.cell? ⟨p,0,none⟩=some (.slice A n c):=cell_of_row w p 0 _ _ (0,0) x.blk
theorem Lf.c1(x:Lf w B p g h m A n c old left F s f nl):w.cell? ⟨p,1,none⟩=some (.slice (some ⟨g,0,none⟩) n n):=cell_of_row w p 1 _ _ (0,0) x.blk
theorem Lf.c2(x:Lf w B p g h m A n c old left F s f nl):w.cell? ⟨p,2,none⟩=some (.int .i64 (F:Int)):=cell_of_row w p 2 _ _ (0,0) x.blk
theorem Lf.c3(x:Lf w B p g h m A n c old left F s f nl):w.cell? ⟨p,3,none⟩=some (.map (some m)):=cell_of_row w p 3 _ _ (0,0) x.blk
theorem Lf.c4(x:Lf w B p g h m A n c old left F s f nl):w.cell? ⟨p,4,none⟩=some (.slice (some ⟨h,0,none⟩) n n):=cell_of_row w p 4 _ _ (0,0) x.blk
theorem Lf.fz(x:Lf w B p g h m A n c old left F s f nl)(o:Nat):w.frozen? ⟨p,o,none⟩=false:=by
 have hb:=x.blk;unfold lfV at hb;simp[World.frozen?,hb]
theorem Lf.taken(x:Lf w B p g h m A n c old left F s f nl){i:Nat}(hi:i<n):∃b,left[i]? = some b∧w.cell? ⟨g,i,none⟩=some (.bool (!b))∧w.frozen? ⟨g,i,none⟩=false:=by
 have hl:i<left.length:=(by have:=x.lenL;omega);obtain⟨h1,h2,_⟩:=own_bool x.own (k:=i) (by simpa using hl);exact⟨left[i],List.getElem?_eq_getElem hl,by simpa using h1,h2⟩
theorem Lf.next(x:Lf w B p g h m A n c old left F s f nl){i:Nat}(hi:i<old.length)(h1:old[i].tag.toList.isEmpty=false)(h2:old[i].key.toList.isEmpty=false):w.cell? ⟨h,i,none⟩=some (.int .i64 (nxM old old[i].tag old[i].key (i+1))):=by
 obtain⟨A',n',c',hv,e1,_,_,_,e5⟩:=x.nx.slice;injection hv with h3 h4 h5;subst h3;subst h4;subst h5;have hn:=x.nxt i hi (Nat.zero_le _) h1 h2;obtain⟨hlt,hel⟩:=List.getElem?_eq_some_iff.1 hn;obtain⟨b,o,hA,_,hc⟩:=cell_int e5 hlt;injection hA with hA;injection hA with e1 e2 _;subst e1;subst e2;rw[hel] at hc;simpa using hc
theorem map_set{left:List Bool}{i:Nat}:(left.map not).set i true=(left.set i false).map not:=by
 rw[List.map_set];rfl
theorem set_mono{left:List Bool}{i j:Nat}(hj:left[j]? = some false):(left.set i false)[j]? = some false:=by
 rw[List.getElem?_set];have hl:j<left.length:=(List.getElem?_eq_some_iff.1 hj).1;by_cases e:i=j
 ·subst e;rw[if_pos rfl,if_pos hl]
 ·rw[if_neg e];exact hj
theorem NmOk.mono{left':List Bool}(hn:NmOk old left f)(hm:∀j:Nat,left[j]? = some false→left'[j]? = some false):NmOk old left' f:=fun t k h1 h2 h3 h4=>by
 obtain⟨i,e1,e2⟩:=hn t k h1 h2 h3 h4;exact⟨i,e1,fun j h hj hk=>hm j (e2 j h hj hk)⟩
theorem Lf.step(x:Lf w B p g h m A n c old left F s f nl)(hF:F<n)(hl:left[F]? = some false):Lf (w.setCell ⟨p,2,none⟩ (.int .i64 ((F:Int)+1))) B p g h m A n c old left (F+1) s f nl:=by
 have hb:But (fun k=>k=p) w (w.setCell ⟨p,2,none⟩ (.int .i64 ((F:Int)+1))):=set_but w p 2 _;have hk:∀i,i<w.heap.size→i≠p→(w.setCell ⟨p,2,none⟩ (.int .i64 ((F:Int)+1))).heap[i]? = w.heap[i]?:=fun i hi hn=>hb.block i hi hn
 exact {x with
  blk:=heap_set x.blk 2 _
  old_:=x.old_.keep (fun b _ hlt=>hk b (by have:=x.le;omega) (fun e=>by have:=x.Bp;omega))
  own:=x.own.but hb (fun i hi e=>x.pg (by rw[←e];exact Option.some.inj hi.symm))
  nx:=x.nx.but hb (fun i hi e=>x.ph (by rw[←e];exact Option.some.inj hi.symm))
  map:=x.map.kept (hk m x.map.lt (fun e=>x.pm e.symm))
  front:=hF
  gone:=fun i hi=>by
   by_cases e:i=F
   ·subst e;exact hl
   ·exact x.gone i (by omega)}
theorem Lf.take(x:Lf w B p g h m A n c old left F s f nl){i:Nat}(hi:i<n):Lf (w.setCell ⟨g,i,none⟩ (.bool true)) B p g h m A n c old (left.set i false) F s f nl:=by
 have hb:But (fun k=>k=g) w (w.setCell ⟨g,i,none⟩ (.bool true)):=set_but w g i _;have hk:∀j,j<w.heap.size→j≠g→(w.setCell ⟨g,i,none⟩ (.bool true)).heap[j]? = w.heap[j]?:=fun j hj hn=>hb.block j hj hn
 have hl:i<left.length:=(by have:=x.lenL;omega);obtain⟨_,_,st⟩:=own_bool x.own (k:=i) (by simpa using hl);have st:=st true;rw[map_set] at st;exact {x with
  blk:=(hk p x.plt x.pg).trans x.blk
  old_:=x.old_.keep (fun b _ hlt=>hk b (by have:=x.le;omega) (fun e=>by have:=x.Bg;omega))
  own:=st
  nx:=x.nx.but hb (fun j hj e=>x.gh (by rw[←e];exact Option.some.inj hj.symm))
  map:=x.map.kept (hk m x.map.lt (fun e=>x.gm e.symm))
  lenL:=by rw[List.length_set];exact x.lenL
  gone:=fun j hj=>set_mono (x.gone j hj)
  nm:=x.nm.mono (fun j hj=>set_mono hj)}
theorem Lf.name(x:Lf w B p g h m A n c old left F s f nl){t k:ByteArray}{a:Int}(ht:t.size≤maxLen)(hk:k.size≤maxLen)(hs:(f (okL t k)).isSome=true)(i:Nat)(ha:nxM old t k i=a)(hi:∀(j:Nat) (h:j<old.length),j<i→isK t k old[j]=true→left[j]? = some false)
 (hm:MapIs Tryz.prog 183 w' m (s+1) (if(f (okL t k)).isSome then s else s+1) (setL f (okL t k) (some (.int .i64 a)))) (hg:w.grownBy w' (some m)):Lf w' B p g h m A n c old left F s (setL f (okL t k) (some (.int .i64 a))) nl:=by
 have hb:But (fun k=>k=m) w w':=But.of_grown hg (fun j hj _=>(Option.some.inj hj).symm);rw[if_pos hs] at hm;exact {x with
  blk:=(hb.block p x.plt x.pm).trans x.blk
  old_:=x.old_.keep (fun b _ hlt=>hb.block b (by have:=x.le;omega) (fun e=>by have:=x.Bm;omega))
  own:=x.own.but hb (fun j hj e=>x.gm (by rw[←e];exact Option.some.inj hj))
  nx:=x.nx.but hb (fun j hj e=>x.hm (by rw[←e];exact Option.some.inj hj))
  map:=hm.tight
  nm:=fun t' k' h1 h2 h3 h4=>by
   by_cases e:okL t' k'=okL t k
   ·obtain⟨rfl,rfl⟩:=ok_inj h1 h2 ht hk e;exact⟨i,.inr (by rw[(setL_put f _ _).1,ha]),hi⟩
   ·rw[(setL_put f _ _).2 _ e];exact x.nm t' k' h1 h2 h3 h4}
end
theorem isElement_any(t k:ByteArray)(w:World):Calls Tryz.prog 134 #[.agg #[.string t,.string k]] w fun e w'=>e = .returned (.bool (!t.toList.isEmpty))∧Below w.heap.size w w':=by
 have B1:Hid (Below w.heap.size w (w.alloc (.cells #[.string t,.string k] 183))):=Zh (Zb _ _);have X1:Hid ((w.alloc (.cells #[.string t,.string k] 183)).heap[w.heap.size]? = some (.cells #[.string t,.string k] 183 (0,0))):=Zh (heap_alloc_new w _);go_enter Tryz.func134,Tryz.ntmps134;go_upto_region 1 with fail;generalize w.alloc (.cells #[.string t,.string k] 183)=W at B1 X1⊢;have a0:W.cell? ⟨w.heap.size,0,none⟩=some (.string t):=cell_of_row W w.heap.size 0 _ _ (0,0) X1.out;obtain⟨et,het⟩:∃b,t.toList.isEmpty=b:=⟨_,rfl⟩;cases et
 all_goals
  go_wp2_with fail;go_ret;exact⟨by first|rfl|simp[het],B1.out⟩
theorem namedAt_at{w:World}{p m n s:Nat}{f:Lit→Option Value}(hc:w.cell? ⟨p,3,none⟩=some (.map (some m)))(hp:p<w.heap.size)(hm:MapIs Tryz.prog 183 w m n s f)(t k:ByteArray)(ht:t.size≤maxLen)(hk:k.size≤maxLen)(a:Int)(ha:Nmd (f (okL t k)) a):
 Calls Tryz.prog 135 #[.pointer (some ⟨p,0,none⟩),.agg #[.string t,.string k]] w fun e w'=>e = .returned (.int .i64 a)∧Below w.heap.size w w':=by
 have HC:=Zh hc;have HP:Hid (p<w.heap.size):=Zh hp;have HKEY:Hid (keyOf Tryz.prog 183 (.agg #[.string t,.string k])=some (okL t k)):=Zh (key_o ht hk);have B1:Hid (Below w.heap.size w (w.alloc (.cells #[.string t,.string k] 183))):=Zh (Zb _ _);have X1:Hid ((w.alloc (.cells #[.string t,.string k] 183)).heap[w.heap.size]? = some (.cells #[.string t,.string k] 183 (0,0))):=Zh (heap_alloc_new w _);have XL:=Zh (hm.alloc (.cells #[.string t,.string k] 183));clear hm hc hp;go_enter Tryz.func135,Tryz.ntmps135;go_upto_region 1 with fail;have c3:=(B1.out.cell (p:=⟨p,3,none⟩) HP.out).trans HC.out;generalize w.alloc (.cells #[.string t,.string k] 183)=W at B1 X1 XL c3⊢;have a0:W.cell? ⟨w.heap.size,0,none⟩=some (.string t):=cell_of_row W w.heap.size 0 _ _ (0,0) X1.out;have a1:W.cell? ⟨w.heap.size,1,none⟩=some (.string k):=cell_of_row W w.heap.size 1 _ _ (0,0) X1.out;rcases ha with⟨hn,rfl⟩|hs
 ·have hl:=(XL.out.kept (w':=W.drew) rfl).look_ok (Maps.Keyed.of_law lawO) Tryz.underlying197 (zeroInt _) HKEY.out;rw[hn] at hl;go_region_held3 (fun w'=>w'.cell? ⟨p,3,none⟩=some (.map (some m))∧w'.cell? ⟨w.heap.size,0,none⟩=some (.string t)∧w'.cell? ⟨w.heap.size,1,none⟩=some (.string k)) (go_keep) (fail);go_wp2_with fail;go_ret;exact⟨rfl,Below_drewN B1.out _⟩
 ·have hl:=(XL.out.kept (w':=W.drew) rfl).look_ok (Maps.Keyed.of_law lawO) Tryz.underlying197 (zeroInt _) HKEY.out;rw[hs] at hl;go_region_held3 (fun w'=>w'.cell? ⟨p,3,none⟩=some (.map (some m))∧w'.cell? ⟨w.heap.size,0,none⟩=some (.string t)∧w'.cell? ⟨w.heap.size,1,none⟩=some (.string k)) (go_keep) (fail);go_wp2_with fail;go_ret;exact⟨rfl,Below_drewN B1.out _⟩
theorem namedAt_any{w:World}{B p g h m:Nat}{A:Option Addr}{n c:Nat}{old:List Ol}{left:List Bool}{F s:Nat}{f:Lit→Option Value}{nl:List Int}(x:Lf w B p g h m A n c old left F s f nl)(t k:ByteArray)(ht:t.size≤maxLen)(hk:k.size≤maxLen)(a:Int)(ha:Nmd (f (okL t k)) a):
 Calls Tryz.prog 135 #[.pointer (some ⟨p,0,none⟩),.agg #[.string t,.string k]] w fun e w'=>e = .returned (.int .i64 a)∧Below w.heap.size w w':=namedAt_at x.c3 x.plt x.map t k ht hk a ha
def FrA(left:List Bool)(n F:Nat)(a:Int):Prop:=(F=n∧a = -1)∨(F<n∧a=(F:Int)∧left[F]? = some true)
theorem first_any{w:World}{B p g h m:Nat}{A:Option Addr}{n c:Nat}{old:List Ol}{left:List Bool}{F s:Nat}{f:Lit→Option Value}{nl:List Int}(x:Lf w B p g h m A n c old left F s f nl):
 Calls Tryz.prog 141 #[.pointer (some ⟨p,0,none⟩)] w fun e w'=>∃(F':Nat) (a:Int),e = .returned (.int .i64 a)∧FrA left n F' a∧F≤F'∧Lf w' B p g h m A n c old left F' s f nl∧But (fun k=>k=p) w w':=by
 have ST:Hid (Lf w B p g h m A n c old left F s f nl):=Zh x;have hsm:=x.small;have hnc:F≤n:=x.front;clear x;go_enter Tryz.func141,Tryz.ntmps141;go_wp2_with fail
 go_loopg [] (n-F) (fun q wr=>∃F':Nat,q=n-F'∧F≤F'∧F'≤n∧Hid (Lf wr B p g h m A n c old left F' s f nl)∧Hid (But (fun k=>k=p) w wr))
 case atStart=>exact⟨F,rfl,Zl,hnc,ST,Zh (But.refl _ _)⟩
 case round=>
  obtain⟨F',rfl,h1,h2,HX,HB⟩:=hrel;clear ST;have c0:=HX.out.c0;have c1:=HX.out.c1;have c2:=HX.out.c2;by_cases hlt:F'<n
  ·obtain⟨b,hb,g0,gf⟩:=HX.out.taken hlt;have HLB:=Zh hb;clear hb;cases b with
   |true=>
    go_upto_region 1 with fail;go_quiet (fail);go_upto_region 3 with fail;go_quiet (fail);go_wp2_with fail;go_ret;exact⟨F',_,rfl,.inr ⟨hlt,rfl,HLB.out⟩,h1,HX.out.drewN _,HB.out.drewN _⟩
   |false=>
    have hfz:=HX.out.fz 2;go_upto_region 1 with fail;go_quiet (fail);go_wp2_with fail
    go_roundg (n-(F'+1))
    case measure=>omega
    case rel=>exact⟨F'+1,rfl,by omega,by omega,Zh ((HX.out.drewN _).step hlt HLB.out),Zh (But.setCell (S:=fun k=>k=p) (p:=⟨p,2,none⟩) (HB.out.drewN _) (fun _=>rfl) _)⟩
  ·obtain rfl:F'=n:=by omega
   go_upto_region 1 with fail;go_quiet (fail);go_upto_region 3 with fail;go_quiet (fail);go_wp2_with fail;go_ret;exact⟨F',_,rfl,.inl ⟨rfl,rfl⟩,h1,(HX.out.drewN _).drewN _,(HB.out.drewN _).drewN _⟩
def LfE(w:World)(B p g h m:Nat)(A:Option Addr)(n c:Nat)(old:List Ol)(left:List Bool):Prop:=∃(F s:Nat) (f:Lit→Option Value) (nl:List Int),Lf w B p g h m A n c old left F s f nl
def TkV(w:World)(B p g h m:Nat)(A:Option Addr)(n c:Nat)(old:List Ol)(left:List Bool)(a:Int)(e:Ending)(w':World):Prop:=e = .returned (.int .i64 a)∧LfE w' B p g h m A n c old (leftM left a)∧But (W3 p g m) w w'
theorem leftM_nat{left:List Bool}{i:Nat}:leftM left (i:Int)=left.set i false:=by
 rw[leftM,if_pos (by omega)];rfl
theorem leftM_none{left:List Bool}:leftM left (-1)=left:=by
 rw[leftM,if_neg (by decide)]
def AtN(old:List Ol)(left:List Bool)(t k:ByteArray)(i:Nat):Prop:=∀(j:Nat) (h:j<old.length),j<i→isK t k old[j]=true→left[j]? = some false
theorem at_scan{pw:PW}{old:List Ol}{left:List Bool}(h1:pw.kind=1)(hk:pw.key.toList.isEmpty=false){i:Nat}(ha:AtN old left pw.tag pw.key i):
 (nxM old pw.tag pw.key i = -1→(scanM pw old left old.length).1 = -1)∧(∀(j:Nat) (h:j<old.length),nxM old pw.tag pw.key i=(j:Int)→i≤j∧isK pw.tag pw.key old[j]=true∧(left[j]? = some true→(scanM pw old left old.length).1=(j:Int))∧(left[j]? = some false→AtN old left pw.tag pw.key (j+1))):=by
 constructor
 ·intro hn;rcases nxM_spec old pw.tag pw.key _ i rfl with⟨_,h2⟩|⟨j,hj,e,_⟩
  ·refine scan_none_to (n:=old.length) (fun j hj hl o ho f=>?_) _ (Zl);rw[takes_key h1 hk];rw[List.getElem?_eq_getElem hj] at ho;injection ho with ho;subst ho;by_cases hji:j<i
   ·cases hx:isK pw.tag pw.key old[j] with
    |false=>rfl
    |true=>
     rw[ha j hj hji hx] at hl;cases hl
   ·exact h2 j hj (by omega)
  ·rw[hn] at e;omega
 ·intro j hj hn;rcases nxM_spec old pw.tag pw.key _ i rfl with⟨e,_⟩|⟨j',hj',e,hij,hk',hm⟩
  ·rw[hn] at e;omega
  ·rw[hn] at e;have e:j=j':=(by omega);subst e;refine⟨hij,hk',fun hl=>?_,fun hl q hq hqj hqk=>?_⟩
   ·refine scan_first (o:=old[j]) (fun q hq hl o ho f=>?_) hl (List.getElem?_eq_getElem hj) (fun f=>by rw[takes_key h1 hk];exact hk') hj;rw[takes_key h1 hk];have hql:q<old.length:=(by omega);rw[List.getElem?_eq_getElem hql] at ho;injection ho with ho;subst ho;by_cases hqi:q<i
    ·cases hx:isK pw.tag pw.key old[q] with
     |false=>rfl
     |true=>
      rw[ha q hql hqi hx] at hl;cases hl
    ·exact hm q hql (by omega) hq
   ·by_cases hqi:q<i
    ·exact ha q hq hqi hqk
    ·by_cases e:q=j
     ·subst e;exact hl
     ·rw[hm q hq (by omega) (by omega)] at hqk;cases hqk
theorem takeNamed_any{w:World}{B p g h m:Nat}{A:Option Addr}{n c:Nat}{old:List Ol}{left:List Bool}{F s:Nat}{f:Lit→Option Value}{nl:List Int}(x:Lf w B p g h m A n c old left F s f nl)
 (pw:PW) (h1:pw.kind=1) (ht:pw.tag.toList.isEmpty=false) (hk:pw.key.toList.isEmpty=false) (ht2:pw.tag.size≤maxLen) (hk2:pw.key.size≤maxLen):
 Calls Tryz.prog 136 #[.pointer (some ⟨p,0,none⟩),.agg #[.string pw.tag,.string pw.key]] w (TkV w B p g h m A n c old left (scanM pw old left old.length).1):=by
 have B1:Hid (Below w.heap.size w (w.alloc (.cells #[.string pw.tag,.string pw.key] 183))):=Zh (Zb _ _);have X1:Hid ((w.alloc (.cells #[.string pw.tag,.string pw.key] 183)).heap[w.heap.size]? = some (.cells #[.string pw.tag,.string pw.key] 183 (0,0))):=Zh (heap_alloc_new w _);have XL:=Zh (x.alloc (.cells #[.string pw.tag,.string pw.key] 183));have HPM:Hid (w.heap.size≠m):=Zh (by have:=x.map.lt;omega);have HLEN:=Zh x.len;have hsm:=x.small;clear x;have AS:Hid (∀i,AtN old left pw.tag pw.key i→_):=Zh (fun i ha=>at_scan h1 hk (i:=i) ha);have HT:=Zh ht;have HK:=Zh hk;have HKEY:Hid (keyOf Tryz.prog 183 (.agg #[.string pw.tag,.string pw.key])=some (okL pw.tag pw.key)):=Zh (key_o ht2 hk2);have HT2:=Zh ht2;have HK2:=Zh hk2;generalize (scanM pw old left old.length).1=res at AS⊢;generalize pw.tag=t at *;generalize pw.key=k at *;clear h1 ht hk ht2 hk2;go_enter Tryz.func136,Tryz.ntmps136;go_upto_region 1 with fail;generalize hb8:w.heap.size=b8 at X1 HPM B1⊢;rw[←hb8] at B1;generalize w.alloc (.cells #[.string t,.string k] 183)=W at B1 X1 XL⊢;have a0:W.cell? ⟨b8,0,none⟩=some (.string t):=cell_of_row W b8 0 _ _ (0,0) X1.out;have a1:W.cell? ⟨b8,1,none⟩=some (.string k):=cell_of_row W b8 1 _ _ (0,0) X1.out;obtain⟨i,hnm,hat⟩:=XL.out.nm t k HT2.out HK2.out HT.out HK.out;have HAT:=Zh hat;have CN:=Zh (namedAt_any XL.out t k HT2.out HK2.out _ hnm);have HNM:=Zh hnm;clear hat hnm;go_wp2_with fail;refine CN.out.mono ?_;rintro e w1 ⟨rfl,b1⟩;have ST:Hid (∃(i':Nat) (a:Int) (f':Lit→Option Value),n-i=n-i'∧Value.int .i64 (nxM old t k i) = .int .i64 a∧Hid (nxM old t k i'=a)∧Hid (AtN old left t k i')∧Hid (Nmd (f' (okL t k)) a)∧Hid (Lf w1 B p g h m A n c old left F s f' nl)∧Hid (But (fun q=>q=m) W w1)):=Zh ⟨i,_,f,rfl,rfl,Zh rfl,HAT,HNM,Zh (XL.out.on b1),Zh (But.of_below b1 _)⟩;clear b1 CN a0 a1 HAT HNM;go_wp2_with fail
 go_loopg [5] (n-i) (fun q s5 wr=>∃(i':Nat) (a:Int) (f':Lit→Option Value),q=n-i'∧s5 = .int .i64 a∧Hid (nxM old t k i'=a)∧Hid (AtN old left t k i')∧Hid (Nmd (f' (okL t k)) a)∧Hid (Lf wr B p g h m A n c old left F s f' nl)∧Hid (But (fun q=>q=m) W wr))
 case atStart=>exact ST.out
 case round=>
  obtain⟨i',a,f',rfl,rfl,HN,HAT,HNM,HX,HB⟩:=hrel;clear ST;obtain⟨AS1,AS2⟩:=AS.out i' HAT.out;have c1:=HX.out.c1;have c4:=HX.out.c4;have c3:=HX.out.c3;have hb8':=HB.out.block b8 (heap_lt X1.out) HPM.out;have HBL:=Zh (hb8'.trans X1.out);have a0:wr.cell? ⟨b8,0,none⟩=some (.string t):=cell_of_row wr b8 0 _ _ (0,0) HBL.out;have a1:wr.cell? ⟨b8,1,none⟩=some (.string k):=cell_of_row wr b8 1 _ _ (0,0) HBL.out;clear hb8';have HBW:Hid (But (W3 p g m) w wr):=Zh (((But.of_below B1.out _).trans (HB.out.mono (T:=W3 p g m) (fun q _ hq=> .inr (.inr hq))) (fun _ _ h=>h)));rcases nxM_spec old t k _ i' rfl with⟨e,_⟩|⟨j,hj,e,_⟩
  ·have e2:a = -1:=HN.out.symm.trans e;subst e2;have hres:=AS1 e;subst hres;clear AS1 AS2 e;go_wp2_with fail;go_ret;exact⟨rfl,⟨F,s,f',nl,by rw[leftM_none];exact HX.out⟩,HBW.out⟩
  ·have e2:a=(j:Int):=HN.out.symm.trans e;subst e2;obtain⟨hij,hjk,r1,r2⟩:=AS2 j hj e;have hjn:j<n:=(by have:=HLEN.out;omega);obtain⟨b,hb,g0,gf⟩:=HX.out.taken hjn;cases b with
   |true=>
    have hres:=r1 hb;subst hres;clear AS1 AS2 r1 r2 hb e hjk;go_wp2_with fail;go_ret;refine⟨rfl,⟨F,s,f',nl,?_⟩,?_⟩
    ·rw[leftM_nat];exact HX.out.take hjn
    ·exact But.setCell (S:=W3 p g m) (p:=⟨g,j,none⟩) HBW.out (fun _=> .inr (.inl rfl)) _
   |false=>
    have HR2:=Zh (r2 hb);obtain⟨rfl,rfl⟩:=isK_iff.1 hjk;have hnx:=HX.out.next hj HT.out HK.out;obtain⟨a',ha'⟩:∃a',nxM old old[j].tag old[j].key (j+1)=a':=⟨_,rfl⟩;have HA':=Zh ha';rw[ha'] at hnx;have hsz:=HX.out.sz;have hiss:(f' (okL old[j].tag old[j].key)).isSome=true:=by
     rcases HNM.out with⟨_,hz⟩|hz
     ·omega
     ·rw[hz];rfl
    have HIS:=Zh hiss;obtain⟨w6,run6,m6,g6⟩:=(HX.out.map.kept (w':=wr.drew) rfl).store (Maps.Keyed.of_law lawO) Tryz.underlying197 (by unfold maxLen;omega) (val:=.int .i64 a') HKEY.out (setL_put f' (okL old[j].tag old[j].key) (some (.int .i64 a')));have G6:=Zh (grown_drew g6);have L6:=Zh (HX.out.name HT2.out HK2.out HIS.out (j+1) HA'.out HR2.out m6 G6.out);have B6:Hid (But (fun q=>q=m) W w6):=Zh (HB.out.trans (T:=fun q=>q=m) (But.of_grown G6.out (fun q hq _=>(Option.some.inj hq).symm)) (fun _ _ h=>h));have hb6:=(B6.out.block b8 (heap_lt X1.out) HPM.out).trans X1.out;have K6:w6.cell? ⟨p,3,none⟩=some (.map (some m))∧w6.cell? ⟨b8,0,none⟩=some (.string old[j].tag)∧w6.cell? ⟨b8,1,none⟩=some (.string old[j].key):=⟨L6.out.c3,cell_of_row w6 b8 0 _ _ (0,0) hb6,cell_of_row w6 b8 1 _ _ (0,0) hb6⟩;have N6:Hid (Nmd (setL f' (okL old[j].tag old[j].key) (some (.int .i64 a')) (okL old[j].tag old[j].key)) a'):=Zh (.inr (setL_put f' _ _).1);clear AS1 AS2 r1 r2 hb e hjk g6 m6 hb6 ha' hiss;go_upto_region 4 with fail;go_region_held3 (fun w'=>w'.cell? ⟨p,3,none⟩=some (.map (some m))∧w'.cell? ⟨b8,0,none⟩=some (.string old[j].tag)∧w'.cell? ⟨b8,1,none⟩=some (.string old[j].key)) (first|go_keep|exact K6) (fail);go_wp2_with fail
    go_roundg (n-(j+1))
    case measure=>omega
    case rel=>exact⟨j+1,a',_,rfl,rfl,HA',HR2,N6,L6,B6⟩
end P16
end Go.Proofs.YtaklfomaibchnaaGreat
