/- A part of what the claimed theorem hangs on. No condition but those stated. -/
import Derived.Lib.ConvBytes
import Derived.Deep.DeepCutAuto
import Derived.Deep.CutBlock
import Derived.Deep.RegionLaw
import Derived.Lib.SliceRun
import Derived.Deep.RegionHeld3
import Derived.Test.YtaklfomaibchnaaGreatM1
set_option linter.unusedVariables false
set_option linter.unusedSimpArgs false
set_option maxRecDepth 100000
set_option maxHeartbeats 40000000
namespace Go.Proofs.YtaklfomaibchnaaGreat
namespace P12
open Go.RowKit Kd P4 P11
def bs(l:List UInt8):ByteArray:=⟨l.toArray⟩
theorem bs_eta(b:ByteArray):bs b.data.toList=b:=by
 apply ByteArray.ext;simp[bs]
theorem bs_size(l:List UInt8):(bs l).size=l.length:=by show l.toArray.size=_;simp
theorem bs_nil{b:ByteArray}(h:b.toList.isEmpty=true):b=bs []:=by
 rw[ByteArray.toList_eq,List.isEmpty_iff] at h;rw[←h,bs_eta]
def textsN(op:Int):Nat:=if op=1∨op=3∨op=5∨op=6 then 2 else if op=4 then 1 else 0
theorem nameB_len{l:List UInt8}(h:P1.nameB l=true):l.length≤60:=by
 cases l with
 |nil=>simp
 |cons c r=>
  simp only[P1.nameB,Bool.and_eq_true,decide_eq_true_eq] at h;simp;omega
theorem textB_len{l:List UInt8}(h:P1.textB l=true):l.length≤60:=by
 simp only[P1.textB,Bool.and_eq_true,decide_eq_true_eq] at h;omega
theorem voidB_len{l:List UInt8}(h:P1.voidB l=true):l.length≤60:=by
 simp only[P1.voidB,Bool.or_eq_true,beq_iff_eq] at h;rcases h with((rfl|rfl)|rfl)|rfl<;>decide
theorem len_size(b:ByteArray):b.data.toList.length=b.size:=by simp
theorem may_small{i:In}(h:mayI i=true):i.a.size≤60∧i.b.size≤60∧1≤i.op∧i.op≤8∧(textsN i.op=0→i.a=bs []∧i.b=bs [])∧(textsN i.op=1→i.b=bs []):=by
 obtain⟨op,a,b⟩:=i;unfold mayI at h;simp only at h⊢;have ea:=len_size a;have eb:=len_size b;have nil_size:∀{x:ByteArray},x.toList.isEmpty=true→x.size≤60:=fun {x} hx=>by rw[bs_nil hx,bs_size];simp
 by_cases h1:op=1
 ·subst h1;rw[if_pos rfl] at h;simp only[Bool.and_eq_true] at h;have:=nameB_len h.1.1;have:=textB_len h.2;refine⟨by omega,by omega,by omega,by omega,fun e=>by simp[textsN] at e,fun e=>by simp[textsN] at e⟩
 rw[if_neg h1] at h;by_cases h3:op=3
 ·subst h3;rw[if_pos rfl] at h;simp only[Bool.and_eq_true] at h;have:=voidB_len h.1;have:=textB_len h.2;refine⟨by omega,by omega,by omega,by omega,fun e=>by simp[textsN] at e,fun e=>by simp[textsN] at e⟩
 rw[if_neg h3] at h;by_cases h4:op=4
 ·subst h4;rw[if_pos rfl] at h;simp only[Bool.and_eq_true] at h;have:=textB_len h.1;have:=nil_size h.2;refine⟨by omega,by omega,by omega,by omega,fun e=>by simp[textsN] at e,fun _=>bs_nil h.2⟩
 rw[if_neg h4] at h;by_cases h5:op=5∨op=6
 ·rw[if_pos h5] at h;simp only[Bool.and_eq_true] at h;have:=nameB_len h.1;have:=textB_len h.2;refine⟨by omega,by omega,by omega,by omega,fun e=>?_,fun e=>?_⟩
  ·rcases h5 with rfl|rfl<;>simp[textsN] at e
  ·rcases h5 with rfl|rfl<;>simp[textsN] at e
 rw[if_neg h5] at h;by_cases h2:op=2∨op=7∨op=8
 ·rw[if_pos h2] at h;simp only[Bool.and_eq_true] at h;have:=nil_size h.1;have:=nil_size h.2;refine⟨by omega,by omega,by omega,by omega,fun _=>⟨bs_nil h.1,bs_nil h.2⟩,fun e=>?_⟩;rcases h2 with rfl|rfl|rfl<;>simp[textsN] at e
 rw[if_neg h2] at h;cases h
end P12
namespace P12
open Go.RowKit Go.ChangeShapes Go.WideShapes Go.Deep Kd P4 P11
theorem open_inss{H:Type}{enc:TypeId×Value→H}{w:World}{v:Value}{d:DataW H}{p:List MemPlace}{base:Nat}
 (hv:Value.okWide Tryz.prog w .any base 24 v) (h:DataW.Trod enc Tryz.prog w 0 (fun _=>true) true 24 v d p):
 ∃A n c l,v = .slice A n c∧l.length=n∧n≤c∧c≤maxLen∧(∀a∈l,a.a.size≤maxLen∧a.b.size≤maxLen)∧kX.Holds w w.heap.size A l:=
 kX.open_ (base:=base) (⟨0,⟨#[]⟩,⟨#[]⟩⟩:In) (fun a=>a.a.size≤maxLen∧a.b.size≤maxLen) cellsX (fun fuel cs x h hl=>open_ins_cells fuel cs x h hl) hv h
theorem nil_room{H:Type}{enc:TypeId×Value→H}{w:World}{t e:TypeId}(ht:Tryz.prog.underlying t=some (.slice e)){n c:Nat}{d:DataW H}{p:List MemPlace}
 (h:DataW.Trod enc Tryz.prog w 0 (fun _=>true) true t (.slice none n c) d p):c=0:=by
 obtain⟨fuel,hf⟩:=h;rcases DataW.trod_slice ht hf with⟨hcs,_⟩|⟨ad,len,cap,elems,rest,m,hfu,hcs,_⟩
 ·have e:n=0∧c=0:=(by simpa[Value.cells] using hcs);exact e.2
 ·exact absurd hcs (by simp[Value.cells])
end P12
namespace P4
open Go.RowKit Kd
theorem atP{w:World}{B:Nat}{A:Option Addr}{l:List (Sl Nat)}(h:kSP.Holds w B A l){k:Nat}(hk:k<l.length):
 ∃b o,A=some ⟨b,o,none⟩∧b<B∧w.cell? ⟨b,o+k*2,none⟩=some (.int .i64 l[k].id)∧w.cell? ⟨b,o+k*2+1,none⟩=some (.pointer (some ⟨l[k].x,0,none⟩)):=by
 obtain⟨b,o,rfl,hb,hc⟩:=h.at hk;exact⟨b,o,rfl,hb,hc 0 _ rfl,hc 1 _ rfl⟩
theorem keyP_any(s:Sl Nat)(t:Int)(w:World):Calls Tryz.prog 132 #[.agg #[.int .i64 s.id,(.pointer (some ⟨s.x,0,none⟩))],.int .i64 t] w fun e w'=>e = .returned (.int .i64 (cmpA s.id t))∧Below w.heap.size w w':=by
 go_enter Tryz.func132,Tryz.ntmps132;go_wp2_with fail;refine(compare_any _ _ _).mono ?_;rintro e w' ⟨rfl,rfl⟩;go_wp2;go_ret;exact⟨rfl,Zb _ _⟩
def SearchP(w:World)(l:List (Sl Nat))(t:Int)(e:Ending)(w':World):Prop:=
 e = .returned (.tuple #[.int .i64 (posA l t),.bool (hasA l t)])∧Below w.heap.size w w'
theorem searchP_any(l:List (Sl Nat))(N:Int)(A:Option Addr)(n c:Nat)(t:Int)(w:World)(hn:l.length=n)(hn2:n≤1000000)(hl:Asc N l)(H:kSP.Holds w w.heap.size A l):
 Calls Tryz.prog 131 #[.slice A n c,.int .i64 t,.func (.func 132) #[] #[]] w (SearchP w l t):=by
 have HH:=Zh H;have HN:=Zh hn;have HL:=Zh hl;clear H hn hl;go_enter Tryz.func131,Tryz.ntmps131;go_wp2_with fail;go_loopw [9,10] (fun i j wr=>∃a b:Nat,a≤b∧b≤n∧i = .int .i64 a∧j = .int .i64 b∧Hid (∀k (h:k<l.length),k<a→l[k].id<t)∧Hid (∀k (h:k<l.length),b≤k→t≤l[k].id)∧Hid (Below w.heap.size w wr)) (fun i j _=>(intOf j-intOf i).toNat)
 case atStart=>exact⟨0,n,by omega,by omega,rfl,rfl,Zh (fun k _ h=>by omega),Zh (fun k h hb=>by have:=HN.out;omega),Zh Ze⟩
 case round=>
  obtain⟨a,b,hab,hbn,rfl,rfl,HA,HB,HW⟩:=hrel;by_cases hlt:a<b
  ·obtain⟨h,hh⟩:∃h:Nat,((a:Int)+b)/2=h:=⟨(a+b)/2,by omega⟩;have ha:a≤h:=(by omega);have hb:h<b:=(by omega);have hn:h<n:=(by omega);have hl:h<l.length:=(by have:=HN.out;omega);obtain⟨g,o,rfl,hg,h0,h1⟩:=atP (HH.out.below HW.out (Zl)) hl;by_cases hc:l[h].id<t
   ·have hlss:cmpA l[h].id t<0:=(by unfold cmpA;rw[if_pos hc];decide);go_wp2_with fail;refine(keyP_any l[h] t _).mono ?_;rintro e w1 ⟨rfl,b1⟩;have B1:=Zh b1;clear b1;go_wp2_with fail;go_roundw
    case rel=>exact⟨h+1,b,by omega,by omega,by go_num,rfl,Zh (fun k hk hkh=>below_at HL.out hl hc hk (by omega)),HB,Zh (HW.out.trans (B1.out.mono HW.out.size))⟩
    case measure=>simp[intOf];omega
   ·have hge:¬cmpA l[h].id t<0:=(by unfold cmpA;rw[if_neg hc];split<;>decide);go_wp2_with fail;refine(keyP_any l[h] t _).mono ?_;rintro e w1 ⟨rfl,b1⟩;have B1:=Zh b1;clear b1;go_wp2_with fail;go_roundw
    case rel=>exact⟨a,h,by omega,by omega,rfl,rfl,HA,Zh (fun k hk hkh=>above_at HL.out hl (by omega) hk hkh),Zh (HW.out.trans (B1.out.mono HW.out.size))⟩
    case measure=>simp[intOf];omega
  ·obtain rfl:a=b:=by omega
   have hp:posA l t=a:=posA_of l t a (by have:=HN.out;omega) HA.out HB.out;have HP:=Zh hp;clear hp HA HB;by_cases ha:a<n
   ·have hl:a<l.length:=(by have:=HN.out;omega);obtain⟨g,o,rfl,hg,h0,h1⟩:=atP (HH.out.below HW.out (Zl)) hl;go_wp2_with fail;refine(keyP_any l[a] t _).mono ?_;rintro e w1 ⟨rfl,b1⟩;have B1:=Zh b1;clear b1;go_wp2_with fail;go_ret2;exact⟨ret_two HP.out (by unfold hasA;rw[HP.out,atB_at hl];exact cmp_zero _ _),HW.out.trans (B1.out.mono HW.out.size)⟩
   ·go_wp2_with fail;go_ret2;exact⟨ret_two HP.out (by unfold hasA;rw[HP.out,atB_none (by have:=HN.out;omega)]),HW.out⟩
structure ArP(w:World)(B p R:Nat)(n:Int)(v:Value)(l:List (Sl Nat)):Prop where
 blk:w.heap[p]? = some (.cells #[.int .i64 R,.int .i64 n,v] 165 (0,0))
 own:kSP.Own w B v l
 base:B≤p
 asc:Asc n l
 pos:0≤n
 len:l.length≤R
 room:R≤200
section
variable{w w':World}{B p R:Nat}{n:Int}{v:Value}{l:List (Sl Nat)}
theorem ArP.lt(h:ArP w B p R n v l):p<w.heap.size:=heap_lt h.blk
theorem ArP.c0(h:ArP w B p R n v l):w.cell? ⟨p,0,none⟩=some (.int .i64 R):=cell_of_row w p 0 _ _ (0,0) h.blk
theorem ArP.c1(h:ArP w B p R n v l):w.cell? ⟨p,1,none⟩=some (.int .i64 n):=cell_of_row w p 1 _ _ (0,0) h.blk
theorem ArP.c2(h:ArP w B p R n v l):w.cell? ⟨p,2,none⟩=some v:=cell_of_row w p 2 _ _ (0,0) h.blk
theorem ArP.frozen(h:ArP w B p R n v l)(i:Nat):w.frozen? ⟨p,i,none⟩=false:=by
 have:=h.blk;simp[World.frozen?,this]
theorem ArP.keep(h:ArP w B p R n v l)(hp:w'.heap[p]? = w.heap[p]?)(hv:∀g,v.ownBlock=some g→w'.heap[g]? = w.heap[g]?):ArP w' B p R n v l:=
 ⟨hp.trans h.blk,h.own.keep hv,h.base,h.asc,h.pos,h.len,h.room⟩
theorem ArP.but{S:Nat→Prop}(h:ArP w B p R n v l)(hb:But S w w')(hp:¬S p)(hv:∀g,v.ownBlock=some g→¬S g):ArP w' B p R n v l:=
 h.keep (hb.block p h.lt hp) (fun g hg=>hb.block g (h.own.lt hg).2 (hv g hg))
theorem ArP.below{C:Nat}(h:ArP w B p R n v l)(hb:Below C w w')(hC:w.heap.size≤C):ArP w' B p R n v l:=
 h.keep (hb.block p (by have:=h.lt;omega)) (fun g hg=>hb.block g (by have:=(h.own.lt hg).2;omega))
theorem ArP.drewN(h:ArP w B p R n v l)(k:Nat):ArP (w.drewN k) B p R n v l:=⟨h.blk,h.own,h.base,h.asc,h.pos,h.len,h.room⟩
theorem ArP.apart(h:ArP w B p R n v l):v.ownBlock≠some p:=fun e=>by
 obtain⟨c,hc⟩:=h.own.ty e;exact heap_ne hc h.blk (by decide) rfl
theorem ArP.other(h:ArP w B p R n v l){g:Nat}{c:Array Value}{t:TypeId}{f:Nat×Nat}(hg:w.heap[g]? = some (.cells c t f))(h1:t≠165)(h2:t≠179):¬Arm p v g:=by
 rintro(rfl|hv)
 ·exact heap_ne hg h.blk h1 rfl
 ·obtain⟨d,hd⟩:=h.own.ty hv;exact heap_ne hg hd h2 rfl
end
theorem findP_any(t:Int){B p R:Nat}{n:Int}{v:Value}{l:List (Sl Nat)}(w:World)(h:ArP w B p R n v l):
 Calls Tryz.prog 112 #[.pointer (some ⟨p,0,none⟩),.int .i64 t] w (SearchP w l t):=by
 obtain⟨A,k,c,rfl,hk,hkc,hcm,hz,hh⟩:=h.own.slice;have HK:=Zh hk;have HH:=Zh hh;have HA:=Zh h.asc;have c2:=h.c2;have hk2:k≤1000000:=(by have:=h.len;have:=h.room;omega);clear hk hh hz hcm hkc h;go_enter Tryz.func112,Tryz.ntmps112;go_wp2_with fail;refine(searchP_any l n A k c t w HK.out hk2 HA.out HH.out).mono ?_;rintro e w1 ⟨rfl,b1⟩;have B1:=Zh b1;clear b1;go_wp2_with fail;go_ret2;exact⟨rfl,B1.out⟩
theorem clearP(w:World)(ty:TypeId)(b o c:Nat)(hc:∀j,j<2→(w.cell? ⟨b,o+j,none⟩).isSome=true)(hf:∀j,j<2→w.frozen? ⟨b,o+j,none⟩=false):
 (Builtin.clear_ #[163] ty #[.slice (some ⟨b,o,none⟩) 1 c]).run Tryz.prog w = .ok (.tuple #[]) (w.setCells b o [.int .i64 0,(.pointer none)]):=by
 have hst:=run_storeCells_cells (P:=Tryz.prog) b o [.int .i64 0,(.pointer none)] 0 w (by simpa using hc) (by simpa using hf) (by simp[Value.oneCell']);simp only[Nat.add_zero] at hst;have hz:(Builtin.zeroCells (Value.agg #[.int .i64 0,(.pointer none)]).cells 1).toList=[.int .i64 0,(.pointer none)]:=by
  simp[Builtin.zeroCells,Value.cells,Array.range]
 simp[Builtin.clear_,run_underlying Tryz.underlying163,hz,hst]
theorem del_row{cur c1 c2:Array Value}{xs news zs:List Value}{a m s:Nat}(h:cur.toList.take ((a+1+m)*s)=xs)(hs:(a+1+m)*s≤cur.size)(hn:news=xs.drop ((a+1)*s))(hz:zs.length=s)
 (e1:c1.size=cur.size) (h1:∀k,k<cur.size→c1[k]? = if a*s≤k∧k<a*s+news.length then news[k-a*s]? else cur[k]?)
 (e2:c2.size=c1.size) (h2:∀k,k<c1.size→c2[k]? = if(a+m)*s≤k∧k<(a+m)*s+zs.length then zs[k-(a+m)*s]? else c1[k]?):
 c2.toList.take ((a+m)*s)=xs.take (a*s)++news:=by
 have d1:(a+1+m)*s=a*s+s+m*s:=(by rw[Nat.add_mul,Nat.add_mul,Nat.one_mul]);have d2:(a+m)*s=a*s+m*s:=Nat.add_mul _ _ _;have d3:(a+1)*s=a*s+s:=(by rw[Nat.add_mul,Nat.one_mul]);have hxl:xs.length=a*s+s+m*s:=(by rw[←h,List.length_take,Array.length_toList];omega);have hnl:news.length=m*s:=(by rw[hn,List.length_drop];omega);have hx:∀k,k<xs.length→xs[k]? = cur[k]?:=by
  intro k hk;rw[←h,List.getElem?_take,if_pos (by omega),Array.getElem?_toList]
 apply List.ext_getElem?;intro k;rw[List.getElem?_take];by_cases hk:k<(a+m)*s
 ·rw[if_pos hk,Array.getElem?_toList,h2 k (by omega),if_neg (by omega),h1 k (by omega)];by_cases hka:k<a*s
  ·rw[if_neg (by omega),List.getElem?_append_left (by rw[List.length_take];omega),List.getElem?_take,if_pos hka,hx k (by omega)]
  ·have hta:(xs.take (a*s)).length=a*s:=(by rw[List.length_take];omega);rw[if_pos (by omega),List.getElem?_append_right (by omega),hta]
 ·rw[if_neg hk,List.getElem?_eq_none];rw[List.length_append,List.length_take];omega
theorem deleteP_any(g i r c:Nat){B:Nat}{l:List (Sl Nat)}(w:World)(hl:l.length=i+1+r)(hl2:i+1+r≤1000000)(h:kSP.Own w B (.slice (some ⟨g,0,none⟩) (i+1+r) c) l):
 Calls Tryz.prog 154 #[.slice (some ⟨g,0,none⟩) (i+1+r) c,.int .i64 i,.int .i64 ((i:Int)+1)] w fun e w'=>
  e = .returned (.slice (some ⟨g,0,none⟩) (i+r) c)∧kSP.Own w' B (.slice (some ⟨g,0,none⟩) (i+r) c) (l.eraseIdx i)∧But (fun k=>k=g) w w':=by
 obtain⟨i0,hi0,hz0,hz1,hz2⟩:=info_parts infoSP;rcases h.form with⟨hv,_⟩|⟨g',c',cur,hv,_,hBg,hlt,hh,hnc,hcm,hcs,ht⟩
 ·cases hv
 injection hv with e1 e2 e3;injection e1 with e1;injection e1 with e1;subst e1;subst e3;clear e2;rw[hl] at hnc ht;have hcs:cur.size=c*2:=hcs;have ht:cur.toList.take ((i+1+r)*2)=kSP.cells l:=ht;obtain⟨news,hnews⟩:∃news,news=kSP.cells (l.drop (i+1)):=⟨_,rfl⟩;have hnl:news.length=r*2:=(by rw[hnews,Kind.cells_len,List.length_drop,hl];show(i+1+r-(i+1))*2=r*2;omega);have hnd:news=(kSP.cells l).drop ((i+1)*2):=(by rw[hnews,Kind.cells_drop];rfl);have cell:∀k,w.drew.cell? ⟨g,k,none⟩=cur[k]?:=fun k=>cell_of_row w.drew g k _ _ (0,0) hh
 have s1:Hid (news.length=r*2):=hnl;have s2:Hid (∀u∈news,u.oneCell'=true):=(by intro u hu;rw[hnews] at hu;exact Kind.cells_one _ _ u hu);have s3:Hid (∀t,t<news.length→(w.drew.cell? ⟨g,0+i*2+t,none⟩).isSome=true∧w.drew.frozen? ⟨g,0+i*2+t,none⟩=false):=by
  intro t htl;refine⟨by rw[cell,Array.getElem?_eq_getElem (by omega)];rfl,?_⟩;have hh':w.drew.heap[g]? = some (.cells cur kSP.e (0,0)):=hh;simp[World.frozen?,hh']
 have hsrc:∀t u,news[t]? = some u→w.drew.cell? ⟨g,(i+1)*2+t,none⟩=some u:=by
  intro t u hu;have htl:=(List.getElem?_eq_some_iff.1 hu).1;rw[cell,←hu,hnd,List.getElem?_drop,←ht,List.getElem?_take,if_pos (by omega),Array.getElem?_toList]
 obtain⟨A,hA,hS⟩:∃A:Addr,(if c=i+1 then(some (⟨g,0,none⟩:Addr)) else some ⟨g,(i+1)*2,none⟩)=some A∧Hid (∀t u,news[t]? = some u→w.drew.cell? (A.add t)=some u):=by
  by_cases hcj:c=i+1
  ·refine⟨⟨g,0,none⟩,if_pos hcj,fun t u hu=>?_⟩;have htl:=(List.getElem?_eq_some_iff.1 hu).1;omega
  ·refine⟨⟨g,(i+1)*2,none⟩,if_neg hcj,fun t u hu=>?_⟩;rw[Addr.add_lit];exact hsrc t u hu
 obtain⟨W1,hW1⟩:∃W1,W1=w.drew.setCells g (0+i*2) news:=⟨_,rfl⟩;have hh':w.drew.heap[g]? = some (.cells cur kSP.e (0,0)):=hh;obtain⟨c1,k1,k2,k3⟩:=heap_setCells g news (0+i*2) w.drew cur _ _ hh';rw[←hW1] at k1;have hcl:∀ty q,(Builtin.clear_ #[163] ty #[.slice (some ⟨g,(i+r)*2,none⟩) (i+1+r-(i+r)) q]).run Tryz.prog W1 = .ok (.tuple #[]) (W1.setCells g ((i+r)*2) [.int .i64 0,(.pointer none)]):=
  fun ty q=>by
   rw[show i+1+r-(i+r)=1 by omega];exact clearP W1 ty g ((i+r)*2) q (fun j hj=>by rw[cell_of_row W1 g _ _ _ (0,0) k1,Array.getElem?_eq_getElem (by omega)];rfl) (fun j _=>by simp[World.frozen?,k1])
 obtain⟨c2,m1,m2,m3⟩:=heap_setCells g [.int .i64 0,(.pointer none)] ((i+r)*2) W1 c1 _ _ k1;have hO:Hid (kSP.Own (W1.setCells g ((i+r)*2) [.int .i64 0,(.pointer none)]) B (.slice (some ⟨g,0,none⟩) (i+r) c) (l.eraseIdx i)):=by
  refine Kind.own_mk (by rw[List.length_eraseIdx_of_lt (by omega)];omega) hBg m1 (by omega) hcm (by rw[m2,k2];exact hcs) ?_;have hr:=del_row (s:=2) ht (by omega) hnd (zs:=[.int .i64 0,(.pointer none)]) rfl k2 (fun k hk=>by have:=k3 k hk;rwa[Nat.zero_add] at this) m2 m3;rw[show kSP.size=2 from rfl,hr,eraseIdx_eq,Kind.cells_append,Kind.cells_take,←hnews];rfl
 have hB:Hid (But (fun k=>k=g) w (W1.setCells g ((i+r)*2) [.int .i64 0,(.pointer none)])):=by
  rw[hW1];exact But.setCells (S:=fun k=>k=g) (But.setCells (S:=fun k=>k=g) (But.drew (But.refl _ w)) (fun _=>rfl) _ _) (fun _=>rfl) _ _
 have hW:Hid (W1=w.drew.setCells g (0+i*2) news):=hW1;have hic:i≤c:=(by omega);have hjc:i+1≤c:=(by omega);have hne:((i:Int)==(i:Int)+1)=false:=beq_eq_false_iff_ne.2 (by omega);unfold maxLen at hcm;have hb0:(0:Int)≤(i:Int)+1:=(by omega);have hb1:(i:Int)+1≤(i:Int)+1+(r:Int):=(by omega);clear hW1 hh hh' hcs ht hnews hnl hnd cell hsrc k1 k2 k3 m1 m2 m3 h hl hz0 hz2;go_enter Tryz.func154,Tryz.ntmps154;go_wp2_with fail
 go_region_law (refine step_append_room rfl (.tmp 22) (.tmp 25) 163 rfl 179 i0 2 Tryz.underlying163 hi0 hz1 g 0 i c (by simp[Act.eval,Act.put]) A r (c-(i+1)) news (by simp[Act.eval,Act.put]) s1.out hS.out s2.out (by omega) s3.out ?_;rw[←hW.out])
 go_wp2;go_ret;exact⟨rfl,hO.out,hB.out⟩
def NewP(w:World)(R:Nat)(e:Ending)(w':World):Prop:=
 ∃p:Nat,e = .returned (.tuple #[.pointer (some ⟨p,0,none⟩),.nilIface])∧ArP w' w.heap.size p R 0 (.slice none 0 0) []∧Below w.heap.size w w'
theorem newP_yes(r:Int)(w:World)(h1:1≤r)(h2:r≤200):Calls Tryz.prog 56 #[.int .i64 r] w (NewP w r.toNat):=by
 obtain⟨R,rfl⟩:=Int.eq_ofNat_of_zero_le (show 0≤r by omega);have h3:¬(R:Int)<1:=(by omega);have h4:¬200<(R:Int):=(by omega);have h5:R≤200:=(by omega);go_enter Tryz.func56,Tryz.ntmps56;go_wp2;go_ret2;exact⟨_,rfl,⟨heap_alloc_new w _,Kind.Own.nil _ _ _,Zl,asc_nil,by omega,by simp,h5⟩,Zb _ _⟩
section
variable{B p R:Nat}{n:Int}{v:Value}{l:List (Sl Nat)}
theorem liveP_any{m:Nat}(w:World)(hm:l.length=m)(h:ArP w B p R n v l):Calls Tryz.prog 88 #[.pointer (some ⟨p,0,none⟩)] w fun e w'=>e = .returned (.int .i64 m)∧w=w':=by
 obtain⟨A,k,c,rfl,hk,hkc,hcm,hz,hh⟩:=h.own.slice;obtain rfl:k=m:=by omega
 have c2:=h.c2;have hk2:k≤1000000:=(by have:=h.len;have:=h.room;omega);clear hh hz hcm hkc h hk hm;go_enter Tryz.func88,Tryz.ntmps88;go_wp2;go_ret;exact⟨rfl,rfl⟩
theorem nextP_any{m:Int}(w:World)(hn:n≤100000)(hm:m=n+1)(h:ArP w B p R n v l):Calls Tryz.prog 86 #[.pointer (some ⟨p,0,none⟩)] w fun e w'=>e = .returned (.int .i64 m)∧w=w':=by
 subst hm;have c1:=h.c1;have hp:=h.pos;clear h;go_enter Tryz.func86,Tryz.ntmps86;go_wp2_with fail;refine(load_any _ _ _ _ c1).mono ?_;rintro e w' ⟨rfl,rfl⟩;go_wp2;go_ret;exact⟨rfl,rfl⟩
theorem roomP_any(w:World)(h:ArP w B p R n v l):Calls Tryz.prog 87 #[.pointer (some ⟨p,0,none⟩)] w fun e w'=>e = .returned (.int .i64 R)∧w=w':=by
 have c0:=h.c0;clear h;go_enter Tryz.func87,Tryz.ntmps87;go_wp2;go_ret;exact⟨rfl,rfl⟩
def PutP(w:World)(B p R:Nat)(n:Int)(v:Value)(l:List (Sl Nat))(x:Nat)(e:Ending)(w':World):Prop:=
 e = .returned (.tuple #[.int .i64 (n+1),.nilIface])∧∃v',ArP w' B p R (n+1) v' (l++[⟨n+1,x⟩])∧But (Arm p v) w w'∧∀g,v'.ownBlock=some g→v.ownBlock=some g∨w.heap.size≤g
theorem putP_full(x:Nat)(w:World)(hl:l.length=R)(h:ArP w B p R n v l):Calls Tryz.prog 91 #[.pointer (some ⟨p,0,none⟩),(.pointer (some ⟨x,0,none⟩))] w fun e w'=>
 e = .returned (.tuple #[.int .i64 0,.iface 43 (.int .i64 6)])∧Below w.heap.size w w':=by
 obtain⟨A,k,c,rfl,hk,hkc,hcm,hz,hh⟩:=h.own.slice;have c0:=h.c0;have c2:=h.c2;have hk2:R≤k:=(by omega);have hR:R≤200:=h.room;clear hh hz hcm hkc h hk hl;go_enter Tryz.func91,Tryz.ntmps91;go_wp2_with fail;go_quiet (fail);go_wp2_with fail;go_ret2;exact⟨rfl,Below_drewN Ze _⟩
theorem putP_yes(x:Nat)(w:World)(hl:l.length<R)(hn:n≤100000)(h:ArP w B p R n v l):Calls Tryz.prog 91 #[.pointer (some ⟨p,0,none⟩),(.pointer (some ⟨x,0,none⟩))] w (PutP w B p R n v l x):=by
 obtain⟨A,k,c,rfl,hk,hkc,hcm,hz,hh⟩:=h.own.slice;have c0:=h.c0;have c1:=h.c1;have c2:=h.c2;have f1:=h.frozen 1;have H:=Zh h;have hp:=h.pos;have hk2:k<R:=(by omega);have hR:R≤200:=h.room;have hkl:=Zh hk;clear hh hz hcm hkc h hk hl;go_enter Tryz.func91,Tryz.ntmps91;go_wp2_with fail;go_quiet (fail);go_wp2_with fail;refine(add_any _ _ _ _ hp (by omega) (by exact c1) (by exact f1)).mono ?_;rintro e w1 ⟨rfl,hw1⟩;have blk1:w1.heap[p]? = some (.cells #[.int .i64 R,.int .i64 (n+1),.slice A k c] 165 (0,0)):=by
  rw[←hw1];exact heap_set (by exact H.out.blk) 1 _
 have BLK:=Zh blk1;have OWN:Hid (kSP.Own w1 B (.slice A k c) l):=Zh (H.out.own.keep fun g hg=>by
  rw[←hw1];exact Below.heap_setCell _ _ _ _ (by rintro rfl;exact H.out.apart hg))
 have BUT:Hid (But (Arm p (.slice A k c)) w w1):=Zh (by
  rw[←hw1];exact But.setCell (But.drewN (But.refl _ _) _) (fun _=> .inl rfl) _)
 have c2':w1.cell? ⟨p,2,none⟩=some (.slice A k c):=cell_of_row w1 p 2 _ _ (0,0) blk1;have hBw:B≤w1.heap.size:=(by have:=H.out.base;have:=H.out.lt;have:=BUT.out.size;omega);clear hw1 blk1 c0 c1 c2 f1;go_wp2_with (at_builtin;refine kSP.wp_app rfl _ _ rfl (v:=.slice A k c) (l:=l) (m:=[⟨n+1,x⟩]) (B:=B) rfl (OWN.out.alloc _) rfl rfl (fun e=>by cases e) (Kind.Holds.lit (heap_alloc_new _ _) rfl) (by have:=hkl.out;simp;omega) (by simp;omega) ?_;intro v' w2 hown hgrow hat;have blk2:Hid (w2.heap[p]? = some (.cells #[.int .i64 R,.int .i64 (n+1),.slice A k c] 165 (0,0))):=Zh ((hgrow.block p (heap_lt (heap_up BLK.out)) (fun e=>H.out.apart e.symm)).trans (heap_up BLK.out));have d2:w2.cell? ⟨p,2,none⟩=some (.slice A k c):=cell_of_row w2 p 2 _ _ (0,0) blk2.out;have g2:w2.frozen? ⟨p,2,none⟩=false:=(by have hb:=blk2.out;simp[World.frozen?,hb]);obtain⟨A2,k2,c2,rfl,_,_,_,_,_⟩:=hown.slice;have OWN2:=Zh hown;have GROW:=Zh hgrow;have HAT:Hid (∀g,(Value.slice A2 k2 c2).ownBlock=some g→(Value.slice A k c).ownBlock=some g∨w.heap.size≤g):=Zh (by intro g hg;rcases hat with e|e<;>rw[e] at hg;(exact .inl hg);(have:=BUT.out.size;simp at hg;exact .inr (by omega)));clear hown hgrow hat);go_ret2;have hap:Hid (∀g,Value.ownBlock (.slice A2 k2 c2)=some g→g≠p):=Zh fun g hg e=>by
  subst e;obtain⟨d,hd⟩:=OWN2.out.ty hg;exact heap_ne hd blk2.out (by decide) rfl
 refine⟨rfl,_,⟨heap_set blk2.out 2 _,OWN2.out.keep fun g hg=>Below.heap_setCell _ _ _ _ (hap.out g hg),H.out.base,asc_put H.out.asc hp x,by omega,by have:=hkl.out;simp;omega,hR⟩,?_,HAT.out⟩;exact But.setCell (But.trans (BUT.out.alloc _) (But.of_grown (S:=Arm p (.slice A k c)) GROW.out (fun g hg _=> .inr hg)) (fun _ _ h=>h)) (fun _=> .inl rfl) _
end
variable{B p R:Nat}{n:Int}{v:Value}{l:List (Sl Nat)}
theorem findP_at{t:Int}{k:Nat}{b:Bool}(w:World)(hk:posA l t=k)(hb:hasA l t=b)(h:ArP w B p R n v l):
 Calls Tryz.prog 112 #[.pointer (some ⟨p,0,none⟩),.int .i64 t] w fun e w'=>e = .returned (.tuple #[.int .i64 k,.bool b])∧Below w.heap.size w w':=by
 subst hk;subst hb;exact findP_any t w h
theorem getP_no(t:Int)(w:World)(ht:hasA l t=false)(h:ArP w B p R n v l):
 Calls Tryz.prog 72 #[.pointer (some ⟨p,0,none⟩),.int .i64 t] w fun e w'=>e = .returned (.tuple #[(.pointer none),.bool false])∧Below w.heap.size w w':=by
 have HT:=Zh ht;have H:=Zh h;clear ht h;go_enter Tryz.func72,Tryz.ntmps72;go_wp2_with fail;refine(findP_at w rfl HT.out H.out).mono ?_;rintro e w1 ⟨rfl,b1⟩;have B1:=Zh b1;clear b1;go_wp2_with fail;go_ret2;exact⟨rfl,B1.out⟩
theorem getP_at(t:Int)(k:Nat){x:Nat}(w:World)(hk:k<l.length)(ht:l[k].id=t)(hx:l[k].x=x)(h:ArP w B p R n v l):
 Calls Tryz.prog 72 #[.pointer (some ⟨p,0,none⟩),.int .i64 t] w fun e w'=>e = .returned (.tuple #[(.pointer (some ⟨x,0,none⟩)),.bool true])∧Below w.heap.size w w':=by
 subst hx;have HP:Hid (posA l t=k):=(by subst ht;exact posA_at h.asc hk);have HT:Hid (hasA l t=true):=(by subst ht;exact hasA_at h.asc hk);obtain⟨A,m,c,rfl,hm,hmc,hcm,hz,hh⟩:=h.own.slice;have H:=Zh h;have HH:=Zh hh;have hkm:k<m:=(by omega);have hm2:m≤200:=(by have:=h.len;have:=h.room;omega);clear ht h hh hz hm hcm;go_enter Tryz.func72,Tryz.ntmps72;go_wp2_with fail;refine(findP_at w HP.out HT.out H.out).mono ?_;rintro e w1 ⟨rfl,b1⟩;have B1:=Zh b1;have c2:=(H.out.below b1 (Zl)).c2;obtain⟨b,o,rfl,hb,h0,h1⟩:=atP (HH.out.on b1) hk;clear b1;go_wp2_with fail;go_ret2;exact⟨rfl,B1.out⟩
def DropP(w:World)(B p R:Nat)(n:Int)(v:Value)(l:List (Sl Nat))(t:Int)(e:Ending)(w':World):Prop:=
 e = .returned (.bool true)∧∃v',ArP w' B p R n v' (l.eraseIdx (posA l t))∧But (Arm p v) w w'∧v'.ownBlock=v.ownBlock
theorem dropP_yes(t:Int)(w:World)(ht:hasA l t=true)(h:ArP w B p R n v l):
 Calls Tryz.prog 129 #[.pointer (some ⟨p,0,none⟩),.int .i64 t] w (DropP w B p R n v l t):=by
 have HT:=Zh ht;have hk:posA l t<l.length:=atB_lt ht;obtain⟨k,hkp⟩:∃k,k=posA l t:=⟨_,rfl⟩;rw[←hkp] at hk;have HP:=Zh hkp.symm;rcases h.own.form with⟨_,rfl⟩|⟨g,c,cur,rfl,_⟩
 ·simp at hk
 obtain⟨r,hr⟩:∃r,l.length=k+1+r:=⟨l.length-(k+1),by omega⟩;rw[hr] at h⊢;have H:=Zh h;have HR:=Zh hr;have hm2:k+1+r≤200:=(by have:=h.len;have:=h.room;omega);clear ht h hr hkp hk;go_enter Tryz.func129,Tryz.ntmps129;go_wp2_with fail;refine(findP_at w HP.out HT.out H.out).mono ?_;rintro e w1 ⟨rfl,b1⟩;have B1:=Zh b1;have H1:=Zh (H.out.below b1 (Zl));have c2:=H1.out.c2;clear b1;go_wp2_with fail;refine(deleteP_any g k r c w1 HR.out (by omega) H1.out.own).mono ?_;rintro e w2 ⟨rfl,o2,b2⟩;have hgp:Hid (¬p=g):=Zh fun e=>H1.out.apart (by rw[e];rfl)
 have B2:=Zh b2;have O2:=Zh o2;have blk2:Hid (w2.heap[p]? = some (.cells #[.int .i64 R,.int .i64 n,.slice (some ⟨g,0,none⟩) (k+1+r) c] 165 (0,0))):=Zh ((b2.block p H1.out.lt hgp.out).trans H1.out.blk);have d2:w2.cell? ⟨p,2,none⟩=some (.slice (some ⟨g,0,none⟩) (k+1+r) c):=cell_of_row w2 p 2 _ _ (0,0) blk2.out;have f2:w2.frozen? ⟨p,2,none⟩=false:=(by have hb:=blk2.out;simp[World.frozen?,hb]);clear b2 o2 c2;go_wp2_with fail;go_ret;refine⟨rfl,_,⟨heap_set blk2.out 2 _,?_,H.out.base,asc_drop H.out.asc _,H.out.pos,?_,H.out.room⟩,?_,rfl⟩
 ·rw[HP.out];exact O2.out.keep fun g' hg=>Below.heap_setCell _ _ _ _ (by simp only[Value.ownBlock,Option.some.injEq] at hg;subst hg;exact fun e=>hgp.out e.symm)
 ·have:=H.out.len;have:=List.length_eraseIdx_le l (posA l t);omega
 ·exact But.setCell (But.trans (But.of_below B1.out (Arm p _)) B2.out (fun i _ hi=> .inr (by subst hi;rfl))) (fun _=> .inl rfl) _
variable{B p R:Nat}{n:Int}{v:Value}{l:List (Sl Nat)}
end P4
namespace P5
def it(P:Int→Int):Nat→Int→Int
 |0,y=>y
 |k+1,y=>it P k (P y)
theorem it_succ(P:Int→Int):∀(k:Nat) (y:Int),it P (k+1) y=P (it P k y)
 |0,_=>rfl
 |k+1,y=>it_succ P k (P y)
theorem it_add(P:Int→Int):∀(j k:Nat) (y:Int),it P (j+k) y=it P k (it P j y)
 |0,k,y=>by rw[Nat.zero_add];rfl
 |j+1,k,y=>by rw[show j+1+k=(j+k)+1 by omega];exact it_add P j k (P y)
structure Tr(H:Int→Prop)(P:Int→Int)(K:Int→List Int):Prop where
 z:¬H 0
 p0:∀y,¬H y→P y=0
 kid:∀x c,c∈K x→H x∧H c∧P c=x
 par:∀y,P y≠0→y∈K (P y)
 nod:∀x,(K x).Nodup
 acy:∀y,∃k,it P k y=0
theorem nodup_len:∀(xs L:List Int),xs.Nodup→(∀x∈xs,x∈L)→xs.length≤L.length
 |[],_,_,_=>by simp
 |x:: r,L,hn,hs=>by
  have hx:x∈L:=hs x (by simp);obtain⟨h1,h2⟩:=List.nodup_cons.1 hn;have:=nodup_len r (L.erase x) h2 (fun y hy=>(List.mem_erase_of_ne (by rintro rfl;exact h1 hy)).2 (hs y (by simp[hy])));rw[List.length_erase_of_mem hx] at this;have hp:0<L.length:=List.length_pos_of_mem hx;simp only[List.length_cons];omega
section
variable{H:Int→Prop}{P:Int→Int}{K:Int→List Int}
theorem Tr.zero(h:Tr H P K):P 0=0:=h.p0 0 h.z
theorem Tr.it0(h:Tr H P K):∀k,it P k 0=0
 |0=>rfl
 |k+1=>by show it P k (P 0)=0;rw[h.zero];exact h.it0 k
theorem Tr.it_ge(h:Tr H P K){k j:Nat}{y:Int}(hk:it P k y=0)(hj:k≤j):it P j y=0:=by
 obtain⟨d,rfl⟩:=Nat.exists_eq_add_of_le hj;rw[it_add,hk,h.it0]
theorem Tr.ne0(h:Tr H P K){y:Int}(hy:H y):y≠0:=fun e=>h.z (e▸hy)
theorem Tr.hpar(h:Tr H P K){y:Int}(hy:P y≠0):H (P y):=(h.kid _ _ (h.par y hy)).1
theorem Tr.h_of(h:Tr H P K){y:Int}(hy:P y≠0):H y:=(h.kid _ _ (h.par y hy)).2.1
theorem Tr.k0(h:Tr H P K){x:Int}(hx:¬H x):K x=[]:=by
 cases e:K x with
 |nil=>rfl
 |cons c r=>exact absurd (h.kid x c (by rw[e];simp)).1 hx
theorem Tr.h_it(h:Tr H P K){y:Int}(hy:H y):∀i,it P i y≠0→H (it P i y)
 |0,_=>hy
 |i+1,hi=>by rw[it_succ] at hi⊢;exact h.hpar hi
def Dep(P:Int→Int)(y:Int)(k:Nat):Prop:=it P k y=0∧∀i,i<k→it P i y≠0
theorem dep_of(P:Int→Int):∀(k:Nat) (y:Int),it P k y=0→∃j,j≤k∧Dep P y j
 |0,y,h=>⟨0,Zl,h,fun i hi=>absurd hi (by omega)⟩
 |k+1,y,h=>by
  by_cases hy:y=0
  ·exact⟨0,by omega,hy,fun i hi=>absurd hi (by omega)⟩
  ·obtain⟨j,hj,h1,h2⟩:=dep_of P k (P y) h;refine⟨j+1,by omega,h1,fun i hi=>?_⟩;cases i with
   |zero=>exact hy
   |succ i=>exact h2 i (by omega)
theorem Tr.dep(h:Tr H P K)(y:Int):∃k,Dep P y k:=by
 obtain⟨k,hk⟩:=h.acy y;obtain⟨j,_,hj⟩:=dep_of P k y hk;exact⟨j,hj⟩
theorem Tr.dep_inj(h:Tr H P K){y:Int}{k:Nat}(hd:Dep P y k){i j:Nat}(hij:i<j)(hj:j<k):it P i y≠it P j y:=by
 intro e;have e2:it P (i+(k-j)) y=it P (j+(k-j)) y:=(by rw[it_add,it_add,e]);rw[show j+(k-j)=k by omega,hd.1] at e2;exact hd.2 _ (by omega) e2
theorem Tr.dep_le(h:Tr H P K){L:List Int}(hL:∀y,H y→y∈L){y:Int}(hy:H y){k:Nat}(hd:Dep P y k):k≤L.length:=by
 have:=nodup_len ((List.range k).map fun i=>it P i y) L ?_ ?_
 ·simpa using this
 ·rw[List.Nodup,List.pairwise_map];refine List.Pairwise.imp_of_mem ?_ List.pairwise_lt_range;intro i j hi hj hij;exact h.dep_inj hd hij (List.mem_range.1 hj)
 ·intro x hx;obtain⟨i,hi,rfl⟩:=List.mem_map.1 hx;exact hL _ (h.h_it hy i (hd.2 i (List.mem_range.1 hi)))
theorem Dep.kid{c y:Int}{k:Nat}(hc:c≠0)(hp:P c=y)(hd:Dep P y k):Dep P c (k+1):=by
 subst hp;refine⟨hd.1,fun i hi=>?_⟩;cases i with
 |zero=>exact hc
 |succ i=>exact hd.2 i (by omega)
def setF{α:Type}(F:Int→α)(i:Int)(v:α)(y:Int):α:=if y=i then v else F y
theorem setF_same{α:Type}(F:Int→α)(i:Int)(v:α):setF F i v i=v:=by simp[setF]
theorem setF_ne{α:Type}(F:Int→α){i y:Int}(v:α)(h:y≠i):setF F i v y=F y:=by simp[setF,h]
theorem acy_to(P Q:Int→Int)(i:Int)(hi:∃k,it Q k i=0)(hQ:∀y,y≠i→Q y=P y):∀(k:Nat) (y:Int),it P k y=0→∃j,it Q j y=0
 |0,y,h=>⟨0,h⟩
 |k+1,y,h=>by
  by_cases e:y=i
  ·subst e;exact hi
  ·obtain⟨j,hj⟩:=acy_to P Q i hi hQ k (P y) h;exact⟨j+1,by show it Q j (Q y)=0;rw[hQ y e];exact hj⟩
theorem Tr.leave(h:Tr H P K)(i:Int):Tr H (setF P i 0) (setF K (P i) ((K (P i)).filter fun c=>decide (c≠i))):=by
 have key:∀x c,c∈setF K (P i) ((K (P i)).filter fun c=>decide (c≠i)) x↔c∈K x∧c≠i:=by
  intro x c;by_cases e:x=P i
  ·subst e;rw[setF_same];simp
  ·rw[setF_ne _ _ e];refine⟨fun hc=>⟨hc,?_⟩,fun hc=>hc.1⟩;rintro rfl;exact e (h.kid _ _ hc).2.2.symm
 refine⟨h.z,fun y hy=>?_,fun x c hc=>?_,fun y hy=>?_,fun x=>?_,fun y=>?_⟩
 ·by_cases e:y=i
  ·subst e;rw[setF_same]
  ·rw[setF_ne _ _ e];exact h.p0 y hy
 ·obtain⟨h1,h2⟩:=(key x c).1 hc;obtain⟨a,b,d⟩:=h.kid x c h1;exact⟨a,b,by rw[setF_ne _ _ h2];exact d⟩
 ·by_cases e:y=i
  ·subst e;rw[setF_same] at hy;exact absurd rfl hy
  ·rw[setF_ne _ _ e] at hy⊢;exact(key _ _).2 ⟨h.par y hy,e⟩
 ·by_cases e:x=P i
  ·subst e;rw[setF_same];exact(h.nod _).filter _
  ·rw[setF_ne _ _ e];exact h.nod x
 ·obtain⟨k,hk⟩:=h.acy y;refine acy_to P _ i ⟨1,?_⟩ (fun z hz=>setF_ne _ _ hz) k y hk;show setF P i 0 i=0;exact setF_same _ _ _
theorem Tr.come(h:Tr H P K){i p:Int}(hi:H i)(hp:H p)(h0:P i=0)(hno:∀j,it P j p≠i){L:List Int}(hL:∀c,c∈L↔c=i∨c∈K p)(hn:L.Nodup):Tr H (setF P i p) (setF K p L):=by
 have hp0:=h.ne0 hp;refine⟨h.z,fun y hy=>?_,fun x c hc=>?_,fun y hy=>?_,fun x=>?_,fun y=>?_⟩
 ·by_cases e:y=i
  ·subst e;exact absurd hi hy
  ·rw[setF_ne _ _ e];exact h.p0 y hy
 ·by_cases e:x=p
  ·subst e;rw[setF_same] at hc;rcases(hL c).1 hc with rfl|hc
   ·exact⟨hp,hi,setF_same _ _ _⟩
   ·obtain⟨a,b,d⟩:=h.kid x c hc;exact⟨a,b,by rw[setF_ne _ _ (by rintro rfl;exact hp0 (d.symm.trans h0))];exact d⟩
  ·rw[setF_ne _ _ e] at hc;obtain⟨a,b,d⟩:=h.kid x c hc;exact⟨a,b,by rw[setF_ne _ _ (by rintro rfl;rw[h0] at d;subst d;exact h.z a)];exact d⟩
 ·by_cases e:y=i
  ·subst e;rw[setF_same,setF_same];exact(hL y).2 (.inl rfl)
  ·rw[setF_ne _ _ e] at hy⊢;have:=h.par y hy;by_cases e2:P y=p
   ·rw[e2,setF_same];exact(hL y).2 (.inr (e2▸this))
   ·rw[setF_ne _ _ e2];exact this
 ·by_cases e:x=p
  ·subst e;rw[setF_same];exact hn
  ·rw[setF_ne _ _ e];exact h.nod x
 ·have same:∀j,it (setF P i p) j p=it P j p:=by
   intro j
   induction j with
   |zero=>rfl
   |succ j ih=>rw[it_succ,it_succ,ih,setF_ne _ _ (hno j)]
  obtain⟨kp,hkp⟩:=h.acy p;obtain⟨k,hk⟩:=h.acy y;refine acy_to P _ i ⟨kp+1,?_⟩ (fun z hz=>setF_ne _ _ hz) k y hk;show it (setF P i p) kp (setF P i p i)=0;rw[setF_same,same];exact hkp
theorem Tr.go(h:Tr H P K){i:Int}(S:Int→Prop)(h0:P i=0)(hk:∀x c,S x→c∈K x→S c)(hp:∀c,S c→c≠i→S (P c))
 {P':Int→Int} {K':Int→List Int} (hP1:∀y,S y→P' y=0) (hP2:∀y,¬S y→P' y=P y) (hK1:∀y,S y→K' y=[]) (hK2:∀y,¬S y→K' y=K y):Tr (fun y=>H y∧¬S y) P' K':=by
 have dec:∀y,S y∨¬S y:=fun y=>Classical.em _
 refine⟨fun h1=>h.z h1.1,fun y hy=>?_,fun x c hc=>?_,fun y hy=>?_,fun x=>?_,fun y=>?_⟩
 ·rcases dec y with e|e
  ·exact hP1 y e
  ·rw[hP2 y e];exact h.p0 y (fun hh=>hy ⟨hh,e⟩)
 ·rcases dec x with e|e
  ·rw[hK1 x e] at hc;simp at hc
  ·rw[hK2 x e] at hc;obtain⟨a,b,d⟩:=h.kid x c hc;have hs:¬S c:=by
    intro hs;by_cases e2:c=i
    ·subst e2;rw[h0] at d;subst d;exact h.z a
    ·exact e (d▸hp c hs e2)
   exact⟨⟨a,e⟩,⟨b,hs⟩,by rw[hP2 c hs];exact d⟩
 ·rcases dec y with e|e
  ·exact absurd (hP1 y e) hy
  ·rw[hP2 y e] at hy⊢;have hm:=h.par y hy;have:¬S (P y):=fun hs=>e (hk _ _ hs hm)
   rw[hK2 _ this];exact hm
 ·rcases dec x with e|e
  ·rw[hK1 x e];exact List.nodup_nil
  ·rw[hK2 x e];exact h.nod x
 ·have:∀(k:Nat) (y:Int),it P k y=0→∃j,it P' j y=0:=by
   intro k
   induction k with
   |zero=>exact fun y hy=>⟨0,hy⟩
   |succ k ih=>
    intro y hy;rcases dec y with e|e
    ·exact⟨1,hP1 y e⟩
    ·obtain⟨j,hj⟩:=ih (P y) hy;exact⟨j+1,by show it P' j (P' y)=0;rw[hP2 y e];exact hj⟩
  obtain⟨k,hk'⟩:=h.acy y;exact this k y hk'
def sub(K:Int→List Int):Nat→Int→List Int
 |0,_=>[]
 |f+1,x=>x:: (K x).flatMap (sub K f)
def Hb(K:Int→List Int):Nat→Int→Prop
 |0,_=>False
 |f+1,x=>∀c∈K x,Hb K f c
theorem sub_self{f:Nat}{x:Int}(h:Hb K f x):x∈sub K f x:=by
 cases f with
 |zero=>exact h.elim
 |succ f=>simp[sub]
theorem sub_kid:∀(f:Nat) (x y c:Int),Hb K f x→y∈sub K f x→c∈K y→c∈sub K f x
 |0,_,_,_,h,_,_=>h.elim
 |f+1,x,y,c,h,hy,hc=>by
  simp only[sub,List.mem_cons,List.mem_flatMap] at hy⊢;rcases hy with rfl|⟨d,hd,hy⟩
  ·exact .inr ⟨c,hc,sub_self (h c hc)⟩
  ·exact .inr ⟨d,hd,sub_kid f d y c (h d hd) hy hc⟩
theorem Tr.sub_par(h:Tr H P K):∀(f:Nat) (x y:Int),Hb K f x→y∈sub K f x→y≠x→P y∈sub K f x
 |0,_,_,hb,_,_=>hb.elim
 |f+1,x,y,hb,hy,hne=>by
  simp only[sub,List.mem_cons,List.mem_flatMap] at hy⊢;rcases hy with rfl|⟨d,hd,hy⟩
  ·exact absurd rfl hne
  ·by_cases e:y=d
   ·subst e;exact .inl (h.kid _ _ hd).2.2
   ·exact .inr ⟨d,hd,h.sub_par f d y (hb d hd) hy e⟩
theorem Tr.sub_it(h:Tr H P K):∀(f:Nat) (x y:Int),y∈sub K f x→∃j,it P j y=x
 |0,_,_,hy=>by simp[sub] at hy
 |f+1,x,y,hy=>by
  simp only[sub,List.mem_cons,List.mem_flatMap] at hy;rcases hy with rfl|⟨d,hd,hy⟩
  ·exact⟨0,rfl⟩
  ·obtain⟨j,hj⟩:=h.sub_it f d y hy;exact⟨j+1,by rw[it_succ,hj];exact(h.kid _ _ hd).2.2⟩
theorem Tr.sub_h(h:Tr H P K):∀(f:Nat) (x y:Int),H x→y∈sub K f x→H y
 |0,_,_,_,hy=>by simp[sub] at hy
 |f+1,x,y,hx,hy=>by
  simp only[sub,List.mem_cons,List.mem_flatMap] at hy;rcases hy with rfl|⟨d,hd,hy⟩
  ·exact hx
  ·exact h.sub_h f d y (h.kid _ _ hd).2.1 hy
theorem Tr.no_cycle(h:Tr H P K){x:Int}(hx:x≠0){j:Nat}(hj:it P (j+1) x=x):False:=by
 have:∀m,it P (m*(j+1)) x=x:=by
  intro m
  induction m with
  |zero=>rw[Nat.zero_mul];rfl
  |succ m ih=>rw[Nat.succ_mul,it_add,ih,hj]
 obtain⟨k,hk⟩:=h.acy x;have h2:=h.it_ge (j:=k*(j+1)) hk (Nat.le_mul_of_pos_right _ (by omega));rw[this] at h2;exact hx h2
theorem Tr.sub_apart(h:Tr H P K){x c d e:Int}{i j:Nat}(hc:c∈K x)(hd:d∈K x)(hi:it P i e=c)(hj:it P j e=d)(hij:i<j):False:=by
 obtain⟨m,rfl⟩:∃m,j=i+(m+1):=⟨j-i-1,by omega⟩;rw[it_add,hi] at hj;obtain⟨hx,hcH,hcx⟩:=h.kid _ _ hc;obtain⟨_,_,hdx⟩:=h.kid _ _ hd;have h1:it P (m+1) x=x:=by
  have:it P (m+1+1) c=x:=(by rw[it_succ,hj,hdx]);have h2:it P (1+(m+1)) c=x:=(by rw[Nat.add_comm];exact this);rw[it_add] at h2;have h3:it P 1 c=x:=hcx;rwa[h3] at h2
 exact h.no_cycle (h.ne0 hx) h1
theorem Tr.sub_nodup(h:Tr H P K):∀(f:Nat) (x:Int),H x→(sub K f x).Nodup
 |0,_,_=>List.nodup_nil
 |f+1,x,hx=>by
  rw[sub,List.nodup_cons];refine⟨fun hm=>?_,?_⟩
  ·obtain⟨c,hc,hm⟩:=List.mem_flatMap.1 hm;obtain⟨j,hj⟩:=h.sub_it f c x hm;exact h.no_cycle (h.ne0 hx) (j:=j) (by rw[it_succ,hj];exact(h.kid _ _ hc).2.2)
  ·have:∀L:List Int,(∀c∈L,c∈K x)→L.Nodup→(L.flatMap (sub K f)).Nodup:=by
    intro L
    induction L with
    |nil=>intro _ _;exact List.nodup_nil
    |cons c r ih=>
     intro hL hn;obtain⟨h1,h2⟩:=List.nodup_cons.1 hn;rw[List.flatMap_cons,List.nodup_append];refine⟨h.sub_nodup f c (h.kid _ _ (hL c (by simp))).2.1,ih (fun d hd=>hL d (by simp[hd])) h2,fun a ha b hb=>?_⟩;rintro rfl;obtain⟨d,hd,hb⟩:=List.mem_flatMap.1 hb;obtain⟨i,hi⟩:=h.sub_it f c a ha;obtain⟨j,hj⟩:=h.sub_it f d a hb;rcases Nat.lt_trichotomy i j with hl|hl|hl
     ·exact h.sub_apart (hL c (by simp)) (hL d (by simp[hd])) hi hj hl
     ·subst hl;rw[hi] at hj;subst hj;exact h1 hd
     ·exact h.sub_apart (hL d (by simp[hd])) (hL c (by simp)) hj hi hl
   exact this _ (fun c hc=>hc) (h.nod x)
theorem Tr.hb(h:Tr H P K){L:List Int}(hL:∀y,H y→y∈L):∀(f:Nat) (y:Int) (k:Nat),H y→Dep P y k→L.length<f+k→Hb K f y
 |0,y,k,hy,hd,hf=>by have:=h.dep_le hL hy hd;omega
 |f+1,y,k,hy,hd,hf=>fun c hc=>by
  obtain⟨_,hcH,hcp⟩:=h.kid _ _ hc;exact h.hb hL f c (k+1) hcH (hd.kid (h.ne0 hcH) hcp) (by omega)
theorem Tr.hb_all(h:Tr H P K){L:List Int}(hL:∀y,H y→y∈L){y:Int}(hy:H y):Hb K (L.length+1) y:=by
 obtain⟨k,hk⟩:=h.dep y;exact h.hb hL _ y k hy hk (by omega)
def up(H:Int→Bool)(P:Int→Int):Nat→Int→List Int
 |0,_=>[]
 |f+1,x=>if H x=true then x:: up H P f (P x) else[]
end
section
variable{H:Int→Bool}{P:Int→Int}{K:Int→List Int}
theorem up_it:∀(f:Nat) (a b:Int),b∈up H P f a→∃j,it P j a=b∧H b=true
 |0,_,_,h=>by simp[up] at h
 |f+1,a,b,h=>by
  rw[up] at h;split at h
  ·rename_i ha;rcases List.mem_cons.1 h with rfl|h
   ·exact⟨0,rfl,ha⟩
   ·obtain⟨j,hj,hb⟩:=up_it f (P a) b h;exact⟨j+1,hj,hb⟩
  ·simp at h
theorem Tr.it_up(h:Tr (fun y=>H y=true) P K):∀(f:Nat) (a:Int) (k j:Nat),H a=true→Dep P a k→j<k→j<f→it P j a∈up H P f a
 |0,_,_,_,_,_,_,hf=>absurd hf (by omega)
 |f+1,a,k,j,ha,hd,hj,hf=>by
  rw[up,if_pos ha];cases j with
  |zero=>exact List.mem_cons.2 (.inl rfl)
  |succ j=>
   have hp:P a≠0:=hd.2 1 (by omega);cases k with
   |zero=>omega
   |succ k=>
    exact List.mem_cons.2 (.inr (h.it_up f (P a) k j (h.hpar hp) ⟨hd.1,fun i hi=>hd.2 (i+1) (by omega)⟩ (by omega) (by omega)))
theorem Tr.not_up(h:Tr (fun y=>H y=true) P K){L:List Int}(hL:∀y,H y=true→y∈L){a b:Int}(ha:H a=true)(hb:H b=true)(hn:b∉up H P (L.length+1) a)(j:Nat):it P j a≠b:=by
 intro e;obtain⟨k,hk⟩:=h.dep a;have hkl:=h.dep_le hL ha hk;by_cases hj:j<k
 ·exact hn (e▸h.it_up _ a k j ha hk hj (by omega))
 ·have:=h.it_ge hk.1 (by omega:k≤j);rw[this] at e;subst e;exact h.z hb
end
structure Nd where
 id:Int
 par:Int
 tag:ByteArray
 txt:ByteArray
 key:ByteArray
 attrs:List P3.At
 kids:List Int
 note:Int
structure D where
 l:List Nd
 n:Int
 R:Nat
 foc:Int
structure Rc where
 op:Int
 id:Int
 par:Int
 bef:Int
 tag:ByteArray
 txt:ByteArray
 key:ByteArray
 attrs:List P3.At
def find(l:List Nd)(y:Int):Option Nd:=l.find? fun x=>decide (x.id=y)
def hasL(l:List Nd)(y:Int):Bool:=(find l y).isSome
def parOf(l:List Nd)(y:Int):Int:=match find l y with
 |some x=>x.par
 |none=>0
def kidsOf(l:List Nd)(y:Int):List Int:=match find l y with
 |some x=>x.kids
 |none=>[]
def upd(l:List Nd)(i:Int)(f:Nd→Nd):List Nd:=l.map fun x=>if x.id=i then f x else x
def idsOf(l:List Nd):List Int:=l.map (·.id)
theorem find_some{l:List Nd}{y:Int}{x:Nd}(h:find l y=some x):x∈l∧x.id=y:=by
 unfold find at h;exact⟨List.mem_of_find?_eq_some h,by simpa using List.find?_some h⟩
theorem has_iff{l:List Nd}{y:Int}:hasL l y=true↔∃x∈l,x.id=y:=by
 unfold hasL find;rw[List.find?_isSome];simp
theorem has_no{l:List Nd}{y:Int}:hasL l y=false↔∀x∈l,x.id≠y:=by
 rw[←Bool.not_eq_true,has_iff];exact⟨fun h x hx e=>h ⟨x,hx,e⟩,fun h ⟨x,hx,e⟩=>h x hx e⟩
theorem has_ids{l:List Nd}{y:Int}:hasL l y=true↔y∈idsOf l:=by
 rw[has_iff];simp[idsOf]
def Asc(l:List Nd):Prop:=l.Pairwise fun a b=>a.id<b.id
theorem Asc.find:∀{l:List Nd},Asc l→∀{x:Nd},x∈l→P5.find l x.id=some x
 |[],_,_,hx=>absurd hx (by simp)
 |a:: r,h,x,hx=>by
  obtain⟨h1,h2⟩:=List.pairwise_cons.1 h;unfold P5.find;rw[List.find?_cons];by_cases e:a.id=x.id
  ·rw[decide_eq_true e];rcases List.mem_cons.1 hx with rfl|hx
   ·rfl
   ·have:=h1 x hx;omega
  ·rw[decide_eq_false e];rcases List.mem_cons.1 hx with rfl|hx
   ·exact absurd rfl e
   ·exact Asc.find h2 hx
theorem Asc.inj{l:List Nd}(h:Asc l){i j:Nat}(hi:i<l.length)(hj:j<l.length)(e:l[i].id=l[j].id):i=j:=by
 have key:=List.pairwise_iff_getElem.1 h;rcases Nat.lt_trichotomy i j with hl|hl|hl
 ·have:=key i j hi hj hl;omega
 ·exact hl
 ·have:=key j i hj hi hl;omega
theorem find_upd(l:List Nd)(i:Int)(f:Nd→Nd)(hf:∀x,(f x).id=x.id)(y:Int):find (upd l i f) y=(find l y).map fun x=>if x.id=i then f x else x:=by
 unfold find upd;rw[List.find?_map];congr 1;apply congrArg (fun p=>List.find? p l);funext x;simp only[Function.comp];split
 ·rw[hf]
 ·rfl
theorem upd_ids(l:List Nd)(i:Int)(f:Nd→Nd)(hf:∀x,(f x).id=x.id):idsOf (upd l i f)=idsOf l:=by
 unfold idsOf upd;rw[List.map_map];apply List.map_congr_left;intro x _;simp only[Function.comp];split
 ·exact hf x
 ·rfl
theorem mem_upd{l:List Nd}{i:Int}{f:Nd→Nd}{z:Nd}:z∈upd l i f↔∃x∈l,z=if x.id=i then f x else x:=by
 unfold upd;rw[List.mem_map];exact⟨fun⟨x,hx,e⟩=>⟨x,hx,e.symm⟩,fun⟨x,hx,e⟩=>⟨x,hx,e.symm⟩⟩
theorem asc_of_ids{l m:List Nd}(h:Asc l)(e:idsOf m=idsOf l):Asc m:=by
 have h1:(idsOf l).Pairwise (· < ·):=(by unfold idsOf;rw[List.pairwise_map];exact h);rw[←e] at h1;unfold idsOf at h1;rwa[List.pairwise_map] at h1
theorem Asc.set_upd{l:List Nd}(h:Asc l){k:Nat}(hk:k<l.length)(f:Nd→Nd):l.set k (f l[k])=upd l l[k].id f:=by
 apply List.ext_getElem
 ·simp[upd]
 ·intro j h1 h2;have hj:j<l.length:=(by simpa using h1);simp only[upd,List.getElem_map,List.getElem_set];by_cases e:k=j
  ·subst e;simp
  ·rw[if_neg e,if_neg (fun e2=>e (h.inj hk hj e2.symm))]
theorem has_upd(l:List Nd)(i:Int)(f:Nd→Nd)(hf:∀x,(f x).id=x.id)(y:Int):hasL (upd l i f) y=hasL l y:=by
 unfold hasL;rw[find_upd l i f hf];simp
theorem par_upd{l:List Nd}{i:Int}{f:Nd→Nd}(hf:∀x,(f x).id=x.id){g:Nd→Int}(hg:∀x,(f x).par=g x)(y:Int):
 parOf (upd l i f) y=match find l y with
  |some x=>if y=i then g x else x.par
  |none=>0:=by
 unfold parOf;rw[find_upd l i f hf];cases e:find l y with
 |none=>rfl
 |some x=>
  obtain⟨_,hx⟩:=find_some e;subst hx;simp only[Option.map_some];split
  ·exact hg x
  ·rfl
theorem kids_upd{l:List Nd}{i:Int}{f:Nd→Nd}(hf:∀x,(f x).id=x.id){g:Nd→List Int}(hg:∀x,(f x).kids=g x)(y:Int):
 kidsOf (upd l i f) y=match find l y with
  |some x=>if y=i then g x else x.kids
  |none=>[]:=by
 unfold kidsOf;rw[find_upd l i f hf];cases e:find l y with
 |none=>rfl
 |some x=>
  obtain⟨_,hx⟩:=find_some e;subst hx;simp only[Option.map_some];split
  ·exact hg x
  ·rfl
theorem find_filter(l:List Nd)(q:Int→Bool)(y:Int):find (l.filter fun x=>q x.id) y=if q y=true then find l y else none:=by
 unfold find;rw[List.find?_filter];by_cases h:q y=true
 ·rw[if_pos h];apply congrArg (fun p=>List.find? p l);funext x;by_cases e:x.id=y
  ·subst e;simp[h]
  ·simp[e]
 ·rw[if_neg h,List.find?_eq_none];intro x _;by_cases e:x.id=y
  ·subst e;simp[h]
  ·simp[e]
theorem find_new{l:List Nd}{x:Nd}(hx:hasL l x.id=false)(y:Int):find (l++[x]) y=if y=x.id then some x else find l y:=by
 unfold find;rw[List.find?_append];by_cases e:y=x.id
 ·subst e;rw[if_pos rfl];have:List.find? (fun z=>decide (z.id=x.id)) l=none:=by
   have:=has_no.1 hx;rw[List.find?_eq_none];simpa using this
  rw[this];simp
 ·rw[if_neg e];cases List.find? (fun z=>decide (z.id=y)) l with
  |some z=>rfl
  |none=>simp[Ne.symm e]
theorem kids_at{l:List Nd}{y:Int}{x:Nd}(h:find l y=some x):kidsOf l y=x.kids:=by unfold kidsOf;rw[h]
theorem has_find{l:List Nd}{y:Int}(h:hasL l y=true):∃x,find l y=some x:=Option.isSome_iff_exists.1 h
theorem find_has{l:List Nd}{y:Int}{x:Nd}(h:find l y=some x):hasL l y=true:=by unfold hasL;rw[h];rfl
def withPar(p:Int)(x:Nd):Nd:={x with par:=p}
def withKids(f:List Int→List Int)(x:Nd):Nd:={x with kids:=f x.kids}
def withAttrs(a:List P3.At)(x:Nd):Nd:={x with attrs:=a}
def withTxt(t:ByteArray)(x:Nd):Nd:={x with txt:=t}
def less(i:Int)(l:List Int):List Int:=l.filter fun c=>decide (c≠i)
def leaveL(l:List Nd)(i:Int):List Nd:=if parOf l i=0 then l else upd (upd l (parOf l i) (withKids (less i))) i (withPar 0)
def insA(i b:Int)(l:List Int):List Int:=if b=0 then l++[i] else l.flatMap fun c=>if c=b then[i,c] else[c]
def putL(l:List Nd)(i p b:Int):List Nd:=upd (upd (leaveL l i) p (withKids (insA i b))) i (withPar p)
def below(l:List Nd)(i:Int):List Int:=sub (kidsOf l) (l.length+1) i
def outA(s:List Int)(l:List Nd):List Nd:=l.filter fun x=>!decide (x.id∈s)
def goneL(l:List Nd)(i:Int):List Nd:=outA (below (leaveL l i) i) (leaveL l i)
def aboveL(l:List Nd)(a:Int):List Int:=up (hasL l) (parOf l) (l.length+1) a
def inside(l:List Nd)(a b:Int):Bool:=decide (b∈aboveL l a)
def mayMake(tag txt key:ByteArray):Bool:=if tag.toList=[] then P1.textB txt.data.toList&&decide (key.toList=[]) else P1.nameB tag.data.toList&&P1.textB key.data.toList&&decide (txt.toList=[])
def newN(i:Int)(tag txt key:ByteArray):Nd:=⟨i,0,tag,txt,key,[],[],0⟩
def makeD(d:D)(r:Rc):Int×D:=
 if r.id≠d.n+1∨mayMake r.tag r.txt r.key=false then(1,d)
 else if d.R≤d.l.length then(6,d)
 else(0,{d with l:=d.l++[newN r.id r.tag r.txt r.key],n:=d.n+1})
def tagOf(l:List Nd)(y:Int):ByteArray:=match find l y with
 |some x=>x.tag
 |none=>⟨#[]⟩
def noKids(t:ByteArray):Bool:=decide (t.toList=[]) || P1.voidB t.data.toList
def putErr(l:List Nd)(i p b:Int):Int:=
 if hasL l i=false∨hasL l p=false∨b≠0∧hasL l b=false then 2
 else if i=1 then 4
 else if noKids (tagOf l p)=true then 3
 else if b≠0∧(parOf l b≠p∨b=i) then 1
 else if inside l p i=true then 5
 else 0
def putD(d:D)(i p b:Int):Int×D:=if putErr d.l i p b=0 then(0,{d with l:=putL d.l i p b}) else(putErr d.l i p b,d)
def goneD(d:D)(i:Int):Int×D:=
 if hasL d.l i=false then(2,d)
 else if i=1 then(4,d)
 else(0,{d with l:=goneL d.l i,foc:=if d.foc∈below (leaveL d.l i) i then 0 else d.foc})
def attrsD(d:D)(i:Int)(a:List P3.At):Int×D:=
 if hasL d.l i=false then(2,d)
 else if(tagOf d.l i).toList=[] then(3,d)
 else if P3.mayA a=false then(1,d)
 else(0,{d with l:=upd d.l i (withAttrs a)})
def dataD(d:D)(i:Int)(t:ByteArray):Int×D:=
 if hasL d.l i=false then(2,d)
 else if(tagOf d.l i).toList≠[] then(3,d)
 else if P1.textB t.data.toList=false then(1,d)
 else(0,{d with l:=upd d.l i (withTxt t)})
def applyD(d:D)(r:Rc):Int×D:=
 if r.op=1 then makeD d r
 else if r.op=2 then putD d r.id r.par r.bef
 else if r.op=3 then goneD d r.id
 else if r.op=4 then attrsD d r.id r.attrs
 else if r.op=5 then dataD d r.id r.txt
 else(1,d)
def focusD(d:D)(i:Int):Int×D:=if i≠0∧hasL d.l i=false then(2,d) else(0,{d with foc:=i})
def KeyT(x:Nd):Prop:=(x.tag.toList=[]→x.key.toList=[])∧x.tag.size≤60∧x.key.size≤60
structure WF(d:D):Prop where
 asc:Asc d.l
 rng:∀x∈d.l,1≤x.id∧x.id≤d.n
 n0:1≤d.n
 len:d.l.length≤d.R
 room:d.R≤200
 root:hasL d.l 1=true
 root0:parOf d.l 1=0
 tr:Tr (fun y=>hasL d.l y=true) (parOf d.l) (kidsOf d.l)
 elem:∀x∈d.l,x.tag.toList=[]→x.kids=[]
 att:∀x∈d.l,x.attrs.length≤8
 foc:d.foc=0∨hasL d.l d.foc=true
 keyt:∀x∈d.l,KeyT x
 mayt:∀x∈d.l,P3.mayA x.attrs=true
theorem has_wp(l:List Nd)(i v y:Int):hasL (upd l i (withPar v)) y=hasL l y:=has_upd l i (withPar v) (fun _=>rfl) y
theorem has_wk(l:List Nd)(i:Int)(f:List Int→List Int)(y:Int):hasL (upd l i (withKids f)) y=hasL l y:=has_upd l i (withKids f) (fun _=>rfl) y
theorem ids_wp(l:List Nd)(i v:Int):idsOf (upd l i (withPar v))=idsOf l:=upd_ids l i (withPar v) (fun _=>rfl)
theorem ids_wk(l:List Nd)(i:Int)(f:List Int→List Int):idsOf (upd l i (withKids f))=idsOf l:=upd_ids l i (withKids f) (fun _=>rfl)
theorem par_with{l:List Nd}{i v:Int}(hi:hasL l i=true):parOf (upd l i (withPar v))=setF (parOf l) i v:=by
 funext y;rw[par_upd (f:=withPar v) (fun _=>rfl) (g:=fun _=>v) (fun _=>rfl)];unfold setF parOf;by_cases e:y=i
 ·subst e;obtain⟨x,hx⟩:=has_find hi;rw[hx]
 ·simp[e]
theorem kids_par{l:List Nd}{i v:Int}:kidsOf (upd l i (withPar v))=kidsOf l:=by
 funext y;rw[kids_upd (f:=withPar v) (fun _=>rfl) (g:=fun x=>x.kids) (fun _=>rfl)];unfold kidsOf;cases find l y<;>simp
theorem par_kids{l:List Nd}{i:Int}{f:List Int→List Int}:parOf (upd l i (withKids f))=parOf l:=by
 funext y;rw[par_upd (f:=withKids f) (fun _=>rfl) (g:=fun x=>x.par) (fun _=>rfl)];unfold parOf;cases find l y<;>simp
theorem kids_with{l:List Nd}{i:Int}{f:List Int→List Int}(hi:hasL l i=true):kidsOf (upd l i (withKids f))=setF (kidsOf l) i (f (kidsOf l i)):=by
 funext y;rw[kids_upd (f:=withKids f) (fun _=>rfl) (g:=fun x=>f x.kids) (fun _=>rfl)];unfold setF kidsOf;by_cases e:y=i
 ·subst e;obtain⟨x,hx⟩:=has_find hi;rw[hx]
 ·simp[e]
theorem has_fun(l m:List Nd)(h:∀y,hasL m y=hasL l y):(fun y=>hasL m y=true)=fun y=>hasL l y=true:=by
 funext y;rw[h]
theorem leave_ids(l:List Nd)(i:Int):idsOf (leaveL l i)=idsOf l:=by
 unfold leaveL;split
 ·rfl
 ·rw[ids_wp,ids_wk]
theorem leave_has(l:List Nd)(i y:Int):hasL (leaveL l i) y=hasL l y:=by
 unfold leaveL;split
 ·rfl
 ·rw[has_wp,has_wk]
section
variable{l:List Nd}{i:Int}
theorem leave_par(h:Tr (fun y=>hasL l y=true) (parOf l) (kidsOf l)):parOf (leaveL l i)=setF (parOf l) i 0:=by
 unfold leaveL;by_cases e:parOf l i=0
 ·rw[if_pos e];funext y;by_cases e2:y=i
  ·subst e2;rw[setF_same,e]
  ·rw[setF_ne _ _ e2]
 ·rw[if_neg e,par_with (by rw[has_wk];exact h.h_of e),par_kids]
theorem leave_kids(h:Tr (fun y=>hasL l y=true) (parOf l) (kidsOf l)):kidsOf (leaveL l i)=setF (kidsOf l) (parOf l i) (less i (kidsOf l (parOf l i))):=by
 unfold leaveL;by_cases e:parOf l i=0
 ·rw[if_pos e,e,h.k0 h.z];funext y;by_cases e2:y=0
  ·subst e2;rw[setF_same,h.k0 h.z];rfl
  ·rw[setF_ne _ _ e2]
 ·rw[if_neg e,kids_par,kids_with (h.hpar e)]
theorem leave_tr(h:Tr (fun y=>hasL l y=true) (parOf l) (kidsOf l)):Tr (fun y=>hasL (leaveL l i) y=true) (parOf (leaveL l i)) (kidsOf (leaveL l i)):=by
 rw[has_fun _ _ (leave_has l i),leave_par h,leave_kids h];exact h.leave i
end
theorem mem_ins{i b c:Int}{l:List Int}(hb:b=0∨b∈l):c∈insA i b l↔c=i∨c∈l:=by
 unfold insA;by_cases e:b=0
 ·rw[if_pos e];simp[or_comm]
 ·rw[if_neg e];rw[List.mem_flatMap];constructor
  ·rintro⟨d,hd,hc⟩;split at hc
   ·simp at hc;rcases hc with rfl|rfl
    ·exact .inl rfl
    ·exact .inr hd
   ·simp at hc;subst hc;exact .inr hd
  ·rintro(rfl|hc)
   ·exact⟨b,hb.resolve_left e,by simp⟩
   ·exact⟨c,hc,by split<;>simp⟩
theorem nod_ins{i b:Int}:∀{l:List Int},l.Nodup→i∉l→(insA i b l).Nodup:=by
 intro l hn hi;unfold insA;by_cases e:b=0
 ·rw[if_pos e,List.nodup_append];exact⟨hn,by simp,fun a ha b hb=>by simp at hb;subst hb;rintro rfl;exact hi ha⟩
 ·rw[if_neg e];clear e
  induction l with
  |nil=>simp
  |cons c r ih=>
   obtain⟨h1,h2⟩:=List.nodup_cons.1 hn;simp only[List.mem_cons,not_or] at hi;have ih':=ih h2 hi.2;rw[List.flatMap_cons];have hm:∀z,z∈r.flatMap (fun c=>if c=b then[i,c] else[c])→z=i∧b∈r∨z∈r:=by
    intro z hz;obtain⟨d,hd,hz⟩:=List.mem_flatMap.1 hz;split at hz
    ·rename_i hdb;simp at hz;rcases hz with rfl|rfl
     ·exact .inl ⟨rfl,hdb▸hd⟩
     ·exact .inr hd
    ·simp at hz;subst hz;exact .inr hd
   split
   ·rename_i hcb;subst hcb;have hc1:c∉r.flatMap (fun d=>if d=c then[i,d] else[d]):=by
     intro hz;rcases hm c hz with⟨e,_⟩|hz
     ·exact hi.1 e.symm
     ·exact h1 hz
    have hi1:i∉r.flatMap (fun d=>if d=c then[i,d] else[d]):=by
     intro hz;rcases hm i hz with⟨_,e⟩|hz
     ·exact h1 e
     ·exact hi.2 hz
    show(i:: c:: _).Nodup;rw[List.nodup_cons,List.nodup_cons];exact⟨by simp only[List.mem_cons,not_or];exact⟨hi.1,hi1⟩,hc1,ih'⟩
   ·show(c:: _).Nodup;rw[List.nodup_cons];refine⟨fun hz=>?_,ih'⟩;rcases hm c hz with⟨e,_⟩|hz
    ·exact hi.1 e.symm
    ·exact h1 hz
section
variable{l:List Nd}{i p b:Int}
structure PutOk(l:List Nd)(i p b:Int):Prop where
 hi:hasL l i=true
 hp:hasL l p=true
 hb:b=0∨hasL l b=true∧parOf l b=p∧b≠i
 hn:inside l p i=false
 h1:i≠1
 hk:noKids (tagOf l p)=false
theorem putErr_ok(h:putErr l i p b=0):PutOk l i p b:=by
 unfold putErr at h;split at h
 ·omega
 ·rename_i c1;split at h
  ·omega
  ·rename_i c2;split at h
   ·omega
   ·rename_i c3;split at h
    ·omega
    ·rename_i c4;split at h
     ·omega
     ·rename_i c5;simp only[not_or,not_and,Bool.not_eq_false,Bool.not_eq_true] at c1 c3 c5;refine⟨c1.1,c1.2.1,?_,c5,c2,c3⟩;by_cases e:b=0
      ·exact .inl e
      ·refine .inr ⟨c1.2.2 e,?_⟩;simp only[not_and,not_or] at c4;obtain⟨a1,a2⟩:=c4 e;exact⟨by simpa using a1,a2⟩
theorem put_has(y:Int):hasL (putL l i p b) y=hasL l y:=by
 unfold putL;rw[has_wp,has_wk,leave_has]
theorem put_ids:idsOf (putL l i p b)=idsOf l:=by
 unfold putL;rw[ids_wp,ids_wk,leave_ids]
theorem put_par(h:Tr (fun y=>hasL l y=true) (parOf l) (kidsOf l))(hi:hasL l i=true):parOf (putL l i p b)=setF (parOf (leaveL l i)) i p:=by
 unfold putL;rw[par_with (by rw[has_wk,leave_has];exact hi),par_kids]
theorem put_kids(hp:hasL l p=true):kidsOf (putL l i p b)=setF (kidsOf (leaveL l i)) p (insA i b (kidsOf (leaveL l i) p)):=by
 unfold putL;rw[kids_par,kids_with (by rw[leave_has];exact hp)]
theorem leave_bef(h:Tr (fun y=>hasL l y=true) (parOf l) (kidsOf l))(hk:PutOk l i p b):b=0∨b∈kidsOf (leaveL l i) p:=by
 rcases hk.hb with e|⟨h1,h2,h3⟩
 ·exact .inl e
 ·refine .inr ?_;have:=(leave_tr (i:=i) h).par b;rw[leave_par h,setF_ne _ _ h3,h2] at this;exact this (h.ne0 hk.hp)
theorem put_tr(h:Tr (fun y=>hasL l y=true) (parOf l) (kidsOf l))(hk:PutOk l i p b):Tr (fun y=>hasL (putL l i p b) y=true) (parOf (putL l i p b)) (kidsOf (putL l i p b)):=by
 have hl:=leave_tr (i:=i) h;have hcut:∀j,it (parOf (leaveL l i)) j p≠i:=by
  have h1:∀j,it (parOf l) j p≠i:=fun j=>h.not_up (L:=idsOf l) (fun y hy=>has_ids.1 hy) hk.hp hk.hi (by
   have:=hk.hn;unfold inside aboveL at this;simp only[decide_eq_false_iff_not] at this;simpa[idsOf] using this) j
  intro j;have:it (parOf (leaveL l i)) j p=it (parOf l) j p:=by
   induction j with
   |zero=>rfl
   |succ j ih=>rw[it_succ,it_succ,ih,leave_par h,setF_ne _ _ (h1 j)]
  rw[this];exact h1 j
 have h0:parOf (leaveL l i) i=0:=(by rw[leave_par h,setF_same]);rw[has_fun l _ (fun y=>put_has y),put_par h hk.hi,put_kids hk.hp];rw[has_fun l _ (leave_has l i)] at hl;refine hl.come hk.hi hk.hp h0 hcut (fun c=>mem_ins (leave_bef h hk)) (nod_ins (hl.nod p) ?_);intro hm;have:=(hl.kid _ _ hm).2.2;rw[h0] at this;exact h.ne0 hk.hp this.symm
end
theorem out_find(s:List Int)(l:List Nd)(y:Int):find (outA s l) y=if y∈s then none else find l y:=by
 unfold outA;rw[find_filter l (fun y=>!decide (y∈s))];by_cases e:y∈s<;>simp[e]
theorem out_has(s:List Int)(l:List Nd)(y:Int):hasL (outA s l) y=true↔hasL l y=true∧y∉s:=by
 unfold hasL;rw[out_find];by_cases e:y∈s<;>simp[e]
theorem gone_tr{l:List Nd}{i:Int}(h:Tr (fun y=>hasL l y=true) (parOf l) (kidsOf l))(hi:hasL l i=true):Tr (fun y=>hasL (goneL l i) y=true) (parOf (goneL l i)) (kidsOf (goneL l i)):=by
 have hl:=leave_tr (i:=i) h;have h0:parOf (leaveL l i) i=0:=(by rw[leave_par h,setF_same]);have hb:Hb (kidsOf (leaveL l i)) ((leaveL l i).length+1) i:=by
  have:=hl.hb_all (L:=idsOf (leaveL l i)) (fun y hy=>has_ids.1 hy) (y:=i) (by rw[leave_has];exact hi);simpa[idsOf] using this
 have e:(fun y=>hasL (goneL l i) y=true)=fun y=>hasL (leaveL l i) y=true∧¬y∈below (leaveL l i) i:=by
  funext y;unfold goneL;exact propext (out_has _ _ _)
 rw[e];refine hl.go (i:=i) (fun y=>y∈below (leaveL l i) i) h0 (fun x c hx hc=>sub_kid _ _ _ _ hb hx hc) (fun c hc hne=>hl.sub_par _ _ _ hb hc hne) ?_ ?_ ?_ ?_
 all_goals intro y hy
 ·unfold goneL parOf;rw[out_find,if_pos hy]
 ·unfold goneL parOf;rw[out_find,if_neg hy]
 ·unfold goneL kidsOf;rw[out_find,if_pos hy]
 ·unfold goneL kidsOf;rw[out_find,if_neg hy]
end P5
end Go.Proofs.YtaklfomaibchnaaGreat
