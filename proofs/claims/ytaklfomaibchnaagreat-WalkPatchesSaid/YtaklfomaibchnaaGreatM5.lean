/- A part of what the claimed theorem hangs on. No condition but those stated. -/
import Derived.Lib.IfaceEq
import Derived.WideLaws
import Derived.Test.YtaklfomaibchnaaGreatM1
import Derived.Test.YtaklfomaibchnaaGreatM2
import Derived.Test.YtaklfomaibchnaaGreatM3
import Derived.Test.YtaklfomaibchnaaGreatM4
set_option linter.unusedVariables false
set_option linter.unusedSimpArgs false
set_option maxRecDepth 100000
set_option maxHeartbeats 40000000
namespace Go.Proofs.YtaklfomaibchnaaGreat
namespace P4
open Go.RowKit Kd
theorem err_eql(a b:Int)(w:World):(binOp .eql 30 (.iface 43 (.int .i64 a)) (.iface 43 (.int .i64 b))).run Tryz.prog w = .ok (.bool (a==b)) w:=
 Lib.run_eql_iface_int w a b Tryz.underlying30 (by kernel_rfl) Tryz.underlying43
theorem err_eql_nil(x:Value)(w:World):(binOp .eql 30 (.iface 43 x) .nilIface).run Tryz.prog w = .ok (.bool false) w:=run_eql_held_nil _ _ _ _ (by kernel_rfl)
theorem err_neq_nil(x:Value)(w:World):(binOp .neq 30 (.iface 43 x) .nilIface).run Tryz.prog w = .ok (.bool true) w:=run_neq_held_nil _ _ _ _ (by kernel_rfl)
theorem nil_eql_nil(w:World):(binOp .eql 30 .nilIface .nilIface).run Tryz.prog w = .ok (.bool true) w:=Go.run_eql_nil_nil _ _ (by kernel_rfl)
theorem nil_neq_nil(w:World):(binOp .neq 30 .nilIface .nilIface).run Tryz.prog w = .ok (.bool false) w:=Go.run_neq_nil_nil _ _ (by kernel_rfl)
end P4
namespace P5
open Go.RowKit Kd P4
variable{B p:Nat}{x:Dx}
theorem heap_top{w:World}{o:Obj}{g:Nat}(h:g=w.heap.size):(w.alloc o).heap[g]? = some o:=by subst h;exact heap_alloc_new w o
theorem heap_drew{w:World}{o:Obj}{g:Nat}(h:w.heap[g]? = some o):w.drew.heap[g]? = some o:=h
theorem add_end{w w2 w3:World}{g:Nat}{v' vi':Value}{tag txt key:ByteArray}(h:Dc w B p x)
 (hb2:But (Arm x.a x.v) w w2) (hg:w2.heap[g]? = some (.cells #[.int .i64 (x.n+1),.int .i64 0,.string tag,.string txt,.string key,.slice none 0 0,.slice none 0 0,.int .i64 0] 48 (0,0))) (hgw:B≤g) (hfr:∀k,foot p x k→k≠g) (hgl:¬Arm x.a x.v g)
 (ar:ArP w2 B x.a x.R (x.n+1) v' (x.rs.map slotOf++[⟨x.n+1,g⟩])) (hv:∀k,v'.ownBlock=some k→x.v.ownBlock=some k∨w.heap.size≤k)
 (hb3:But (fun k=>x.vi.ownBlock=some k) w2 w3) (hids:kI.Own w3 B vi' (idsOf x.l++[x.n+1])) (hvi:∀k,vi'.ownBlock=some k→x.vi.ownBlock=some k∨w2.heap.size≤k):
 ∃x',Dc (w3.setCell ⟨p,1,none⟩ vi') B p x'∧But (foot p x) w (w3.setCell ⟨p,1,none⟩ vi')∧(∀k,foot p x' k→foot p x k∨k=g∨w.heap.size≤k)∧x'.d = {x.d with l:=x.d.l++[newN (x.n+1) tag txt key],n:=x.n+1}:=by
 have hpA:¬Arm x.a x.v p:=by
  rintro(e|e)
  ·exact heap_ne h.blk h.ar.blk (by decide) e
  ·obtain⟨d,hd⟩:=h.ar.own.ty e;exact heap_ne h.blk hd (by decide) rfl
 have hviA:∀k,x.vi.ownBlock=some k→¬Arm x.a x.v k:=fun k hk=>by
  obtain⟨d,hd⟩:=h.ids.ty hk;exact h.ar.other hd (by decide) (by decide)
 have hp2:w2.heap[p]? = _:=(hb2.block p (heap_lt h.blk) hpA).trans h.blk;have hpvi:x.vi.ownBlock≠some p:=fun e=>by
  obtain⟨d,hd⟩:=h.ids.ty e;exact heap_ne hd h.blk (by decide) rfl
 have hp3:w3.heap[p]? = _:=(hb3.block p (heap_lt hp2) hpvi).trans hp2;have hb23:But (fun k=>Arm x.a x.v k∨x.vi.ownBlock=some k) w w3:=(hb2.mono fun _ _ h=> .inl h).trans hb3 fun _ _ h=> .inr h
 have hbf:But (fun k=>k=p∨Arm x.a x.v k∨x.vi.ownBlock=some k) w (w3.setCell ⟨p,1,none⟩ vi'):=But.setCell (hb23.mono fun _ _ h=> .inr h) (fun _=> .inl rfl) _;have hS:∀k,(k=p∨Arm x.a x.v k∨x.vi.ownBlock=some k)→foot p x k:=by
  rintro k (e|(e|e)|e)
  ·exact .inl e
  ·exact .inr (.inl e)
  ·exact .inr (.inr (.inl e))
  ·exact .inr (.inr (.inr (.inl e)))
 have hsz2:w.heap.size≤w2.heap.size:=hb2.size;have hgp:g≠p:=heap_ne hg hp2 (by decide);have hgvi:x.vi.ownBlock≠some g:=fun e=>hfr g (.inr (.inr (.inr (.inl e)))) rfl
 have hg3:(w3.setCell ⟨p,1,none⟩ vi').heap[g]? = some (.cells #[.int .i64 (x.n+1),.int .i64 0,.string tag,.string txt,.string key,.slice none 0 0,.slice none 0 0,.int .i64 0] 48 (0,0)):=(Below.heap_setCell _ _ _ _ hgp).trans ((hb3.block g (heap_lt hg) hgvi).trans hg);have nd0:NdAt (w3.setCell ⟨p,1,none⟩ vi') B ⟨g,⟨none,0,0⟩,⟨none,0,0⟩,newN (x.n+1) tag txt key⟩:=⟨hg3,hgw,AOk.nil_ _,Kind.Own.nil _ _ _⟩;have kb:∀r∈x.rs,NdAt (w3.setCell ⟨p,1,none⟩ vi') B r:=by
  intro r hr;have hn:=h.nodes r hr;refine hn.keep (hbf.block _ hn.lt ?_) (fun k hk=>?_) (hn.att.but hbf (fun k c f hk=>h.noA k c f (hS k hk)))
  ·rintro(e|e|e)
   ·exact heap_ne hn.blk (e▸h.blk) (by decide) rfl
   ·exact h.ar.other hn.blk (by decide) (by decide) e
   ·obtain⟨d,hd⟩:=h.ids.ty e;exact heap_ne hn.blk hd (by decide) rfl
  ·obtain⟨c,hc⟩:=hn.kids.ty hk;refine hbf.block _ (heap_lt hc) ?_;rintro(e|e|e)
   ·exact heap_ne hc (e▸h.blk) (by decide) rfl
   ·exact h.ar.other hc (by decide) (by decide) e
   ·exact h.apV r hr k e hk
 refine⟨⟨x.a,v',vi',x.R,x.n+1,x.foc,x.rs++[⟨g,⟨none,0,0⟩,⟨none,0,0⟩,newN (x.n+1) tag txt key⟩]⟩,⟨?_,h.base,?_,?_,?_,?_,?_⟩,hbf.mono fun k _ hk=>hS k hk,?_,?_⟩
 ·exact heap_set hp3 1 _
 ·show ArP _ _ _ _ _ _ ((x.rs++[_]).map slotOf);rw[List.map_append];have hb3':But (fun k=>k=p∨x.vi.ownBlock=some k) w2 (w3.setCell ⟨p,1,none⟩ vi'):=But.setCell (hb3.mono fun _ _ h=> .inr h) (fun _=> .inl rfl) _;refine ar.but hb3' ?_ (fun k hk=>?_)
  ·rintro(e|e)
   ·exact heap_ne h.ar.blk h.blk (by decide) e
   ·exact hviA _ e (.inl rfl)
  ·obtain⟨d,hd⟩:=ar.own.ty hk;rintro(rfl|e)
   ·exact heap_ne hd hp2 (by decide) rfl
   ·obtain⟨d',hd'⟩:=h.ids.ty e;exact heap_ne hd ((hb2.block k (heap_lt hd') (hviA k e)).trans hd') (by decide) rfl
 ·show kI.Own _ B vi' (idsOf ((x.rs++[_]).map Rw.nd));have e:idsOf ((x.rs++[(⟨g,⟨none,0,0⟩,⟨none,0,0⟩,newN (x.n+1) tag txt key⟩:Rw)]).map Rw.nd)=idsOf x.l++[x.n+1]:=(by simp[idsOf,Dx.l,newN]);rw[e];refine hids.keep fun k hk=>Below.heap_setCell _ _ _ _ ?_
  rintro rfl;obtain⟨d,hd⟩:=hids.ty hk;exact heap_ne hd hp3 (by decide) rfl
 ·intro r hr;rcases List.mem_append.1 hr with hr|hr
  ·exact kb r hr
  ·rw[List.mem_singleton] at hr;subst hr;exact nd0
 ·intro r hr;rcases List.mem_append.1 hr with hr|hr
  ·intro k hk e;rcases hvi k hk with e2|e2
   ·exact h.apV r hr k e2 e
   ·have:=((h.nodes r hr).kids.lt e).2;omega
  ·rw[List.mem_singleton] at hr;subst hr;intro k _ e;cases e
 ·refine List.pairwise_append.2 ⟨h.pw,List.pairwise_singleton _ _,fun r hr s hs=>?_⟩;rw[List.mem_singleton] at hs;subst hs;exact⟨fun e=>hfr r.b (.inr (.inr (.inr (.inr ⟨r,hr,.inl rfl⟩)))) e,fun k _ e=>by cases e⟩
 ·intro k hk;rcases hk with e|e|e|e|⟨r,hr,e⟩
  ·exact .inl (.inl e)
  ·exact .inl (.inr (.inl e))
  ·rcases hv k e with e2|e2
   ·exact .inl (.inr (.inr (.inl e2)))
   ·exact .inr (.inr e2)
  ·rcases hvi k e with e2|e2
   ·exact .inl (.inr (.inr (.inr (.inl e2))))
   ·exact .inr (.inr (by omega))
  ·rcases List.mem_append.1 hr with hr|hr
   ·exact .inl (.inr (.inr (.inr (.inr ⟨r,hr,e⟩))))
   ·rw[List.mem_singleton] at hr;subst hr;rcases e with e|e
    ·exact .inr (.inl e)
    ·cases e
 ·show D.mk ((x.rs++[_]).map Rw.nd) _ _ _=D.mk _ _ _ _;rw[List.map_append];rfl
theorem add_full(i:Int)(tag txt key:ByteArray)(w:World)(hn:x.n≤100000)(hl:x.rs.length=x.R)(h:Dc w B p x):Calls Tryz.prog 57 #[.pointer (some ⟨p,0,none⟩),.agg #[.int .i64 i,.int .i64 0,.string tag,.string txt,.string key,.slice none 0 0,.slice none 0 0,.int .i64 0]] w fun e w'=>e = .returned (.iface 43 (.int .i64 6))∧Below w.heap.size w w':=by
 have q1:=err_neq_nil;have H:=Zh h;have HN:=Zh hl;have c0:=h.c0;have hlt:=h.lt (.inl rfl:foot p x p);have H1:=Zh (h.alloc (.cells #[.int .i64 i,.int .i64 0,.string tag,.string txt,.string key,.slice none 0 0,.slice none 0 0,.int .i64 0] 48));clear h hl;go_enter Tryz.func57,Tryz.ntmps57;go_wp2_with fail;refine(next_any _ hn rfl H1.out).mono ?_;rintro e w' ⟨rfl,rfl⟩;go_wp2_with fail;have b2:Below w.heap.size w (w.alloc (.cells #[.int .i64 (x.n+1),.int .i64 0,.string tag,.string txt,.string key,.slice none 0 0,.slice none 0 0,.int .i64 0] 48)):=Zb _ _;have B2:=Zh b2;have H2:=Zh (H.out.below b2);clear b2;refine(putP_full w.heap.size _ (by simp[HN.out]) H2.out.ar).mono ?_;rintro e w3 ⟨rfl,b3⟩;have B3:=Zh (B2.out.trans (b3.mono B2.out.size));clear b3;go_wp2_with fail;go_ret;exact⟨rfl,B3.out⟩
def Added(w:World)(B p:Nat)(x:Dx)(tag txt key:ByteArray)(e:Ending)(w':World):Prop:=Made w B p x .nilIface {x.d with l:=x.d.l++[newN (x.n+1) tag txt key],n:=x.n+1} e w'
theorem add_yes(i:Int)(tag txt key:ByteArray)(w:World)(hn:x.n≤100000)(hl:x.rs.length<x.R)(h:Dc w B p x):Calls Tryz.prog 57 #[.pointer (some ⟨p,0,none⟩),.agg #[.int .i64 i,.int .i64 0,.string tag,.string txt,.string key,.slice none 0 0,.slice none 0 0,.int .i64 0]] w (Added w B p x tag txt key):=by
 have q1:=nil_neq_nil;have H:=Zh h;have HN:=Zh hl;have c0:=h.c0;have hlt:=h.lt (.inl rfl:foot p x p);have H1:=Zh (h.alloc (.cells #[.int .i64 i,.int .i64 0,.string tag,.string txt,.string key,.slice none 0 0,.slice none 0 0,.int .i64 0] 48));have hR:=h.ar.room;clear h hl;go_enter Tryz.func57,Tryz.ntmps57;go_wp2_with fail;refine(next_any _ hn rfl H1.out).mono ?_;rintro e w' ⟨rfl,rfl⟩;go_wp2_with fail;have b2:Below w.heap.size w (w.alloc (.cells #[.int .i64 (x.n+1),.int .i64 0,.string tag,.string txt,.string key,.slice none 0 0,.slice none 0 0,.int .i64 0] 48)):=Zb _ _;have B2:=Zh b2;have H2:=Zh (H.out.below b2);have G2:Hid ((w.alloc (.cells #[.int .i64 (x.n+1),.int .i64 0,.string tag,.string txt,.string key,.slice none 0 0,.slice none 0 0,.int .i64 0] 48)).heap[w.heap.size]? = some (.cells #[.int .i64 (x.n+1),.int .i64 0,.string tag,.string txt,.string key,.slice none 0 0,.slice none 0 0,.int .i64 0] 48 (0,0))):=Zh (heap_alloc_new w _);clear b2;generalize w.alloc (.cells #[.int .i64 (x.n+1),.int .i64 0,.string tag,.string txt,.string key,.slice none 0 0,.slice none 0 0,.int .i64 0] 48)=W at B2 H2 G2⊢;refine(putP_yes w.heap.size W (by simpa using HN.out) hn H2.out.ar).mono ?_;rintro e w3 ⟨rfl,v',a3,b3,hv3⟩;have hgw:w.heap.size<W.heap.size:=heap_lt G2.out;have NA:Hid (¬Arm x.a x.v w.heap.size):=Zh (H2.out.ar.other G2.out (by decide) (by decide));have hpA:¬Arm x.a x.v p:=by
  have hb:=H2.out.blk;exact H2.out.ar.other hb (by decide) (by decide)
 have A3:=Zh a3;have B3:=Zh b3;have V3:=Zh hv3;have k3:w3.heap[p]? = _:=(b3.block p (heap_lt H2.out.blk) hpA).trans H2.out.blk;have K3:=Zh k3;have G3:Hid (w3.heap[w.heap.size]? = _):=Zh ((b3.block _ hgw NA.out).trans G2.out);have I3:Hid (kI.Own w3 B x.vi (idsOf x.l)):=Zh (H2.out.ids.but b3 (fun g hg=>by
  obtain⟨d,hd⟩:=H2.out.ids.ty hg;exact H2.out.ar.other hd (by decide) (by decide)))
 have d1:w3.cell? ⟨p,1,none⟩=some x.vi:=cell_of_row w3 p 1 _ _ (0,0) k3;have e0:w3.cell? ⟨w.heap.size,0,none⟩=some (.int .i64 (x.n+1)):=cell_of_row w3 _ 0 _ _ (0,0) G3.out;have d0:w3.cell? ⟨p,0,none⟩=some (.pointer (some ⟨x.a,0,none⟩)):=cell_of_row w3 p 0 _ _ (0,0) k3;have hlt3:p<w3.heap.size:=heap_lt k3;have hBw:B≤w3.heap.size:=(by have:=H.out.base;omega);obtain⟨Ai,ni,ci,hvi,_⟩:=I3.out.slice;have HVI:=Zh hvi;rw[hvi] at d1;have hni:(idsOf x.l).length+1≤1000:=(by simp[idsOf,Dx.l];have:=HN.out;omega);have HPN:Hid (some p≠(Value.slice Ai ni ci).ownBlock):=Zh (by rw[←hvi];exact own_not I3.out k3 (by decide));have HGN:Hid (some w.heap.size≠(Value.slice Ai ni ci).ownBlock):=Zh (by rw[←hvi];exact own_not I3.out G3.out (by decide));have J3:Hid (kI.Own w3 B (.slice Ai ni ci) (idsOf x.l)):=Zh (by rw[←hvi];exact I3.out);have hgw3:w.heap.size<w3.heap.size:=heap_lt G3.out;clear a3 b3 hv3 k3 c0 hpA hvi;go_wp2_with fail
 go_region_law (refine kI.step_app rfl (.tmp 25) (.tmp 28) rfl (v:=.slice Ai ni ci) (l:=idsOf x.l) (m:=[x.n+1]) (B:=B) (A:=some ⟨w3.heap.size,0,none⟩) (n:=1) (c:=1) (by simp[Act.eval,Act.put]) (by repeat (first|exact J3.out|refine Kind.Own.alloc ?_ _|refine Kind.Own.drew ?_)) (by simp[Act.eval,Act.put]) rfl (fun e=>by cases e) (Kind.Holds.lit (by first|exact heap_drew (heap_top rfl)|exact heap_top rfl) rfl) (by simp;omega) (by simp;omega) ?_;intro v4 w4 hown hgrow hat;obtain⟨A4,n4,c4,rfl,_,_,_,_,_⟩:=hown.slice;have kp:w4.heap[p]? = some (.cells #[.pointer (some ⟨x.a,0,none⟩),x.vi,.int .i64 x.foc] 87 (0,0)):=(hgrow.block p (by simp;omega) HPN.out).trans (by exact heap_up K3.out);have e1:w4.cell? ⟨p,1,none⟩=some (.slice Ai ni ci):=(cell_of_row w4 p 1 _ _ (0,0) kp).trans (by rw[HVI.out];rfl);have f1:w4.frozen? ⟨p,1,none⟩=false:=(by simp[World.frozen?,kp]);have O4:=Zh hown;have G4:=Zh hgrow;have AT4:=Zh hat;clear hown hgrow hat kp)
 all_goals
  go_wp2_with fail;go_ret;have hb3:But (fun k=>x.vi.ownBlock=some k) w3 w4:=by
   rw[HVI.out];refine But.trans (S:=fun k=>(Value.slice Ai ni ci).ownBlock=some k) ?_ (But.of_grown (S:=fun k=>(Value.slice Ai ni ci).ownBlock=some k) G4.out (fun g hg _=>hg)) (fun _ _ h=>h)
   repeat (first|exact But.refl _ _|refine But.drew ?_|refine But.alloc ?_ _)
  have hvi4:∀k,(Value.slice A4 n4 c4).ownBlock=some k→x.vi.ownBlock=some k∨w3.heap.size≤k:=by
   intro k hk;rcases AT4.out with e|e
   ·rw[e,←HVI.out] at hk;exact .inl hk
   ·rw[e] at hk;simp at hk;exact .inr (by omega)
  obtain⟨x',h1,h2,h3,h4⟩:=add_end H2.out B3.out G3.out (by have:=H.out.base;omega) (fun k hk=>by have:=H.out.lt hk;omega) NA.out A3.out V3.out hb3 O4.out hvi4;refine⟨rfl,x',⟨h1,(But.of_below B2.out _).trans h2 (fun _ _ h=>h),fun k hk=>?_⟩,h4⟩;have:=B2.out.size;rcases h3 k hk with e|e|e
  ·exact .inl e
  ·exact .inr (by omega)
  ·exact .inr (by omega)
variable{B p:Nat}{x:Dx}
theorem empty_iff(s:ByteArray):s.toList.isEmpty=true↔s.toList=[]:=List.isEmpty_iff
theorem mayMake_any(tag txt key:ByteArray)(w:World)(h1:tag.size≤maxLen)(h2:txt.size≤maxLen)(h3:key.size≤maxLen):
 Calls Tryz.prog 100 #[.string tag,.string txt,.string key] w fun e w'=>e = .returned (.bool (mayMake tag txt key))∧w=w':=by
 cases ht:tag.toList.isEmpty with
 |true=>
  have hT:=(empty_iff tag).1 ht;cases hx:P1.textB txt.data.toList with
  |false=>
   have HM:Hid (mayMake tag txt key=false):=Zh (by unfold mayMake;rw[if_pos hT,hx];rfl);have HX:=Zh hx;clear hx hT;go_enter Tryz.func100,Tryz.ntmps100;go_wp2_with fail;refine(P3.ntext_at txt w HX.out h2).mono ?_;rintro e w' ⟨rfl,rfl⟩;go_wp2_with fail;go_ret;exact⟨ret_bool HM.out.symm,rfl⟩
  |true=>
   cases hk:key.toList.isEmpty with
   |false=>
    have HM:Hid (mayMake tag txt key=false):=Zh (by unfold mayMake;rw[if_pos hT,hx];simpa using (fun e=>by rw[←empty_iff,hk] at e;cases e));have HX:=Zh hx;clear hx hT;go_enter Tryz.func100,Tryz.ntmps100;go_wp2_with fail;refine(P3.ntext_at txt w HX.out h2).mono ?_;rintro e w' ⟨rfl,rfl⟩;go_wp2_with fail;go_ret;exact⟨ret_bool HM.out.symm,rfl⟩
   |true=>
    have HM:Hid (mayMake tag txt key=true):=Zh (by unfold mayMake;rw[if_pos hT,hx];simpa using (empty_iff key).1 hk);have HX:=Zh hx;clear hx hT;go_enter Tryz.func100,Tryz.ntmps100;go_wp2_with fail;refine(P3.ntext_at txt w HX.out h2).mono ?_;rintro e w' ⟨rfl,rfl⟩;go_wp2_with fail;go_ret;exact⟨ret_bool HM.out.symm,rfl⟩
 |false=>
  have hT:¬tag.toList=[]:=(by rw[←empty_iff,ht];simp);cases hn:P1.nameB tag.data.toList with
  |false=>
   have HM:Hid (mayMake tag txt key=false):=Zh (by unfold mayMake;rw[if_neg hT,hn];rfl);have HX:=Zh hn;clear hn hT;go_enter Tryz.func100,Tryz.ntmps100;go_wp2_with fail;refine(P3.nmay_at tag w HX.out h1).mono ?_;rintro e w' ⟨rfl,rfl⟩;go_wp2_with fail;go_ret;exact⟨ret_bool HM.out.symm,rfl⟩
  |true=>
   cases hk:P1.textB key.data.toList with
   |false=>
    have HM:Hid (mayMake tag txt key=false):=Zh (by unfold mayMake;rw[if_neg hT,hn,hk];rfl);have HX:=Zh hn;have HK:=Zh hk;clear hn hT hk;go_enter Tryz.func100,Tryz.ntmps100;go_wp2_with fail;refine(P3.nmay_at tag w HX.out h1).mono ?_;rintro e w' ⟨rfl,rfl⟩;go_wp2_with fail;refine(P3.ntext_at key w HK.out h3).mono ?_;rintro e w' ⟨rfl,rfl⟩;go_wp2_with fail;go_ret;exact⟨ret_bool HM.out.symm,rfl⟩
   |true=>
    cases hx:txt.toList.isEmpty with
    |false=>
     have HM:Hid (mayMake tag txt key=false):=Zh (by unfold mayMake;rw[if_neg hT,hn,hk];simpa using (fun e=>by rw[←empty_iff,hx] at e;cases e));have HX:=Zh hn;have HK:=Zh hk;clear hn hT hk;go_enter Tryz.func100,Tryz.ntmps100;go_wp2_with fail;refine(P3.nmay_at tag w HX.out h1).mono ?_;rintro e w' ⟨rfl,rfl⟩;go_wp2_with fail;refine(P3.ntext_at key w HK.out h3).mono ?_;rintro e w' ⟨rfl,rfl⟩;go_wp2_with fail;go_ret;exact⟨ret_bool HM.out.symm,rfl⟩
    |true=>
     have HM:Hid (mayMake tag txt key=true):=Zh (by unfold mayMake;rw[if_neg hT,hn,hk];simpa using (empty_iff txt).1 hx);have HX:=Zh hn;have HK:=Zh hk;clear hn hT hk;go_enter Tryz.func100,Tryz.ntmps100;go_wp2_with fail;refine(P3.nmay_at tag w HX.out h1).mono ?_;rintro e w' ⟨rfl,rfl⟩;go_wp2_with fail;refine(P3.ntext_at key w HK.out h3).mono ?_;rintro e w' ⟨rfl,rfl⟩;go_wp2_with fail;go_ret;exact⟨ret_bool HM.out.symm,rfl⟩
theorem mayMake_at(tag txt key:ByteArray){r:Bool}(w:World)(hr:mayMake tag txt key=r)(h1:tag.size≤maxLen)(h2:txt.size≤maxLen)(h3:key.size≤maxLen):
 Calls Tryz.prog 100 #[.string tag,.string txt,.string key] w fun e w'=>e = .returned (.bool r)∧w=w':=by
 subst hr;exact mayMake_any tag txt key w h1 h2 h3
theorem create_id(op i pa be:Int)(tag txt key:ByteArray)(A:Option Addr)(n c:Nat)(w:World)(hn:x.n≤100000)(hi:(i != x.n+1)=true)(h:Dc w B p x):Calls Tryz.prog 63 #[.pointer (some ⟨p,0,none⟩),.agg #[.int .i64 op,.int .i64 i,.int .i64 pa,.int .i64 be,.string tag,.string txt,.string key,.slice A n c]] w fun e w'=>e = .returned (.iface 43 (.int .i64 1))∧Below w.heap.size w w':=by
 have H:=Zh h;have H1:=Zh (h.alloc (.cells #[.int .i64 op,.int .i64 i,.int .i64 pa,.int .i64 be,.string tag,.string txt,.string key,.slice A n c] 71));have QN:Hid (∀k,Calls Tryz.prog 51 #[.pointer (some ⟨p,0,none⟩)] ((w.alloc (.cells #[.int .i64 op,.int .i64 i,.int .i64 pa,.int .i64 be,.string tag,.string txt,.string key,.slice A n c] 71)).drewN k) fun e w'=>e = .returned (.int .i64 (x.n+1))∧∃m,w'=(w.alloc (.cells #[.int .i64 op,.int .i64 i,.int .i64 pa,.int .i64 be,.string tag,.string txt,.string key,.slice A n c] 71)).drewN m):=
  Zh (fun k=>(next_any _ hn rfl (H1.out.drewN k)).mono fun _ _ ⟨he,hw⟩=>⟨he,k,hw.symm⟩)
 clear h;go_enter Tryz.func63,Tryz.ntmps63;go_wp2_with fail;go_quiet ((go_at_call 51;exact QN.out _));go_wp2_with fail;go_ret;exact⟨rfl,Below_drewN (Zb _ _) _⟩
theorem create_may(op i pa be:Int)(tag txt key:ByteArray)(A:Option Addr)(n c:Nat)(w:World)(hn:x.n≤100000)(h1:tag.size≤maxLen)(h2:txt.size≤maxLen)(h3:key.size≤maxLen)(hi:(i != x.n+1)=false)(hm:mayMake tag txt key=false)(h:Dc w B p x):Calls Tryz.prog 63 #[.pointer (some ⟨p,0,none⟩),.agg #[.int .i64 op,.int .i64 i,.int .i64 pa,.int .i64 be,.string tag,.string txt,.string key,.slice A n c]] w fun e w'=>e = .returned (.iface 43 (.int .i64 1))∧Below w.heap.size w w':=by
 have H:=Zh h;have H1:=Zh (h.alloc (.cells #[.int .i64 op,.int .i64 i,.int .i64 pa,.int .i64 be,.string tag,.string txt,.string key,.slice A n c] 71));have QN:Hid (∀k,Calls Tryz.prog 51 #[.pointer (some ⟨p,0,none⟩)] ((w.alloc (.cells #[.int .i64 op,.int .i64 i,.int .i64 pa,.int .i64 be,.string tag,.string txt,.string key,.slice A n c] 71)).drewN k) fun e w'=>e = .returned (.int .i64 (x.n+1))∧∃m,w'=(w.alloc (.cells #[.int .i64 op,.int .i64 i,.int .i64 pa,.int .i64 be,.string tag,.string txt,.string key,.slice A n c] 71)).drewN m):=
  Zh (fun k=>(next_any _ hn rfl (H1.out.drewN k)).mono fun _ _ ⟨he,hw⟩=>⟨he,k,hw.symm⟩)
 have QM:Hid (∀k,Calls Tryz.prog 100 #[.string tag,.string txt,.string key] ((w.alloc (.cells #[.int .i64 op,.int .i64 i,.int .i64 pa,.int .i64 be,.string tag,.string txt,.string key,.slice A n c] 71)).drewN k) fun e w'=>e = .returned (.bool false)∧∃m,w'=(w.alloc (.cells #[.int .i64 op,.int .i64 i,.int .i64 pa,.int .i64 be,.string tag,.string txt,.string key,.slice A n c] 71)).drewN m):=
  Zh (fun k=>(mayMake_at tag txt key _ hm h1 h2 h3).mono fun _ _ ⟨he,hw⟩=>⟨he,k,hw.symm⟩)
 clear h hm;go_enter Tryz.func63,Tryz.ntmps63;go_wp2_with fail;go_quiet ((first|(go_at_call 51;exact QN.out _)|(go_at_call 100;exact QM.out _)));go_wp2_with fail;go_ret;exact⟨rfl,Below_drewN (Zb _ _) _⟩
theorem create_full(op i pa be:Int)(tag txt key:ByteArray)(A:Option Addr)(n c:Nat)(w:World)(hn:x.n≤100000)(h1:tag.size≤maxLen)(h2:txt.size≤maxLen)(h3:key.size≤maxLen)(hi:(i != x.n+1)=false)(hm:mayMake tag txt key=true)(hl:x.rs.length=x.R)(h:Dc w B p x):Calls Tryz.prog 63 #[.pointer (some ⟨p,0,none⟩),.agg #[.int .i64 op,.int .i64 i,.int .i64 pa,.int .i64 be,.string tag,.string txt,.string key,.slice A n c]] w fun e w'=>e = .returned (.iface 43 (.int .i64 6))∧Below w.heap.size w w':=by
 have H:=Zh h;have H1:=Zh (h.alloc (.cells #[.int .i64 op,.int .i64 i,.int .i64 pa,.int .i64 be,.string tag,.string txt,.string key,.slice A n c] 71));have QN:Hid (∀k,Calls Tryz.prog 51 #[.pointer (some ⟨p,0,none⟩)] ((w.alloc (.cells #[.int .i64 op,.int .i64 i,.int .i64 pa,.int .i64 be,.string tag,.string txt,.string key,.slice A n c] 71)).drewN k) fun e w'=>e = .returned (.int .i64 (x.n+1))∧∃m,w'=(w.alloc (.cells #[.int .i64 op,.int .i64 i,.int .i64 pa,.int .i64 be,.string tag,.string txt,.string key,.slice A n c] 71)).drewN m):=
  Zh (fun k=>(next_any _ hn rfl (H1.out.drewN k)).mono fun _ _ ⟨he,hw⟩=>⟨he,k,hw.symm⟩)
 have QM:Hid (∀k,Calls Tryz.prog 100 #[.string tag,.string txt,.string key] ((w.alloc (.cells #[.int .i64 op,.int .i64 i,.int .i64 pa,.int .i64 be,.string tag,.string txt,.string key,.slice A n c] 71)).drewN k) fun e w'=>e = .returned (.bool true)∧∃m,w'=(w.alloc (.cells #[.int .i64 op,.int .i64 i,.int .i64 pa,.int .i64 be,.string tag,.string txt,.string key,.slice A n c] 71)).drewN m):=
  Zh (fun k=>(mayMake_at tag txt key _ hm h1 h2 h3).mono fun _ _ ⟨he,hw⟩=>⟨he,k,hw.symm⟩)
 have HL:=Zh hl;clear h hm hl;go_enter Tryz.func63,Tryz.ntmps63;go_wp2_with fail;go_quiet ((first|(go_at_call 51;exact QN.out _)|(go_at_call 100;exact QM.out _)));go_wp2_with fail;refine(add_full 0 tag txt key _ hn HL.out (H1.out.drewN _)).mono ?_;rintro e w2 ⟨rfl,b2⟩;have B2:=Zh ((Below_drewN ((Below.refl _ w).alloc (Zl) _) _).trans (b2.mono (by show w.heap.size≤(w.alloc _).heap.size;simp)));clear b2;go_wp2_with fail;go_ret;exact⟨rfl,B2.out⟩
theorem create_yes(op i pa be:Int)(tag txt key:ByteArray)(A:Option Addr)(n c:Nat)(w:World)(hn:x.n≤100000)(h1:tag.size≤maxLen)(h2:txt.size≤maxLen)(h3:key.size≤maxLen)(hi:(i != x.n+1)=false)(hm:mayMake tag txt key=true)(hl:x.rs.length<x.R)(h:Dc w B p x):Calls Tryz.prog 63 #[.pointer (some ⟨p,0,none⟩),.agg #[.int .i64 op,.int .i64 i,.int .i64 pa,.int .i64 be,.string tag,.string txt,.string key,.slice A n c]] w (Added w B p x tag txt key):=by
 have H:=Zh h;have H1:=Zh (h.alloc (.cells #[.int .i64 op,.int .i64 i,.int .i64 pa,.int .i64 be,.string tag,.string txt,.string key,.slice A n c] 71));have QN:Hid (∀k,Calls Tryz.prog 51 #[.pointer (some ⟨p,0,none⟩)] ((w.alloc (.cells #[.int .i64 op,.int .i64 i,.int .i64 pa,.int .i64 be,.string tag,.string txt,.string key,.slice A n c] 71)).drewN k) fun e w'=>e = .returned (.int .i64 (x.n+1))∧∃m,w'=(w.alloc (.cells #[.int .i64 op,.int .i64 i,.int .i64 pa,.int .i64 be,.string tag,.string txt,.string key,.slice A n c] 71)).drewN m):=
  Zh (fun k=>(next_any _ hn rfl (H1.out.drewN k)).mono fun _ _ ⟨he,hw⟩=>⟨he,k,hw.symm⟩)
 have QM:Hid (∀k,Calls Tryz.prog 100 #[.string tag,.string txt,.string key] ((w.alloc (.cells #[.int .i64 op,.int .i64 i,.int .i64 pa,.int .i64 be,.string tag,.string txt,.string key,.slice A n c] 71)).drewN k) fun e w'=>e = .returned (.bool true)∧∃m,w'=(w.alloc (.cells #[.int .i64 op,.int .i64 i,.int .i64 pa,.int .i64 be,.string tag,.string txt,.string key,.slice A n c] 71)).drewN m):=
  Zh (fun k=>(mayMake_at tag txt key _ hm h1 h2 h3).mono fun _ _ ⟨he,hw⟩=>⟨he,k,hw.symm⟩)
 have HL:=Zh hl;clear h hm hl;go_enter Tryz.func63,Tryz.ntmps63;go_wp2_with fail;go_quiet ((first|(go_at_call 51;exact QN.out _)|(go_at_call 100;exact QM.out _)));go_wp2_with fail;refine(add_yes 0 tag txt key _ hn HL.out (H1.out.drewN _)).mono ?_;rintro e w2 ⟨rfl,x',d2,hd2⟩;have D2:=Zh d2;have HD2:=Zh hd2;clear d2 hd2;go_wp2_with fail;go_ret;exact⟨rfl,x',(Did.below_ H.out (Below_drewN ((Below.refl _ w).alloc (Zl) _) _)).trans D2.out,HD2.out⟩
theorem create_any(r:Rc)(A:Option Addr)(n c:Nat)(w:World)(hn:x.n≤100000)(h1:r.tag.size≤maxLen)(h2:r.txt.size≤maxLen)(h3:r.key.size≤maxLen)(hR:x.rs.length≤x.R)(h:Dc w B p x):
 Calls Tryz.prog 63 #[.pointer (some ⟨p,0,none⟩),.agg #[.int .i64 r.op,.int .i64 r.id,.int .i64 r.par,.int .i64 r.bef,.string r.tag,.string r.txt,.string r.key,.slice A n c]] w (Made w B p x (errV (makeD x.d r).1) (makeD x.d r).2):=by
 have hlen:x.d.l.length=x.rs.length:=l_len x;by_cases hi:r.id=x.n+1
 ·have hi2:(r.id != x.n+1)=false:=(by simpa using hi);cases hm:mayMake r.tag r.txt r.key with
  |false=>
   have hd:makeD x.d r=(1,x.d):=(by unfold makeD;exact if_pos (.inr hm));rw[hd];refine(create_may r.op r.id r.par r.bef r.tag r.txt r.key A n c w hn h1 h2 h3 hi2 hm h).mono ?_;rintro e w' ⟨rfl,hb⟩;exact Made.same h hb rfl rfl
  |true=>
   have c1:¬(r.id≠x.d.n+1∨mayMake r.tag r.txt r.key=false):=by
    rintro(e|e)
    ·exact e hi
    ·rw[hm] at e;cases e
   by_cases hl:x.R≤x.rs.length
   ·have hd:makeD x.d r=(6,x.d):=(by unfold makeD;rw[if_neg c1];exact if_pos (by rw[hlen];exact hl));rw[hd];refine(create_full r.op r.id r.par r.bef r.tag r.txt r.key A n c w hn h1 h2 h3 hi2 hm (by omega) h).mono ?_;rintro e w' ⟨rfl,hb⟩;exact Made.same h hb rfl rfl
   ·have hd:makeD x.d r=(0,{x.d with l:=x.d.l++[newN (x.n+1) r.tag r.txt r.key],n:=x.n+1}):=by
     unfold makeD;rw[if_neg c1,if_neg (by rw[hlen];exact hl),hi];rfl
    rw[hd];exact create_yes r.op r.id r.par r.bef r.tag r.txt r.key A n c w hn h1 h2 h3 hi2 hm (by omega) h
 ·have hi2:(r.id != x.n+1)=true:=(by simpa using hi);have hd:makeD x.d r=(1,x.d):=(by unfold makeD;exact if_pos (.inl hi));rw[hd];refine(create_id r.op r.id r.par r.bef r.tag r.txt r.key A n c w hn hi2 h).mono ?_;rintro e w' ⟨rfl,hb⟩;exact Made.same h hb rfl rfl
def NewDoc(w:World)(R:Nat)(e:Ending)(w':World):Prop:=
 ∃(p:Nat) (x:Dx),e = .returned (.tuple #[.pointer (some ⟨p,0,none⟩),.nilIface])∧Dc w' w.heap.size p x∧x.d=newD R∧Below w.heap.size w w'
theorem newDoc_yes(R:Nat)(w:World)(h1:1≤R)(h2:R≤200):Calls Tryz.prog 22 #[.int .i64 R] w (NewDoc w R):=by
 have q1:=nil_neq_nil;go_enter Tryz.func22,Tryz.ntmps22;go_wp2_with fail;refine(newP_yes (R:Int) w (by omega) (by omega)).mono ?_;rintro e w1 ⟨a,rfl,a1,b1⟩;rw[Int.toNat_natCast] at a1;have A1:=Zh a1;have B1:=Zh b1;clear a1 b1;go_wp2_with fail;have dc:Dc (w1.alloc (.cells #[.pointer (some ⟨a,0,none⟩),.slice none 0 0,.int .i64 0] 87)) w.heap.size w1.heap.size ⟨a,.slice none 0 0,.slice none 0 0,R,0,0,[]⟩:=
  ⟨heap_alloc_new w1 _,B1.out.size,A1.out.below (Zb _ _) (Zl),Kind.Own.nil _ _ _,fun _ h=>absurd h (by simp),fun _ h=>absurd h (by simp),List.Pairwise.nil⟩
 have DC:=Zh dc;have B2:=Zh (B1.out.alloc B1.out.size (.cells #[.pointer (some ⟨a,0,none⟩),.slice none 0 0,.int .i64 0] 87));clear dc;refine(add_yes (x:=⟨a,.slice none 0 0,.slice none 0 0,R,0,0,[]⟩) 0 ⟨#[114,111,111,116]⟩ ⟨#[]⟩ ⟨#[]⟩ _ (by show(0:Int)≤100000;omega) (by show 0<R;omega) DC.out).mono ?_;rintro e w2 ⟨rfl,x',d2,hd2⟩;have D2:=Zh d2;have HD2:=Zh hd2;clear d2 hd2;go_wp2_with fail;go_ret2;exact⟨_,x',rfl,D2.out.dc,HD2.out,B2.out.trans (D2.out.to_below DC.out)⟩
variable{B p:Nat}{x:Dx}
def outR(s:List Int)(rs:List Rw):List Rw:=rs.filter fun r=>!decide (r.nd.id∈s)
theorem outR_nd(s:List Int)(rs:List Rw):(outR s rs).map (·.nd)=outA s (rs.map (·.nd)):=by
 unfold outR outA;rw[List.filter_map];rfl
theorem outR_outR(s t:List Int)(rs:List Rw):outR t (outR s rs)=outR (s++t) rs:=by
 unfold outR;rw[List.filter_filter];apply List.filter_congr;intro r _;by_cases h1:r.nd.id∈s<;>by_cases h2:r.nd.id∈t<;>simp[h1,h2]
theorem outR_nil(rs:List Rw):outR [] rs=rs:=by
 unfold outR;rw[List.filter_eq_self];intro r _;simp
theorem outR_congr{s t:List Int}(h:∀c,c∈s↔c∈t)(rs:List Rw):outR s rs=outR t rs:=by
 unfold outR;apply List.filter_congr;intro r _;simp[h]
theorem mem_outR{s:List Int}{rs:List Rw}{r:Rw}:r∈outR s rs↔r∈rs∧r.nd.id∉s:=by unfold outR;simp
def fo(f:Int)(s:List Int):Int:=if f∈s then 0 else f
theorem fo_fo(f:Int){s t:List Int}(h:(0:Int)∉t):fo (fo f s) t=fo f (s++t):=by
 unfold fo;by_cases h1:f∈s
 ·rw[if_pos h1,if_neg h,if_pos (by simp[h1])]
 ·rw[if_neg h1];by_cases h2:f∈t
  ·rw[if_pos h2,if_pos (by simp[h2])]
  ·rw[if_neg h2,if_neg (by simp[h1,h2])]
theorem fo_nil(f:Int):fo f []=f:=by simp[fo]
theorem fo_congr{s t:List Int}(h:∀c,c∈s↔c∈t)(f:Int):fo f s=fo f t:=by
 unfold fo;by_cases h1:f∈s
 ·rw[if_pos h1,if_pos ((h f).1 h1)]
 ·rw[if_neg h1,if_neg (fun e=>h1 ((h f).2 e))]
theorem outA_find(s:List Int)(l:List Nd)(y:Int)(h:y∉s):hasL (outA s l) y=hasL l y∧kidsOf (outA s l) y=kidsOf l y:=by
 unfold hasL kidsOf;rw[out_find,if_neg h];exact⟨rfl,rfl⟩
theorem erase_map{α β:Type}(f:α→β):∀(l:List α) (k:Nat),(l.map f).eraseIdx k=(l.eraseIdx k).map f
 |[],_=>rfl
 |_:: _,0=>rfl
 |a:: l,k+1=>by show f a:: (l.map f).eraseIdx k=f a:: (l.eraseIdx k).map f;rw[erase_map f l k]
theorem erase_out:∀{rs:List Rw} {k:Nat} (hk:k<rs.length),(rs.map (·.nd)).Pairwise (fun a b=>a.id<b.id)→rs.eraseIdx k=outR [rs[k].nd.id] rs
 |[],_,hk,_=>absurd hk (by simp)
 |r:: rs,0,_,h=>by
  obtain⟨h1,_⟩:=List.pairwise_cons.1 h;show rs=outR [r.nd.id] (r:: rs);unfold outR;rw[List.filter_cons];simp only[List.mem_singleton,decide_true,Bool.not_true,Bool.false_eq_true,if_false];exact(List.filter_eq_self.2 (fun s hs=>by
   have:r.nd.id<s.nd.id:=h1 s.nd (List.mem_map.2 ⟨s,hs,rfl⟩);have hne:¬s.nd.id=r.nd.id:=(by omega);simp[hne])).symm
 |r:: rs,k+1,hk,h=>by
  obtain⟨h1,h2⟩:=List.pairwise_cons.1 h;have hk':k<rs.length:=(by simpa using hk);have ih:=erase_out hk' h2;have hne:¬r.nd.id=rs[k].nd.id:=by
   have:r.nd.id<rs[k].nd.id:=h1 rs[k].nd (List.mem_map.2 ⟨rs[k],List.getElem_mem hk',rfl⟩);omega
  show r:: rs.eraseIdx k=outR [rs[k].nd.id] (r:: rs);rw[ih];unfold outR;rw[List.filter_cons];simp[hne]
theorem less_ids(i:Int)(rs:List Rw):less i (idsOf (rs.map (·.nd)))=idsOf ((outR [i] rs).map (·.nd)):=by
 unfold less idsOf outR;simp only[List.map_map,List.filter_map];congr 1;apply List.filter_congr;intro r _;simp[Function.comp]
theorem drop_end{w w2 w3:World}{y:Dx}{i:Int}(h:Dc w B p y)(hi:hasL y.l i=true){v':Value}{A3:Option Addr}{n3 c3:Nat}
 (hb2:But (Arm y.a y.v) w w2) (ar:ArP w2 B y.a y.R y.n v' ((y.rs.map slotOf).eraseIdx (posA (y.rs.map slotOf) i))) (hv:v'.ownBlock=y.v.ownBlock)
 (hb3:But (fun k=>y.vi.ownBlock=some k) w2 w3) (hids:kI.Own w3 B (.slice A3 n3 c3) (less i (idsOf y.l))) (hvi:(Value.slice A3 n3 c3).ownBlock=y.vi.ownBlock):
 Did w B p y ⟨y.a,v',.slice A3 n3 c3,y.R,y.n,y.foc,outR [i] y.rs⟩ (w3.setCell ⟨p,1,none⟩ (.slice A3 n3 c3)):=by
 obtain⟨k,hk,hy,_⟩:=h.place hi;have hpos:posA (y.rs.map slotOf) i=k:=by
  have:=posA_at h.ar.asc (k:=k) (by simpa using hk);simpa[slotOf,hy] using this
 have hpA:¬Arm y.a y.v p:=h.ar.other h.blk (by decide) (by decide);have hviA:∀k,y.vi.ownBlock=some k→¬Arm y.a y.v k:=fun k hk=>by
  obtain⟨d,hd⟩:=h.ids.ty hk;exact h.ar.other hd (by decide) (by decide)
 have hp2:w2.heap[p]? = _:=(hb2.block p (heap_lt h.blk) hpA).trans h.blk;have hpvi:y.vi.ownBlock≠some p:=fun e=>own_not h.ids h.blk (by decide) e.symm
 have hp3:w3.heap[p]? = _:=(hb3.block p (heap_lt hp2) hpvi).trans hp2;have hb23:But (fun k=>Arm y.a y.v k∨y.vi.ownBlock=some k) w w3:=(hb2.mono fun _ _ h=> .inl h).trans hb3 fun _ _ h=> .inr h
 have hbf:But (fun k=>k=p∨Arm y.a y.v k∨y.vi.ownBlock=some k) w (w3.setCell ⟨p,1,none⟩ (.slice A3 n3 c3)):=But.setCell (hb23.mono fun _ _ h=> .inr h) (fun _=> .inl rfl) _;have he:y.rs.eraseIdx k=outR [i] y.rs:=by
  have:=erase_out hk h.asc;rw[hy] at this;exact this
 refine h.re hbf (heap_set hp3 1 _) ?_ ?_ (fun g hg=> .inl (by rw[←hv];exact hg)) (fun g hg=> .inl (by rw[←hvi];exact hg)) (fun r hr=> .inl (mem_outR.1 hr).1) (h.pw.sublist List.filter_sublist)
 ·rw[hpos,erase_map,he] at ar;have hb3':But (fun k=>k=p∨y.vi.ownBlock=some k) w2 (w3.setCell ⟨p,1,none⟩ (.slice A3 n3 c3)):=But.setCell (hb3.mono fun _ _ h=> .inr h) (fun _=> .inl rfl) _;refine ar.but hb3' ?_ (fun g hg=>?_)
  ·rintro(e|e)
   ·exact heap_ne h.ar.blk h.blk (by decide) e
   ·exact hviA _ e (.inl rfl)
  ·obtain⟨d,hd⟩:=ar.own.ty hg;rintro(rfl|e)
   ·exact heap_ne hd hp2 (by decide) rfl
   ·obtain⟨d',hd'⟩:=h.ids.ty e;exact heap_ne hd ((hb2.block g (heap_lt hd') (hviA g e)).trans hd') (by decide) rfl
 ·rw[←less_ids];refine hids.keep fun g hg=>Below.heap_setCell _ _ _ _ ?_
  rintro rfl;obtain⟨d,hd⟩:=hids.ty hg;exact heap_ne hd hp3 (by decide) rfl
structure SubOk(l:List Nd)(K:Int→List Int)(f:Nat)(i:Int):Prop where
 hb:Hb K f i
 nd:(sub K f i).Nodup
 at_:∀c∈sub K f i,hasL l c=true∧kidsOf l c=K c
def upto(K:Int→List Int)(f:Nat)(i:Int)(j:Nat):List Int:=((K i).take j).flatMap (sub K f)
theorem upto_succ{K:Int→List Int}{f:Nat}{i:Int}{j:Nat}(hj:j<(K i).length):upto K f i (j+1)=upto K f i j++sub K f (K i)[j]:=by
 unfold upto;rw[List.take_succ_eq_append_getElem hj,List.flatMap_append];simp
theorem upto_all(K:Int→List Int)(f:Nat)(i:Int):upto K f i (K i).length=(K i).flatMap (sub K f):=by unfold upto;rw[List.take_length]
theorem SubOk.kid{l:List Nd}{K:Int→List Int}{f:Nat}{i:Int}(h:SubOk l K (f+1) i){j:Nat}(hj:j<(K i).length):SubOk (outA (upto K f i j) l) K f (K i)[j]∧(∀c∈sub K f (K i)[j],c∉upto K f i j):=by
 have hn:=h.nd;rw[sub,List.nodup_cons] at hn;have hsplit:(K i).flatMap (sub K f)=upto K f i j++(sub K f (K i)[j]++((K i).drop (j+1)).flatMap (sub K f)):=by
  unfold upto;have e:K i=(K i).take j++((K i)[j]:: (K i).drop (j+1)):=(by rw[←List.drop_eq_getElem_cons hj,List.take_append_drop]);have:=congrArg (List.flatMap (sub K f)) e;rw[List.flatMap_append,List.flatMap_cons] at this;exact this
 rw[hsplit,List.nodup_append,List.nodup_append] at hn;have hdis:∀c∈sub K f (K i)[j],c∉upto K f i j:=fun c hc hu=>hn.2.2.2 c hu c (by simp[hc]) rfl
 refine⟨⟨h.hb _ (List.getElem_mem hj),hn.2.2.1.1,fun c hc=>?_⟩,hdis⟩;have hin:c∈sub K (f+1) i:=by
  rw[sub,List.mem_cons,List.mem_flatMap];exact .inr ⟨_,List.getElem_mem hj,hc⟩
 obtain⟨h1,h2⟩:=outA_find (upto K f i j) l c (hdis c hc);rw[h1,h2];exact h.at_ c hin
theorem SubOk.self_not{l:List Nd}{K:Int→List Int}{f:Nat}{i:Int}(h:SubOk l K (f+1) i)(j:Nat):i∉upto K f i j:=by
 intro hm;have hn:=h.nd;rw[sub,List.nodup_cons] at hn;unfold upto at hm;obtain⟨c,hc,hm⟩:=List.mem_flatMap.1 hm;exact hn.1 (List.mem_flatMap.2 ⟨c,List.mem_of_mem_take hc,hm⟩)
def Dropped(w:World)(B p:Nat)(x:Dx)(s:List Int)(e:Ending)(w':World):Prop:=
 e = .returned (.tuple #[])∧∃v vi,Did w B p x ⟨x.a,v,vi,x.R,x.n,fo x.foc s,outR s x.rs⟩ w'
def SoFar(w:World)(B p:Nat)(x:Dx)(s:List Int)(w':World):Prop:=∃v vi,Did w B p x ⟨x.a,v,vi,x.R,x.n,fo x.foc s,outR s x.rs⟩ w'
theorem SoFar.zero{w w':World}(h:Dc w B p x)(hb:Below w.heap.size w w'):SoFar w B p x [] w':=⟨x.v,x.vi,by
 rw[fo_nil,outR_nil];exact Did.below_ h hb⟩
theorem SoFar.next{w w' w2:World}{s t:List Int}{v vi:Value}(h:Did w B p x ⟨x.a,v,vi,x.R,x.n,fo x.foc s,outR s x.rs⟩ w')(ht:(0:Int)∉t)
 (k:SoFar w' B p ⟨x.a,v,vi,x.R,x.n,fo x.foc s,outR s x.rs⟩ t w2):SoFar w B p x (s++t) w2:=by
 obtain⟨v2,vi2,hk⟩:=k;refine⟨v2,vi2,?_⟩;have:=h.trans hk;simp only[fo_fo _ ht,outR_outR] at this;exact this
theorem drop_any(K:Int→List Int)(hz:∀f c,(0:Int)∉sub K f c∨c=0)(hk0:∀x,(0:Int)∉K x)(hkl:∀x,(K x).length≤1000):∀(f:Nat) (i:Int) {B p:Nat} {x:Dx} (w:World) (_:i≠0) (_:x.rs.length≤1000) (_:SubOk x.l K f i) (_:Dc w B p x),Calls Tryz.prog 106 #[.pointer (some ⟨p,0,none⟩),.int .i64 i] w (Dropped w B p x (sub K f i)):=by
 intro f
 induction f with
 |zero=>intro i B p x w _ _ hs _;exact hs.hb.elim
 |succ f ih=>
  intro i B p x w hi0 hl hs h;have IH:=Zh ih;have HS:=Zh hs;have H:=Zh h;have HZ:=Zh hz;have HK0:=Zh hk0;obtain⟨hh,hkk⟩:=hs.at_ i (by simp[sub]);obtain⟨k,hk,hy,_⟩:=h.place hh;have hkd:=(tag_at h hk hy).2.2;rw[hkk] at hkd;obtain⟨b,hb⟩:∃b,x.rs[k].b=b:=⟨_,rfl⟩;obtain⟨⟨A,n,c⟩,hv⟩:∃v,x.rs[k].vk=v:=⟨_,rfl⟩;have V:Hid (x.rs[k].vk.val = .slice A n c):=Zh (by rw[hv];rfl);have HY:=Zh hy;have HB:=Zh hb;have HKD:Hid (K i=x.rs[k].nd.kids):=Zh hkd;obtain⟨g1,g2,g3,g4,g5⟩:=own_nil_zero ((h.nd hk).kids) V.out;have HN:Hid ((K i).length=n):=Zh (by rw[hkd];exact g1);have hn1000:n≤1000:=(by rw[←HN.out];exact hkl i);clear h hs hz hk0 ih hh hkk hy hkd hb hv g1 g2 g3 g4 g5;go_enter Tryz.func106,Tryz.ntmps106;go_wp2_with fail;refine(node_at i w hk HY.out HB.out H.out).mono ?_;rintro e w1 ⟨rfl,b1⟩;have B1:=Zh b1;have d6:w1.cell? ⟨b,6,none⟩=some (.slice A n c):=(by have:=((H.out.below b1).nd hk).c6;rwa[HB.out,V.out] at this);clear b1;go_wp2_with fail;go_loopw [13] (fun i13 wr=>∃j:Nat,j≤n∧i13 = .int .i64 j∧Hid (SoFar w B p x (upto K f i j) wr)) (fun i13 _=>n-(intOf i13).toNat)
  case atStart=>exact⟨0,by omega,rfl,Zh (by show SoFar w B p x (upto K f i 0) w1;exact SoFar.zero H.out B1.out)⟩
  case round=>
   obtain⟨j,hj,rfl,HF⟩:=hrel;obtain⟨v,vi,hd⟩:=HF.out;have DD:=Zh hd;have hmem:x.rs[k]∈outR (upto K f i j) x.rs:=mem_outR.2 ⟨List.getElem_mem hk,by rw[HY.out];exact HS.out.self_not j⟩;clear hd;by_cases hlt:j<n
   ·have hjl:j<(K i).length:=(by have:=HN.out;omega);obtain⟨hs1,hs2⟩:=HS.out.kid hjl;have HS1:=Zh hs1;have hown:=(DD.out.dc.nodes _ hmem).kids;rw[V.out,←HKD.out] at hown;obtain⟨b',o,rfl,hb',hc⟩:=cell_int (own_nil_zero hown rfl).2.2.2.2 hjl;have hlen:(outR (upto K f i j) x.rs).length≤1000:=by
     have:(outR (upto K f i j) x.rs).length≤x.rs.length:=List.length_filter_le _ _;omega
    have hc0:(K i)[j]≠0:=fun e=>HK0.out i (e▸List.getElem_mem hjl)
    have HC0:=Zh hc0;clear hs1 hs2 hown hmem hb' hc0;go_wp2_with fail;refine(IH.out (K i)[j] (x:=⟨x.a,v,vi,x.R,x.n,fo x.foc (upto K f i j),outR (upto K f i j) x.rs⟩) wr HC0.out hlen (by show SubOk ((outR (upto K f i j) x.rs).map (·.nd)) K f _;rw[outR_nd];exact HS1.out) DD.out.dc).mono ?_;rintro e w2 ⟨rfl,v2,vi2,d2⟩;have NX:Hid (SoFar w B p x (upto K f i (j+1)) w2):=Zh (by
     rw[upto_succ hjl];exact SoFar.next DD.out ((HZ.out f _).resolve_right HC0.out) ⟨v2,vi2,d2⟩)
    clear d2;go_wp2_with fail;go_roundw
    case rel=>exact⟨j+1,by omega,by go_num,NX⟩
    case measure=>simp[intOf];omega
   ·obtain rfl:j=n:=by omega
    have hall:upto K f i j=(K i).flatMap (sub K f):=(by rw[←HN.out];exact upto_all K f i);have HALL:=Zh hall;have hhas:hasL ((outR (upto K f i j) x.rs).map (·.nd)) i=true:=has_iff.2 ⟨x.rs[k].nd,List.mem_map.2 ⟨_,hmem,rfl⟩,HY.out⟩;have HH:=Zh hhas;have hlen:(outR (upto K f i j) x.rs).length≤1000:=by
     have:(outR (upto K f i j) x.rs).length≤x.rs.length:=List.length_filter_le _ _;omega
    have HX:=Zh DD.out.dc;generalize hrs:outR (upto K f i j) x.rs=rs1 at DD HX HH hlen;generalize hfc:fo x.foc (upto K f i j)=fc at DD HX;have HRS:=Zh hrs;have HFC:=Zh hfc;have d0:=HX.out.c0;have d1:=HX.out.c1;have d2:=HX.out.c2;simp only at d0 d1 d2;have hplt:=HX.out.lt (.inl rfl:foot p _ p);clear hhas hall hmem HF hrs hfc;go_wp2_with fail;refine(dropP_yes i wr (by rw[HX.out.has_slot];exact HH.out) HX.out.ar).mono ?_;rintro e w2 ⟨rfl,v',a2,b2,hv2⟩;have A2:=Zh a2;have B2:=Zh b2;have V2:=Zh hv2;have hpA:¬Arm x.a v p:=HX.out.ar.other HX.out.blk (by decide) (by decide);have k2:=(b2.block p hplt hpA).trans HX.out.blk;have K2:=Zh k2;have e1:w2.cell? ⟨p,1,none⟩=some vi:=cell_of_row w2 p 1 _ _ (0,0) k2;have I2:Hid (kI.Own w2 B vi (idsOf (rs1.map (·.nd)))):=Zh (HX.out.ids.but b2 (fun g hg=>by
     obtain⟨d,hd⟩:=HX.out.ids.ty hg;exact HX.out.ar.other hd (by decide) (by decide)))
    have hin:i∈idsOf (rs1.map (·.nd)):=has_ids.1 HH.out;have hnd:(idsOf (rs1.map (·.nd))).Nodup:=by
     have:=HX.out.asc;unfold Asc Dx.l at this;unfold idsOf;rw[List.Nodup,List.pairwise_map];exact this.imp (fun h e=>by omega)
    have hil:(idsOf (rs1.map (·.nd))).length≤1000000:=(by simp[idsOf];omega);have HIN:=Zh hin;have HND:=Zh hnd;clear a2 b2 hv2 hpA k2 hin hnd d0 d1 d2;go_wp2_with fail;refine(without_any (idsOf (rs1.map (·.nd))) i w2 hil HIN.out HND.out I2.out).mono ?_;rintro e w3 ⟨A3,n3,c3,rfl,o3,b3,hat⟩;have O3:=Zh o3;have B3:=Zh b3;have AT3:=Zh hat;have k3:=(b3.block p (heap_lt K2.out) (fun e=>own_not I2.out K2.out (by decide) e.symm)).trans K2.out;have f1:w3.cell? ⟨p,1,none⟩=some vi:=cell_of_row w3 p 1 _ _ (0,0) k3;have g1:w3.frozen? ⟨p,1,none⟩=false:=(by simp[World.frozen?,k3]);have f2:w3.cell? ⟨p,2,none⟩=some (.int .i64 fc):=cell_of_row w3 p 2 _ _ (0,0) k3;have g2:w3.frozen? ⟨p,2,none⟩=false:=(by simp[World.frozen?,k3]);have DE:=Zh (drop_end HX.out HH.out B2.out A2.out V2.out B3.out O3.out AT3.out);have hfin:∀W',Did wr B p ⟨x.a,v,vi,x.R,x.n,fc,rs1⟩ ⟨x.a,v',.slice A3 n3 c3,x.R,x.n,fo fc [i],outR [i] rs1⟩ W'→Dropped w B p x (sub K (f+1) i) (.returned (.tuple #[])) W':=by
     intro W' hd;have hd0:=DD.out;rw[←HRS.out,←HFC.out] at hd hd0;obtain⟨v9,vi9,h9⟩:=SoFar.next hd0 (t:=[i]) (by simpa using Ne.symm hi0) ⟨v',_,hd⟩;refine⟨rfl,v9,vi9,?_⟩;have hm:∀c,c∈upto K f i j++[i]↔c∈sub K (f+1) i:=by
      intro c;rw[HALL.out,sub];simp[or_comm]
     rw[fo_congr hm,outR_congr hm] at h9;exact h9
    have HFIN:=Zh hfin;clear o3 b3 hat k3 e1 hfin;by_cases hfi:fc=i
    ·have hq:(fc==i)=true:=(by simpa using hfi);have HFI:=Zh hfi;clear hfi;go_wp2_with fail
     go_end0
     refine HFIN.out _ ?_;have:=DE.out.trans (DE.out.dc.focus_ 0);rw[show fo fc [i]=0 by unfold fo;rw[if_pos (by rw[HFI.out];simp)]];exact this
    ·have hq:(fc==i)=false:=(by simpa using hfi);have HFI:=Zh hfi;clear hfi;go_wp2_with fail
     go_end0
     refine HFIN.out _ ?_;rw[show fo fc [i]=fc by unfold fo;rw[if_neg (by simpa using HFI.out)]];exact DE.out
variable{B p:Nat}{x:Dx}
theorem sub_zero{l:List Nd}(h:Tr (fun y=>hasL l y=true) (parOf l) (kidsOf l))(f:Nat)(c:Int):(0:Int)∉sub (kidsOf l) f c∨c=0:=by
 by_cases e:c=0
 ·exact .inr e
 ·refine .inl fun hm=>e ?_
  obtain⟨j,hj⟩:=h.sub_it f c 0 hm;rw[h.it0] at hj;exact hj.symm
theorem remove_any(i:Int)(w:World)(hwf:WF x.d)(h:Dc w B p x):Calls Tryz.prog 65 #[.pointer (some ⟨p,0,none⟩),.int .i64 i] w (Made w B p x (errV (goneD x.d i).1) (goneD x.d i).2):=by
 have H:=Zh h;cases hh:hasL x.l i with
 |false=>
  have HH:=Zh hh;have HD:Hid (goneD x.d i=(2,x.d)):=Zh (if_pos hh);clear h hwf hh;go_enter Tryz.func65,Tryz.ntmps65;go_wp2_with fail;refine(has_at i w HH.out H.out).mono ?_;rintro e w1 ⟨rfl,b1⟩;have B1:=Zh b1;clear b1;go_wp2_with fail;go_ret;rw[HD.out];exact Made.same H.out B1.out rfl rfl
 |true=>
  have HH:=Zh hh;have c1:¬hasL x.d.l i=false:=(by rw[show x.d.l=x.l from rfl,hh];simp);by_cases h1:i=1
  ·have hq:(i==1)=true:=(by simpa using h1);have HD:Hid (goneD x.d i=(4,x.d)):=Zh (by unfold goneD;rw[if_neg c1,if_pos h1]);clear h hwf hh c1 h1;go_enter Tryz.func65,Tryz.ntmps65;go_wp2_with fail;refine(has_at i w HH.out H.out).mono ?_;rintro e w1 ⟨rfl,b1⟩;have B1:=Zh b1;clear b1;go_wp2_with fail;go_ret;rw[HD.out];exact Made.same H.out B1.out rfl rfl
  ·have hq:(i==1)=false:=(by simpa using h1);have HD:Hid (goneD x.d i=(0,{x.d with l:=goneL x.l i,foc:=fo x.foc (below (leaveL x.l i) i)})):=Zh (by unfold goneD;rw[if_neg c1,if_neg h1];rfl);have HWF:=Zh hwf;have hTr:Tr (fun y=>hasL x.l y=true) (parOf x.l) (kidsOf x.l):=hwf.tr;have hT1:=leave_tr (i:=i) hTr;have HT1:=Zh hT1;have hi0:i≠0:=hTr.ne0 hh;have hi1:hasL (leaveL x.l i) i=true:=(by rw[leave_has];exact hh);have hR:x.rs.length≤200:=(by have h1:=h.ar.len;have h2:=h.ar.room;rw[List.length_map] at h1;omega);have hso:SubOk (leaveL x.l i) (kidsOf (leaveL x.l i)) ((leaveL x.l i).length+1) i:=by
    refine⟨?_,hT1.sub_nodup _ _ hi1,fun c hc=>⟨hT1.sub_h _ _ _ hi1 hc,rfl⟩⟩;have:=hT1.hb_all (L:=idsOf (leaveL x.l i)) (fun y hy=>has_ids.1 hy) hi1;simpa[idsOf] using this
   have HSO:=Zh hso;have HZ:=Zh (sub_zero hT1);have HK0:Hid (∀y,(0:Int)∉kidsOf (leaveL x.l i) y):=Zh (fun y hm=>hT1.z (hT1.kid _ _ hm).2.1);have HKL:Hid (∀y,(kidsOf (leaveL x.l i) y).length≤1000):=Zh (fun y=>by
    have:=nodup_len (kidsOf (leaveL x.l i) y) (idsOf (leaveL x.l i)) (hT1.nod y) (fun c hc=>has_ids.1 (hT1.kid y c hc).2.1);rw[leave_ids] at this;have hxl:(idsOf x.l).length=x.rs.length:=(by simp[idsOf,Dx.l]);omega)
   have HI0:=Zh hi0;clear h hwf hh c1 h1 hTr hT1 hi0 hi1 hso;go_enter Tryz.func65,Tryz.ntmps65;go_wp2_with fail;refine(has_at i w HH.out H.out).mono ?_;rintro e w1 ⟨rfl,b1⟩;have B1:=Zh b1;have H1:=Zh (H.out.below b1);clear b1;go_wp2_with fail;refine(leave_any i w1 HWF.out HH.out H1.out).mono ?_;rintro e w2 ⟨rfl,rs1,d2,hl2,hs2⟩;have D2:=Zh ((Did.below_ H.out B1.out).trans d2);have L2:=Zh hl2;have hlen:rs1.length≤1000:=by
    have:=congrArg List.length hs2;simp only[List.length_map] at this;omega
   clear d2 hl2 hs2;go_wp2_with fail;refine(drop_any (kidsOf (leaveL x.l i)) HZ.out HK0.out HKL.out ((leaveL x.l i).length+1) i (x:={x with rs:=rs1}) w2 HI0.out hlen (by show SubOk (rs1.map (·.nd)) _ _ _;rw[L2.out];exact HSO.out) D2.out.dc).mono ?_;rintro e w3 ⟨rfl,v3,vi3,d3⟩;have D3:=Zh d3;clear d3;go_wp2_with fail;go_ret;rw[HD.out];refine⟨rfl,_,D2.out.trans D3.out,?_⟩;show D.mk ((outR _ rs1).map (·.nd)) x.n x.R _=D.mk (goneL x.l i) x.n x.R _;rw[outR_nd,L2.out];rfl
structure ArgR(w:World)(A:Option Addr)(n c:Nat)(r:Rc):Prop where
 at_:ArgA w A n c r.attrs
 tag:r.tag.size≤maxLen
 txt:r.txt.size≤maxLen
 key:r.key.size≤maxLen
theorem ArgR.below{w w':World}{A:Option Addr}{n c:Nat}{r:Rc}(h:ArgR w A n c r)(hb:Below w.heap.size w w'):ArgR w' A n c r:=⟨h.at_.below hb,h.tag,h.txt,h.key⟩
theorem apply_any(r:Rc)(A:Option Addr)(n c:Nat)(w:World)(hwf:WF x.d)(hn:x.n≤100000)(ha:ArgR w A n c r)(h:Dc w B p x):Calls Tryz.prog 28 #[.pointer (some ⟨p,0,none⟩),.agg #[.int .i64 r.op,.int .i64 r.id,.int .i64 r.par,.int .i64 r.bef,.string r.tag,.string r.txt,.string r.key,.slice A n c]] w (Made w B p x (errV (applyD x.d r).1) (applyD x.d r).2):=by
 have H:=Zh h;have HWF:=Zh hwf;have B1:Hid (Below w.heap.size w (w.alloc (.cells #[.int .i64 r.op,.int .i64 r.id,.int .i64 r.par,.int .i64 r.bef,.string r.tag,.string r.txt,.string r.key,.slice A n c] 71))):=Zh (Zb _ _);have H1:=Zh (h.below B1.out);have HA:=Zh (ha.below B1.out);have hR:x.rs.length≤x.R:=(by have:=h.ar.len;rwa[List.length_map] at this);have s1:=Zh ha.tag;have s2:=Zh ha.txt;have s3:=Zh ha.key;clear h hwf ha;by_cases e1:r.op=1
 ·have q1:(r.op==1)=true:=(by simpa using e1);have HD:Hid (applyD x.d r=makeD x.d r):=Zh (by unfold applyD;simp[e1]);clear e1;go_enter Tryz.func28,Tryz.ntmps28;go_wp2_with fail;refine(create_any r A n c _ hn s1.out s2.out s3.out hR H1.out).mono ?_;rintro e w2 hm;obtain⟨rfl,x2,d2,hx2⟩:=hm;have D2:=Zh ((Did.below_ H.out B1.out).trans d2);have X2:=Zh hx2;clear d2 hx2;go_wp2_with fail;go_ret;rw[HD.out];exact⟨rfl,x2,D2.out,X2.out⟩
 have q1:(r.op==1)=false:=(by simpa using e1);by_cases e2:r.op=2
 ·have q2:(r.op==2)=true:=(by simpa using e2);have HD:Hid (applyD x.d r=putD x.d r.id r.par r.bef):=Zh (by unfold applyD;simp[e1,e2]);clear e2 e1;go_enter Tryz.func28,Tryz.ntmps28;go_wp2_with fail;refine(put_any r.id r.par r.bef _ HWF.out H1.out).mono ?_;rintro e w2 hm;obtain⟨rfl,x2,d2,hx2⟩:=hm;have D2:=Zh ((Did.below_ H.out B1.out).trans d2);have X2:=Zh hx2;clear d2 hx2;go_wp2_with fail;go_ret;rw[HD.out];exact⟨rfl,x2,D2.out,X2.out⟩
 have q2:(r.op==2)=false:=(by simpa using e2);by_cases e3:r.op=3
 ·have q3:(r.op==3)=true:=(by simpa using e3);have HD:Hid (applyD x.d r=goneD x.d r.id):=Zh (by unfold applyD;simp[e1,e2,e3]);clear e3 e1 e2;go_enter Tryz.func28,Tryz.ntmps28;go_wp2_with fail;refine(remove_any r.id _ HWF.out H1.out).mono ?_;rintro e w2 hm;obtain⟨rfl,x2,d2,hx2⟩:=hm;have D2:=Zh ((Did.below_ H.out B1.out).trans d2);have X2:=Zh hx2;clear d2 hx2;go_wp2_with fail;go_ret;rw[HD.out];exact⟨rfl,x2,D2.out,X2.out⟩
 have q3:(r.op==3)=false:=(by simpa using e3);by_cases e4:r.op=4
 ·have q4:(r.op==4)=true:=(by simpa using e4);have HD:Hid (applyD x.d r=attrsD x.d r.id r.attrs):=Zh (by unfold applyD;simp[e1,e2,e3,e4]);clear e4 e1 e2 e3;go_enter Tryz.func28,Tryz.ntmps28;go_wp2_with fail;refine(setAttrs_any r.id A n c r.attrs _ HA.out.at_ H1.out).mono ?_;rintro e w2 hm;obtain⟨rfl,x2,d2,hx2⟩:=hm;have D2:=Zh ((Did.below_ H.out B1.out).trans d2);have X2:=Zh hx2;clear d2 hx2;go_wp2_with fail;go_ret;rw[HD.out];exact⟨rfl,x2,D2.out,X2.out⟩
 have q4:(r.op==4)=false:=(by simpa using e4);by_cases e5:r.op=5
 ·have q5:(r.op==5)=true:=(by simpa using e5);have HD:Hid (applyD x.d r=dataD x.d r.id r.txt):=Zh (by unfold applyD;simp[e1,e2,e3,e4,e5]);clear e5 e1 e2 e3 e4;go_enter Tryz.func28,Tryz.ntmps28;go_wp2_with fail;refine(setText_any r.id r.txt _ s2.out H1.out).mono ?_;rintro e w2 hm;obtain⟨rfl,x2,d2,hx2⟩:=hm;have D2:=Zh ((Did.below_ H.out B1.out).trans d2);have X2:=Zh hx2;clear d2 hx2;go_wp2_with fail;go_ret;rw[HD.out];exact⟨rfl,x2,D2.out,X2.out⟩
 have q5:(r.op==5)=false:=(by simpa using e5);have HD:Hid (applyD x.d r=(1,x.d)):=Zh (by unfold applyD;simp[e1,e2,e3,e4,e5]);clear e1 e2 e3 e4 e5;go_enter Tryz.func28,Tryz.ntmps28;go_wp2_with fail;go_ret;rw[HD.out];exact Made.same H.out B1.out rfl rfl
end P5
namespace P3
open Go.RowKit
theorem fewA_long{l:List At}(h:20<l.length):fewA l=false:=by unfold fewA;simp;omega
theorem fewA_bad{l:List At}{k:Nat}(hk:k<l.length)(h:shortA l[k]=false):fewA l=false:=by
 unfold fewA;have:l.all shortA=false:=by
  rw[List.all_eq_false];exact⟨l[k],List.getElem_mem hk,by simp[h]⟩
 rw[this,Bool.and_false]
def ShortTo(l:List At)(k:Nat):Prop:=∀j (h:j<l.length),j<k→shortA l[j]=true
theorem ShortTo.zero(l:List At):ShortTo l 0:=fun _ _ h=>absurd h (by omega)
theorem ShortTo.next{l:List At}{k:Nat}(h:ShortTo l k)(hk:k<l.length)(hb:shortA l[k]=true):ShortTo l (k+1):=by
 intro j hj hlt;by_cases e:j=k
 ·subst e;exact hb
 ·exact h j hj (by omega)
theorem ShortTo.all{l:List At}{k:Nat}(h:ShortTo l k)(hl:l.length≤k)(h20:l.length≤20):fewA l=true:=by
 unfold fewA;have:l.all shortA=true:=by
  rw[List.all_eq_true];intro x hx;obtain⟨j,hj,rfl⟩:=List.getElem_of_mem hx;exact h j hj (by omega)
 rw[this,Bool.and_true];exact decide_eq_true h20
def fewN(l:List At):Int:=if fewA l then 1 else 0
theorem ret_few{l:List At}{b:Bool}{x:Int}(h:fewA l=b)(hx:x=if b then 1 else 0):Ending.returned (.int .i64 x) = .returned (.int .i64 (fewN l)):=by
 unfold fewN;rw[h,hx]
theorem short_no{a:At}(h:100<a.nm.size∨100<a.vl.size):shortA a=false:=by
 unfold shortA;rcases h with h|h<;>simp<;>omega
theorem short_yes{a:At}(h:a.nm.size≤100)(h2:a.vl.size≤100):shortA a=true:=by
 unfold shortA;simp[h,h2]
theorem few_any(l:List At)(A:Option Addr)(n c:Nat)(w:World)(hn:l.length=n)(hl:n≤9223372036854775807)(H:Holds w w.heap.size A l):
 Calls Tryz.prog 23 #[.slice A n c] w fun e w'=>e = .returned (.int .i64 (fewN l))∧w=w':=by
 have HH:=Zh H;have HN:=Zh hn;clear H hn;go_enter Tryz.func23,Tryz.ntmps23;go_wp2_with fail;go_loop [3] (fun i=>∃k:Nat,k≤n∧k≤20∧i = .int .i64 k∧Hid (ShortTo l k)) (fun i=>n-(intOf i).toNat)
 case atStart=>exact⟨0,by omega,by omega,rfl,Zh (ShortTo.zero _)⟩
 case round=>
  obtain⟨k,hk,hk20,rfl,HS⟩:=hrel;by_cases hlt:k<n
  ·by_cases h20:k<20
   ·have hlt':k<l.length:=(by have:=HN.out;omega);obtain⟨b,o,rfl,hb,h0,h1,h2⟩:=HH.out k hlt';by_cases hs1:100<l[k].nm.size
    ·go_wp2_with fail;go_ret;exact⟨ret_few (fewA_bad hlt' (short_no (.inl hs1))) rfl,rfl⟩
    ·by_cases hs2:100<l[k].vl.size
     ·go_wp2_with fail;go_ret;exact⟨ret_few (fewA_bad hlt' (short_no (.inr hs2))) rfl,rfl⟩
     ·go_wp2_with fail;go_round
      case rel=>exact⟨k+1,by omega,by omega,by go_num,Zh (HS.out.next hlt' (short_yes (by omega) (by omega)))⟩
      case measure=>simp[intOf];omega
   ·obtain rfl:k=20:=by omega
    by_cases hn20:20<n
    ·go_wp2_with fail;go_ret;exact⟨ret_few (fewA_long (by have:=HN.out;omega)) rfl,rfl⟩
    ·exact absurd hlt hn20
  ·obtain rfl:k=n:=by omega
   go_wp2_with fail;go_ret;exact⟨ret_few (HS.out.all (by have:=HN.out;omega) (by have:=HN.out;omega)) rfl,rfl⟩
end P3
namespace P5
open Go.RowKit Kd P4
variable{B p:Nat}{x:Dx}
structure DeedOk(w:World)(r:RE):Prop where
 what1:-9223372036854775808≤r.what
 what2:r.what≤9223372036854775807
 tag:r.tag.size≤maxLen
 txt:r.txt.size≤maxLen
 key:r.key.size≤maxLen
 at_:∃l:List P3.At,l.length=r.va.n∧r.va.n≤r.va.c∧r.va.c≤maxLen∧(r.va.A=none→r.va.c=0)∧kA.Holds w w.heap.size r.va.A l∧P3.Wf l
theorem DeedOk.below{w w':World}{r:RE}(h:DeedOk w r)(hb:Below w.heap.size w w'):DeedOk w' r:=by
 obtain⟨l,h1,h2,h3,h4,h5,h6⟩:=h.at_;exact⟨h.what1,h.what2,h.tag,h.txt,h.key,l,h1,h2,h3,h4,h5.on hb,h6⟩
theorem cell_of_deeds{w:World}{B:Nat}{A:Option Addr}{l:List RE}(h:kE.Holds w B A l){k:Nat}(hk:k<l.length):
 ∃b o,A=some ⟨b,o,none⟩∧b<B∧w.cell? ⟨b,o+k*12,none⟩=some (.int .i64 l[k].what)∧w.cell? ⟨b,o+k*12+1,none⟩=some (.bool l[k].next)∧
  w.cell? ⟨b,o+k*12+2,none⟩=some (.int .i64 l[k].op)∧w.cell? ⟨b,o+k*12+3,none⟩=some (.int .i64 l[k].rid)∧w.cell? ⟨b,o+k*12+4,none⟩=some (.int .i64 l[k].par)∧w.cell? ⟨b,o+k*12+5,none⟩=some (.int .i64 l[k].bef)∧
  w.cell? ⟨b,o+k*12+6,none⟩=some (.string l[k].tag)∧w.cell? ⟨b,o+k*12+7,none⟩=some (.string l[k].txt)∧w.cell? ⟨b,o+k*12+8,none⟩=some (.string l[k].key)∧w.cell? ⟨b,o+k*12+9,none⟩=some (.slice l[k].va.A l[k].va.n l[k].va.c)∧
  w.cell? ⟨b,o+k*12+10,none⟩=some (.int .i64 l[k].id)∧w.cell? ⟨b,o+k*12+11,none⟩=some (.int .i64 l[k].n):=by
 obtain⟨b,o,rfl,hb,hc⟩:=h.at hk;exact⟨b,o,rfl,hb,hc 0 _ rfl,hc 1 _ rfl,hc 2 _ rfl,hc 3 _ rfl,hc 4 _ rfl,hc 5 _ rfl,hc 6 _ rfl,hc 7 _ rfl,hc 8 _ rfl,hc 9 _ rfl,hc 10 _ rfl,hc 11 _ rfl⟩
def Recd(w:World)(r:RE)(n:Int)(e:Ending)(w':World):Prop:=
 e = .returned (.agg #[.int .i64 r.op,.int .i64 (if r.next=true∧r.op=1 then n+1 else r.rid),.int .i64 r.par,.int .i64 r.bef,.string r.tag,.string r.txt,.string r.key,.slice r.va.A r.va.n r.va.c])∧Below w.heap.size w w'
theorem rec_any(r:RE)(w:World)(hn:x.n≤100000)(h:Dc w B p x):Calls Tryz.prog 27 #[.pointer (some ⟨p,0,none⟩),.agg #[.int .i64 r.what,.bool r.next,.int .i64 r.op,.int .i64 r.rid,.int .i64 r.par,.int .i64 r.bef,.string r.tag,.string r.txt,.string r.key,.slice r.va.A r.va.n r.va.c,.int .i64 r.id,.int .i64 r.n]] w (Recd w r x.n):=by
 obtain⟨what,next,op,rid,par,bef,tag,txt,key,⟨vA,vn,vc⟩,id,dn⟩:=r;simp only;have H:=Zh h;have B2:Hid (Below w.heap.size w ((w.alloc (.cells #[.int .i64 what,.bool next,.int .i64 op,.int .i64 rid,.int .i64 par,.int .i64 bef,.string tag,.string txt,.string key,.slice vA vn vc,.int .i64 id,.int .i64 dn] 73)).alloc (.cells #[.int .i64 0,.int .i64 0,.int .i64 0,.int .i64 0,.string ⟨#[]⟩,.string ⟨#[]⟩,.string ⟨#[]⟩,.slice none 0 0] 71))):=Zh ((Zb _ _).alloc (by simp) _);have H2:=Zh (h.below B2.out);have hz:w.heap.size+1<w.heap.size+1+1:=(by omega);clear h;cases next with
 |false=>
  go_enter Tryz.func27,Tryz.ntmps27;go_wp2_with fail;refine bodyPost_ret (v:=.agg #[.int .i64 op,.int .i64 rid,.int .i64 par,.int .i64 bef,.string tag,.string txt,.string key,.slice vA vn vc]) (by simp[results,Tryz.results27,go_sem]) rfl ⟨by simp,?_⟩;exact(by repeat (first|exact Ze|refine Below.drew ?_|refine Below.alloc ?_ (by first|exact Zl|(simp;done)|(simp;omega)) _|refine Below.setCell ?_ (by first|exact Zl|(simp;done)|(simp;omega)) _))
 |true=>
  by_cases ho:op=1
  ·have hq:(op==1)=true:=(by simpa using ho);have HO:=Zh ho;clear ho;go_enter Tryz.func27,Tryz.ntmps27;go_wp2_with fail;refine(next_any _ hn rfl H2.out).mono ?_;rintro e w' ⟨rfl,rfl⟩;go_wp2_with fail;refine bodyPost_ret (v:=.agg #[.int .i64 op,.int .i64 (x.n+1),.int .i64 par,.int .i64 bef,.string tag,.string txt,.string key,.slice vA vn vc]) (by simp[results,Tryz.results27,go_sem]) rfl ⟨by simp[HO.out],?_⟩;exact(by repeat (first|exact Ze|refine Below.drew ?_|refine Below.alloc ?_ (by first|exact Zl|(simp;done)|(simp;omega)) _|refine Below.setCell ?_ (by first|exact Zl|(simp;done)|(simp;omega)) _))
  ·have hq:(op==1)=false:=(by simpa using ho);have HO:=Zh ho;clear ho;go_enter Tryz.func27,Tryz.ntmps27;go_wp2_with fail;refine bodyPost_ret (v:=.agg #[.int .i64 op,.int .i64 rid,.int .i64 par,.int .i64 bef,.string tag,.string txt,.string key,.slice vA vn vc]) (by simp[results,Tryz.results27,go_sem]) rfl ⟨by simp[HO.out],?_⟩;exact(by repeat (first|exact Ze|refine Below.drew ?_|refine Below.alloc ?_ (by first|exact Zl|(simp;done)|(simp;omega)) _|refine Below.setCell ?_ (by first|exact Zl|(simp;done)|(simp;omega)) _))
end P5
namespace P5
open Go.RowKit Go.ChangeShapes Go.WideShapes Go.Deep Kd P4
theorem open_fuel{P:Program}{α:Type}(K:Kind P α){H:Type}{enc:TypeId×Value→H}{w:World}{cs:List Value}{x:DataW H×List MemPlace}{fuel:Nat}(inh:α)(Wf:α→Prop)
 (hce:P.cellsOf K.e=K.size) (hel:∀fuel cs x,DataW.trod enc P w 0 (fun _=>true) true fuel K.e cs=some x→cs.length=K.size→∃a,cs=K.cs a∧Wf a)
 (hf:DataW.trod enc P w 0 (fun _=>true) true fuel K.t cs=some x):
 ∃A n c l,cs=[.slice A n c]∧l.length=n∧n≤c∧c≤maxLen∧(A=none→c=0)∧(∀a∈l,Wf a)∧K.Holds w w.heap.size A l:=by
 rcases open_slice K.ht hf with⟨hcs,_⟩|⟨ad,len,cap,m,n,D,Pl,hcs,hb,hl,hm,hmm,_,hi⟩
 ·exact⟨none,0,0,[],hcs,rfl,Zl,by unfold maxLen;omega,fun _=>rfl,fun _ h=>absurd h (by simp),Kind.Holds.nil _ _ _⟩
 ·have hmc:m=cap:=(by simpa using hmm);subst hmc;have each:∀i,i<len→∃x:α,Wf x∧∀j,j<K.size→w.cell? (ad.add (i*K.size+j))=(K.cs x)[j]?:=by
   intro i hil;obtain⟨cs',h1,h2⟩:=hi i (by omega);rw[hce] at h1;obtain⟨_,hlen,hcell⟩:=World.cells?_some h1;obtain⟨x,rfl,hw⟩:=hel _ _ _ h2 hlen;refine⟨x,hw,fun j hj=>?_⟩;have:=hcell j hj;rwa[add_add] at this
  have hinh:Inhabited α:=⟨inh⟩;obtain⟨f,hfx⟩:=choose_lt each;refine⟨_,_,_,(List.range len).map f,hcs,by simp,hl,hm,fun e=>(by cases e),fun x hx=>?_,fun j u hj=>?_⟩
  ·obtain⟨i,hi',rfl⟩:=List.mem_map.1 hx;exact(hfx i (List.mem_range.1 hi')).1
  ·have hjl:j<len*K.size:=by
    have:=(List.getElem?_eq_some_iff.1 hj).1;rw[Kind.cells_len] at this;simpa using this
   have hpos:=K.hpos;have hdm:K.size*(j/K.size)+j % K.size=j:=Nat.div_add_mod j K.size;have hmod:j % K.size<K.size:=Nat.mod_lt _ hpos;have hdiv:j/K.size<len:=(by rw[Nat.div_lt_iff_lt_mul hpos];exact hjl);have hje:j/K.size*K.size+j % K.size=j:=(by rw[Nat.mul_comm];exact hdm);have hk:j/K.size<((List.range len).map f).length:=(by simpa using hdiv);have hcell:=(hfx _ hdiv).2 _ hmod;rw[hje] at hcell;have hat:=K.cells_at _ _ hk _ hmod;rw[hje,hj] at hat;have hcu:w.cell? (ad.add j)=some u:=(by rw[hcell,hat];simp);have hsp:ad.spot=Option.none:=by
    have z0:=(hfx 0 (Nat.lt_of_le_of_lt (Nat.zero_le _) hdiv)).2 0 hpos;rw[List.getElem?_eq_getElem (by rw[K.len];exact hpos)] at z0;exact spot_none (a:=ad) (by simpa[Addr.add] using z0)
   obtain⟨b,o,sp⟩:=ad;simp only at hsp;subst hsp;rw[add_plain] at hcu;exact⟨b,o,rfl,block_lt_of_cell hcu,hcu⟩
theorem cellsI:Tryz.prog.cellsOf 3=1:=by kernel_rfl
theorem cellsI64:Tryz.prog.cellsOf 2=1:=by kernel_rfl
theorem cellsS:Tryz.prog.cellsOf 9=1:=by kernel_rfl
theorem cellsB:Tryz.prog.cellsOf 4=1:=by kernel_rfl
theorem cellsLA:Tryz.prog.cellsOf 46=1:=by kernel_rfl
theorem cellsAt:Tryz.prog.cellsOf 121=3:=by kernel_rfl
theorem cellsRec:Tryz.prog.cellsOf 71=8:=by kernel_rfl
theorem cellsDe:Tryz.prog.cellsOf 73=12:=by kernel_rfl
theorem open_at{H:Type}{enc:TypeId×Value→H}{w:World}{fuel:Nat}{cs:List Value}{x:DataW H×List MemPlace}(hx:DataW.trod enc Tryz.prog w 0 (fun _=>true) true fuel 121 cs=some x)(hlen:cs.length=3):
 ∃a:P3.At,cs=kA.cs a∧(a.nm.size≤maxLen∧a.vl.size≤maxLen):=by
 obtain⟨xs,k,hk,hxy,_,hxl,hg⟩:=DataW.trod_struct Tryz.underlying121 hx
 match cs,hlen with
 |[v0,v1,v2],_=>
  have g0:=hg 0 _ rfl;have g1:=hg 1 _ rfl;have g2:=hg 2 _ rfl;simp[cellsS,cellsB] at g0 g1 g2;have x0:xs[0]? = some (xs[0]'(by rw[hxl];decide)):=List.getElem?_eq_getElem _;have x1:xs[1]? = some (xs[1]'(by rw[hxl];decide)):=List.getElem?_eq_getElem _;have x2:xs[2]? = some (xs[2]'(by rw[hxl];decide)):=List.getElem?_eq_getElem _;rw[x0] at g0;rw[x1] at g1;rw[x2] at g2;obtain⟨s0,hs0,_,hz0⟩:=DataW.trod_string Tryz.underlying9 g0;obtain⟨s1,hs1,_,hz1⟩:=DataW.trod_string Tryz.underlying9 g1;obtain⟨s2,hs2,_⟩:=DataW.trod_bool Tryz.underlying4 g2;injection hs0 with hs0 _;injection hs1 with hs1 _;injection hs2 with hs2 _;subst hs0;subst hs1;subst hs2;exact⟨⟨s0,s1,s2⟩,rfl,hz0,hz1⟩
theorem open_deed{H:Type}{enc:TypeId×Value→H}{w:World}{fuel:Nat}{cs:List Value}{x:DataW H×List MemPlace}(hx:DataW.trod enc Tryz.prog w 0 (fun _=>true) true fuel 73 cs=some x)(hlen:cs.length=12):
 ∃a:RE,cs=kE.cs a∧DeedOk w a:=by
 obtain⟨xs,k,hk,hxy,_,hxl,hg⟩:=DataW.trod_struct Tryz.underlying73 hx
 match cs,hlen with
 |[v0,v1,v2,v3,v4,v5,v6,v7,v8,v9,v10,v11],_=>
  have g0:=hg 0 _ rfl;have g1:=hg 1 _ rfl;have g2:=hg 2 _ rfl;have g3:=hg 3 _ rfl;have g4:=hg 4 _ rfl;simp[cellsI,cellsB,cellsRec,cellsI64] at g0 g1 g2 g3 g4;have x0:xs[0]? = some (xs[0]'(by rw[hxl];decide)):=List.getElem?_eq_getElem _;have x1:xs[1]? = some (xs[1]'(by rw[hxl];decide)):=List.getElem?_eq_getElem _;have x2:xs[2]? = some (xs[2]'(by rw[hxl];decide)):=List.getElem?_eq_getElem _;have x3:xs[3]? = some (xs[3]'(by rw[hxl];decide)):=List.getElem?_eq_getElem _;have x4:xs[4]? = some (xs[4]'(by rw[hxl];decide)):=List.getElem?_eq_getElem _;rw[x0] at g0;rw[x1] at g1;rw[x2] at g2;rw[x3] at g3;rw[x4] at g4;obtain⟨s0,hs0,_,hz0⟩:=DataW.trod_int Tryz.underlying3 g0;obtain⟨s1,hs1,_⟩:=DataW.trod_bool Tryz.underlying4 g1;obtain⟨s10,hs10,_⟩:=DataW.trod_int Tryz.underlying3 g3;obtain⟨s11,hs11,_⟩:=DataW.trod_int Tryz.underlying2 g4;obtain⟨ys,k',hk',hxy',_,hyl,hh⟩:=DataW.trod_struct Tryz.underlying71 g2;have y0:=hh 0 _ rfl;have y1:=hh 1 _ rfl;have y2:=hh 2 _ rfl;have y3:=hh 3 _ rfl;have y4:=hh 4 _ rfl;have y5:=hh 5 _ rfl;have y6:=hh 6 _ rfl;have y7:=hh 7 _ rfl;simp[cellsI,cellsS,cellsLA] at y0 y1 y2 y3 y4 y5 y6 y7;have z0:ys[0]? = some (ys[0]'(by rw[hyl];decide)):=List.getElem?_eq_getElem _;have z1:ys[1]? = some (ys[1]'(by rw[hyl];decide)):=List.getElem?_eq_getElem _;have z2:ys[2]? = some (ys[2]'(by rw[hyl];decide)):=List.getElem?_eq_getElem _;have z3:ys[3]? = some (ys[3]'(by rw[hyl];decide)):=List.getElem?_eq_getElem _;have z4:ys[4]? = some (ys[4]'(by rw[hyl];decide)):=List.getElem?_eq_getElem _;have z5:ys[5]? = some (ys[5]'(by rw[hyl];decide)):=List.getElem?_eq_getElem _;have z6:ys[6]? = some (ys[6]'(by rw[hyl];decide)):=List.getElem?_eq_getElem _;have z7:ys[7]? = some (ys[7]'(by rw[hyl];decide)):=List.getElem?_eq_getElem _;rw[z0] at y0;rw[z1] at y1;rw[z2] at y2;rw[z3] at y3;rw[z4] at y4;rw[z5] at y5;rw[z6] at y6;rw[z7] at y7;obtain⟨t0,ht0,_⟩:=DataW.trod_int Tryz.underlying3 y0;obtain⟨t1,ht1,_⟩:=DataW.trod_int Tryz.underlying3 y1;obtain⟨t2,ht2,_⟩:=DataW.trod_int Tryz.underlying3 y2;obtain⟨t3,ht3,_⟩:=DataW.trod_int Tryz.underlying3 y3;obtain⟨t4,ht4,_,hl4⟩:=DataW.trod_string Tryz.underlying9 y4;obtain⟨t5,ht5,_,hl5⟩:=DataW.trod_string Tryz.underlying9 y5;obtain⟨t6,ht6,_,hl6⟩:=DataW.trod_string Tryz.underlying9 y6;obtain⟨A,n,c,l,ht7,b1,b2,b3,b4,b5,b6⟩:=open_fuel kA (⟨⟨#[]⟩,⟨#[]⟩,false⟩:P3.At) (fun a=>a.nm.size≤maxLen∧a.vl.size≤maxLen) cellsAt (fun _ _ _ h hl=>open_at h hl) y7;injection hs0 with hs0 _;injection hs1 with hs1 _;injection hs10 with hs10 _;injection hs11 with hs11 _;injection ht0 with ht0 _;injection ht1 with ht1 _;injection ht2 with ht2 _;injection ht3 with ht3 _;injection ht4 with ht4 _;injection ht5 with ht5 _;injection ht6 with ht6 _;injection ht7 with ht7 _;subst hs0;subst hs1;subst hs10;subst hs11;subst ht0;subst ht1;subst ht2;subst ht3;subst ht4;subst ht5;subst ht6;subst ht7;simp[Lit.wf] at hz0;exact⟨⟨s0,s1,t0,t1,t2,t3,t4,t5,t6,⟨A,n,c⟩,s10,s11⟩,rfl,⟨hz0.1,hz0.2,hl4,hl5,hl6,l,b1,b2,b3,b4,b6,b5⟩⟩
theorem open_deeds{H:Type}{enc:TypeId×Value→H}{w:World}{v:Value}{d:DataW H}{p:List MemPlace}{base:Nat}
 (hv:Value.okWide Tryz.prog w .any base 22 v) (h:DataW.Trod enc Tryz.prog w 0 (fun _=>true) true 22 v d p):
 ∃A n c l,v = .slice A n c∧l.length=n∧n≤c∧c≤maxLen∧(∀a∈l,DeedOk w a)∧kE.Holds w w.heap.size A l:=by
 obtain⟨a,len,cap,rfl⟩:=okWide_slice Tryz.underlying22 hv;obtain⟨fuel,hf⟩:=h;obtain⟨A,n,c,l,hcs,h1,h2,h3,_,h5,h6⟩:=open_fuel kE (⟨0,false,0,0,0,0,⟨#[]⟩,⟨#[]⟩,⟨#[]⟩,⟨none,0,0⟩,0,0⟩:RE) (DeedOk w) cellsDe (fun _ _ _ h hl=>open_deed h hl) hf;have e:Value.slice a len cap = .slice A n c:=(by simpa[Value.cells] using hcs);exact⟨A,n,c,l,e,h1,h2,h3,h5,h6⟩
end P5
namespace P4
open Go.RowKit Go.ChangeShapes Go.WideShapes Go.Deep Kd
theorem cellsI_:Tryz.prog.cellsOf 3=1:=by kernel_rfl
theorem open_ints{H:Type}{enc:TypeId×Value→H}{w:World}{v:Value}{d:DataW H}{p:List MemPlace}{base:Nat}
 (hv:Value.okWide Tryz.prog w .any base 23 v) (h:DataW.Trod enc Tryz.prog w 0 (fun _=>true) true 23 v d p):
 ∃A n c l,v = .slice A n c∧l.length=n∧n≤c∧c≤maxLen∧kI.Holds w w.heap.size A l:=by
 obtain⟨A,n,c,l,h1,h2,h3,h4,_,h5⟩:=kI.open_ (base:=base) (0:Int) (fun _=>True) cellsI_ (fun fuel cs x hx _=>by
  obtain⟨z,rfl,_⟩:=DataW.trod_int Tryz.underlying3 hx;exact⟨z,rfl,trivial⟩) hv h
 exact⟨A,n,c,l,h1,h2,h3,h4,h5⟩
end P4
namespace P19
open P5
abbrev Sg:=D×List Rc
def doP(s:Sg)(r:Rc):Sg:=((applyD s.1 r).2,if(applyD s.1 r).1=0 then s.2++[r] else s.2)
def nextP(left:List Int)(beh:Int):Int:=match left with
 |[]=>beh
 |i:: _=>i
def e0:ByteArray:=⟨#[]⟩
def recPut(i p b:Int):Rc:=⟨2,i,p,b,e0,e0,e0,[]⟩
def recGone(i:Int):Rc:=⟨3,i,0,0,e0,e0,e0,[]⟩
def recAttr(i:Int)(a:List P3.At):Rc:=⟨4,i,0,0,e0,e0,e0,a⟩
def recText(i:Int)(t:ByteArray):Rc:=⟨5,i,0,0,e0,t,e0,[]⟩
def recMake(i:Int)(tag txt key:ByteArray):Rc:=⟨1,i,0,0,tag,txt,key,[]⟩
def putsP(par b:Int)(l:List Int)(s:Sg):Sg:=l.foldl (fun s i=>doP s (recPut i par b)) s
def gonesP(l:List Int)(s:Sg):Sg:=l.foldl (fun s i=>doP s (recGone i)) s
def moveP(s:Sg)(par:Int)(left:List Int)(beh id:Int)(k:Nat):Sg×List Int:=
 (if k=0 then s
  else if inside s.1.l s.1.foc id=false then doP s (recPut id par (nextP left 0))
  else putsP par (nextP (left.drop (k+1)) beh) (left.take k) s,left.take k++left.drop (k+1))
theorem doP_wf{s:Sg}(h:WF s.1)(r:Rc):WF (doP s r).1:=wf_apply h r
theorem apply_n(d:D)(r:Rc):(applyD d r).2.n≤d.n+1∧d.n≤(applyD d r).2.n:=by
 unfold applyD;split
 ·unfold makeD;split
  ·simp;omega
  ·split
   ·simp;omega
   ·exact⟨Int.le_refl _,by simp;omega⟩
 split
 ·unfold putD;split<;>simp<;>omega
 split
 ·unfold goneD;split
  ·simp;omega
  ·split<;>simp<;>omega
 split
 ·unfold attrsD;split
  ·simp;omega
  split
  ·simp;omega
  split<;>simp<;>omega
 split
 ·unfold dataD;split
  ·simp;omega
  split
  ·simp;omega
  split<;>simp<;>omega
 ·simp;omega
theorem apply_n2{d:D}{r:Rc}(h:r.op≠1):(applyD d r).2.n=d.n:=by
 unfold applyD;rw[if_neg h];split
 ·unfold putD;split<;>rfl
 split
 ·unfold goneD;split
  ·rfl
  ·split<;>rfl
 split
 ·unfold attrsD;split
  ·rfl
  split
  ·rfl
  split<;>rfl
 split
 ·unfold dataD;split
  ·rfl
  split
  ·rfl
  split<;>rfl
 ·rfl
theorem puts_wf(par b:Int):∀(l:List Int) {s:Sg},WF s.1→WF (putsP par b l s).1∧(putsP par b l s).1.n=s.1.n∧(putsP par b l s).2.length≤s.2.length+l.length
 |[],_,h=>⟨h,rfl,by simp[putsP]⟩
 |i:: l,s,h=>by
  have h1:=doP_wf h (recPut i par b);obtain⟨h2,h3,h4⟩:=puts_wf par b l h1;refine⟨h2,h3.trans (apply_n2 (r:=recPut i par b) (show(2:Int)≠1 by decide)),?_⟩;show(putsP par b l (doP s (recPut i par b))).2.length≤_;have h5:(doP s (recPut i par b)).2.length≤s.2.length+1:=(by unfold doP;simp only;split<;>simp);simp only[List.length_cons];omega
theorem puts_snoc(par b:Int)(l:List Int)(i:Int)(s:Sg):putsP par b (l++[i]) s=doP (putsP par b l s) (recPut i par b):=by
 unfold putsP;rw[List.foldl_append];rfl
def In(l:List Nd)(p y:Int):Prop:=∃k,it (parOf l) (k+1) y=p
def Stays(d d':D)(p:Int):Prop:=∀y,hasL d.l y=true→¬In d.l p y→hasL d'.l y=true∧parOf d'.l y=parOf d.l y
theorem Stays.refl(d:D)(p:Int):Stays d d p:=fun _ h _=>⟨h,rfl⟩
theorem in_kid{l:List Nd}{p y:Int}(h:parOf l y=p):In l p y:=⟨0,h⟩
theorem in_up{l:List Nd}{p y:Int}(h:In l p (parOf l y)):In l p y:=by
 obtain⟨k,hk⟩:=h;exact⟨k+1,hk⟩
section
variable{d d' d2:D}{p:Int}
theorem stays_it(hw:WF d)(hw':WF d')(h:Stays d d' p){y:Int}(hy:hasL d.l y=true)(hn:¬In d.l p y):
 ∀k,it (parOf d'.l) k y=it (parOf d.l) k y∧(it (parOf d.l) k y=0∨hasL d.l (it (parOf d.l) k y)=true∧¬In d.l p (it (parOf d.l) k y))
 |0=>⟨rfl,.inr ⟨hy,hn⟩⟩
 |k+1=>by
  obtain⟨e,hc⟩:=stays_it hw hw' h hy hn k;rw[it_succ,it_succ,e];rcases hc with hc|⟨h1,h2⟩
  ·rw[hc,hw.tr.zero,hw'.tr.zero];exact⟨rfl,.inl rfl⟩
  ·refine⟨(h _ h1 h2).2,?_⟩;by_cases e0:parOf d.l (it (parOf d.l) k y)=0
   ·exact .inl e0
   ·exact .inr ⟨hw.tr.hpar e0,fun hi=>h2 (in_up hi)⟩
theorem stays_not(hw:WF d)(hw':WF d')(h:Stays d d' p){y:Int}(hy:hasL d.l y=true)(hn:¬In d.l p y):¬In d'.l p y:=by
 rintro⟨k,hk⟩;rw[(stays_it hw hw' h hy hn (k+1)).1] at hk;exact hn ⟨k,hk⟩
theorem Stays.trans(hw:WF d)(hw':WF d')(h:Stays d d' p)(h2:Stays d' d2 p):Stays d d2 p:=fun y hy hn=>by
 obtain⟨a1,a2⟩:=h y hy hn;obtain⟨b1,b2⟩:=h2 y a1 (stays_not hw hw' h hy hn);exact⟨b1,b2.trans a2⟩
theorem Stays.up{i:Int}(hi:parOf d.l i=p)(h:Stays d d' i):Stays d d' p:=fun y hy hn=>h y hy fun⟨k,hk⟩=>hn ⟨k+1,by rw[it_succ,hk];exact hi⟩
theorem not_in{i j:Int}(hw:WF d)(hp:p≠0)(hi:parOf d.l i=p)(hj:parOf d.l j=p):¬In d.l i j:=by
 rintro⟨k,hk⟩;have h1:it (parOf d.l) k p=i:=(by rw[←hj];exact hk);refine hw.tr.no_cycle (x:=p) (j:=k) hp ?_;rw[it_succ,h1];exact hi
theorem stays_same(h1:∀y,hasL d'.l y=hasL d.l y)(h2:∀y,parOf d'.l y=parOf d.l y):Stays d d' p:=fun y hy _=>⟨(h1 y).trans hy,h2 y⟩
theorem attrs_same(d:D)(i:Int)(a:List P3.At):(∀y,hasL (attrsD d i a).2.l y=hasL d.l y)∧∀y,parOf (attrsD d i a).2.l y=parOf d.l y:=by
 unfold attrsD;split
 ·exact⟨fun _=>rfl,fun _=>rfl⟩
 split
 ·exact⟨fun _=>rfl,fun _=>rfl⟩
 split
 ·exact⟨fun _=>rfl,fun _=>rfl⟩
 ·refine⟨fun y=>has_upd d.l i (withAttrs a) (fun _=>rfl) y,fun y=>?_⟩;show parOf (upd d.l i (withAttrs a)) y=_;rw[par_upd (f:=withAttrs a) (fun _=>rfl) (g:=fun x=>x.par) (fun _=>rfl)];unfold parOf;cases find d.l y<;>simp
theorem data_same(d:D)(i:Int)(t:ByteArray):(∀y,hasL (dataD d i t).2.l y=hasL d.l y)∧∀y,parOf (dataD d i t).2.l y=parOf d.l y:=by
 unfold dataD;split
 ·exact⟨fun _=>rfl,fun _=>rfl⟩
 split
 ·exact⟨fun _=>rfl,fun _=>rfl⟩
 split
 ·exact⟨fun _=>rfl,fun _=>rfl⟩
 ·refine⟨fun y=>has_upd d.l i (withTxt t) (fun _=>rfl) y,fun y=>?_⟩;show parOf (upd d.l i (withTxt t)) y=_;rw[par_upd (f:=withTxt t) (fun _=>rfl) (g:=fun x=>x.par) (fun _=>rfl)];unfold parOf;cases find d.l y<;>simp
theorem put_par_(hw:WF d)(i b:Int):(∀y,hasL (putD d i p b).2.l y=hasL d.l y)∧∀y,y≠i→parOf (putD d i p b).2.l y=parOf d.l y:=by
 unfold putD;split
 ·rename_i h;have hk:=putErr_ok h;refine⟨fun y=>put_has y,fun y hy=>?_⟩;show parOf (putL d.l i p b) y=_;rw[put_par hw.tr hk.hi,setF_ne _ _ hy,leave_par hw.tr,setF_ne _ _ hy]
 ·exact⟨fun _=>rfl,fun _ _=>rfl⟩
theorem put_at(hw:WF d){i b:Int}(h:parOf d.l i=p):parOf (putD d i p b).2.l i=p:=by
 unfold putD;split
 ·rename_i hk;show parOf (putL d.l i p b) i=_;rw[put_par hw.tr (putErr_ok hk).hi,setF_same]
 ·exact h
theorem put_stays(hw:WF d){i b:Int}(h:parOf d.l i=p):Stays d (putD d i p b).2 p:=fun y hy hn=>by
 have hne:y≠i:=fun e=>hn (in_kid (by rw[e];exact h))
 obtain⟨h1,h2⟩:=put_par_ (p:=p) hw i b;exact⟨(h1 y).trans hy,h2 y hne⟩
theorem gone_keeps(hw:WF d){i y:Int}(hy:hasL d.l y=true)(hne:y≠i)(hn:¬In d.l i y):hasL (goneD d i).2.l y=true∧parOf (goneD d i).2.l y=parOf d.l y:=by
 unfold goneD;split
 ·exact⟨hy,rfl⟩
 split
 ·exact⟨hy,rfl⟩
 ·rename_i hi h1;have hi:hasL d.l i=true:=(by simpa using hi);have hlt:=leave_tr (i:=i) hw.tr;have hb:y∉below (leaveL d.l i) i:=by
   intro hm;obtain⟨j,hj⟩:=hlt.sub_it _ _ _ hm;rw[leave_par hw.tr] at hj;have key:∀j (z:Int),z≠i→¬In d.l i z→it (setF (parOf d.l) i 0) j z≠i:=by
    intro j
    induction j with
    |zero=>intro z hz _ e;exact hz e
    |succ j ih=>
     intro z hz hin e;have e2:it (setF (parOf d.l) i 0) j (parOf d.l z)=i:=by
      have:setF (parOf d.l) i 0 z=parOf d.l z:=setF_ne _ _ hz;rw[←this];exact e
     exact ih (parOf d.l z) (fun e3=>hin (in_kid e3)) (fun h3=>hin (in_up h3)) e2
   exact key j y hne hn hj
  have h2:hasL (goneL d.l i) y=true:=by
   unfold goneL;rw[out_has,leave_has];exact⟨hy,hb⟩
  refine⟨h2,?_⟩;show parOf (goneL d.l i) y=_;have:parOf (goneL d.l i) y=parOf (leaveL d.l i) y:=by
   unfold goneL parOf;rw[out_find,if_neg hb]
  rw[this,leave_par hw.tr,setF_ne _ _ hne]
theorem gone_stays(hw:WF d){i:Int}(h:parOf d.l i=p):Stays d (goneD d i).2 p:=fun y hy hn=>
 gone_keeps hw hy (fun e=>hn (in_kid (by rw[e];exact h))) fun⟨k,hk⟩=>hn ⟨k+1,by rw[it_succ,hk];exact h⟩
theorem make_keeps(d:D)(r:Rc)(hw:WF d){y:Int}(hy:hasL d.l y=true):hasL (makeD d r).2.l y=true∧parOf (makeD d r).2.l y=parOf d.l y:=by
 unfold makeD;split
 ·exact⟨hy,rfl⟩
 split
 ·exact⟨hy,rfl⟩
 ·rename_i h _;have hr:r.id=d.n+1:=by
   by_cases e:r.id=d.n+1
   ·exact e
   ·exact absurd (.inl e) h
  have hne:y≠(newN r.id r.tag r.txt r.key).id:=by
   show y≠r.id;have:=(hw.pos hy).2;omega
  have hno:hasL d.l (newN r.id r.tag r.txt r.key).id=false:=by
   show hasL d.l r.id=false;rw[hr];exact hw.next
  have hf:=find_new (x:=newN r.id r.tag r.txt r.key) hno y;rw[if_neg hne] at hf;refine⟨?_,?_⟩
  ·show hasL (d.l++[newN r.id r.tag r.txt r.key]) y=true;unfold hasL at hy⊢;rw[hf];exact hy
  ·show parOf (d.l++[newN r.id r.tag r.txt r.key]) y=parOf d.l y;unfold parOf;rw[hf]
end
end P19
namespace P13
open Go.RowKit Kd P4 P11 P12
def tellsO(op:Int):Bool:=decide (op=5∨op=6)
def makesO(op:Int):Bool:=decide (op=1∨op=3)
def stepB(k:Nat)(o:List Int)(x:In):List Int:=if x.op=1 then o++[(k:Int)+1] else if x.op=2 then o.dropLast else o
def opensK(l:List In):Nat→List Int
 |0=>[]
 |k+1=>match l[k]? with
  |some x=>stepB k (opensK l k) x
  |none=>opensK l k
def beginP(l:List In)(k:Nat):Int×Nat:=match (opensK l k).getLast? with
 |none=>(0,0)
 |some p=>(p,(opensK l k).length)
def deltaO(op:Int):Int:=if op=1 then 1 else if op=2 then -1 else 0
def stepA(s:List In×Int)(x:In):List In×Int:=(if s.2=0∧x.op≠2 then s.1++[x] else s.1,s.2+deltaO x.op)
def aheadP(l:List In)(k:Nat):List In:=(((l.take k).drop (beginP l k).1.toNat).foldl stepA ([],0)).1
def attrD(l:List In)(a:List UInt8):Nat→Nat→Nat
 |0,_=>9
 |k+1,n=>match l[k]? with
  |none=>9
  |some y=>if tellsO y.op then(if y.a.toList=a then 9 else attrD l a k (n+1)) else if 8≤n then 9 else if makesO y.op then 0 else 9
def keyB(x y:In):Bool:=makesO y.op&&(y.b.toList==x.b.toList)
def wrongAt(l:List In)(k:Nat)(x:In):Nat:=
 if mayI x=false then 7
 else if tellsO x.op then attrD l x.a.toList k 0
 else if x.op=2 then(if(beginP l k).2=0 then 8 else 0)
 else if(aheadP l k).any (fun y=>decide (y.op=7)) then 11
 else if makesO x.op && !x.b.toList.isEmpty&&(aheadP l k).any (keyB x) then 10
 else if x.op=1∧8≤(beginP l k).2 then 12
 else 0
def wrongP(l:List In)(k:Nat):Nat:=match l[k]? with
 |none=>0
 |some x=>wrongAt l k x
def firstW(l:List In):Nat→Nat
 |0=>0
 |k+1=>if firstW l k=0 then wrongP l k else firstW l k
def checkP(l:List In):Nat:=
 if 120<l.length then 13
 else if firstW l l.length=0 then(if 0<(beginP l l.length).2 then 8 else 0)
 else firstW l l.length
theorem opensK_step{l:List In}{k:Nat}(h:k<l.length):opensK l (k+1)=stepB k (opensK l k) l[k]:=by
 rw[opensK,List.getElem?_eq_getElem h]
theorem opensK_in(l:List In):∀k,∀p∈opensK l k,1≤p∧p≤(k:Int)
 |0=>by simp[opensK]
 |k+1=>by
  have ih:=opensK_in l k;intro p hp;rw[opensK] at hp;have key:∀q∈opensK l k,1≤q∧q≤((k+1:Nat):Int):=fun q hq=>by have:=ih q hq;omega
  split at hp
  ·unfold stepB at hp;split at hp
   ·rcases List.mem_append.1 hp with h|h
    ·exact key p h
    ·rw[List.mem_singleton] at h;omega
   ·split at hp
    ·exact key p (List.dropLast_subset _ hp)
    ·exact key p hp
  ·exact key p hp
theorem beginP_none{l:List In}{k:Nat}(h:(opensK l k).length=0):beginP l k=(0,0):=by
 rw[beginP,List.eq_nil_of_length_eq_zero h];rfl
theorem beginP_some{l:List In}{k m:Nat}(hm:m<(opensK l k).length)(h:(opensK l k).length=m+1):beginP l k=((opensK l k)[m],m+1):=by
 have e1:(opensK l k)[(opensK l k).length-1]? = some ((opensK l k)[m]):=by
  rw[show(opensK l k).length-1=m by omega];exact List.getElem?_eq_getElem hm
 rw[beginP,List.getLast?_eq_getElem?,e1];simp only[h]
theorem beginP_snd(l:List In)(k:Nat):(beginP l k).2=(opensK l k).length:=by
 rcases Nat.eq_zero_or_pos (opensK l k).length with h|h
 ·rw[beginP_none h,h]
 ·obtain⟨m,hm⟩:∃m,(opensK l k).length=m+1:=⟨(opensK l k).length-1,by omega⟩;rw[beginP_some (by omega) hm];simp only[hm]
theorem firstW_stays{l:List In}{k:Nat}(h:firstW l k≠0):∀j,firstW l (k+j)=firstW l k
 |0=>rfl
 |j+1=>by
  rw[←Nat.add_assoc,firstW,if_neg (by rw[firstW_stays h j];exact h),firstW_stays h j]
theorem firstW_at{l:List In}{k:Nat}(h:firstW l k=0)(hw:wrongP l k≠0)(hk:k<l.length):firstW l l.length=wrongP l k:=by
 have h1:firstW l (k+1)=wrongP l k:=(by rw[firstW,if_pos h]);have h2:=firstW_stays (l:=l) (k:=k+1) (by rw[h1];exact hw) (l.length-(k+1));rw[show k+1+(l.length-(k+1))=l.length by omega] at h2;rw[h2,h1]
def stepN(s:Option (List (List UInt8)))(x:In):Option (List (List UInt8)):=
 if makesO x.op then some [] else if tellsO x.op then s.map (· ++ [x.a.toList]) else none
def namesK(l:List In):Nat→Option (List (List UInt8))
 |0=>none
 |k+1=>match l[k]? with
  |some x=>stepN (namesK l k) x
  |none=>namesK l k
def attrN(s:Option (List (List UInt8)))(a:List UInt8)(n:Nat):Nat:=match s with
 |none=>9
 |some ns=>if a∈ns∨8≤n+ns.length then 9 else 0
theorem makes_not_tells{op:Int}(h:makesO op=true):tellsO op=false:=by
 simp only[makesO,tellsO,decide_eq_true_eq,decide_eq_false_iff_not] at h⊢;omega
theorem stepN_makes{s:Option (List (List UInt8))}{x:In}(h:makesO x.op=true):stepN s x=some []:=by rw[stepN,if_pos h]
theorem stepN_tells{s:Option (List (List UInt8))}{x:In}(h:tellsO x.op=true):stepN s x=s.map (· ++ [x.a.toList]):=by
 rw[stepN,if_neg (fun e=>by rw[makes_not_tells e] at h;cases h),if_pos h]
theorem stepN_other{s:Option (List (List UInt8))}{x:In}(h:makesO x.op=false)(h':tellsO x.op=false):stepN s x=none:=by
 rw[stepN,if_neg (by rw[h];decide),if_neg (by rw[h'];decide)]
theorem attrN_some(ns:List (List UInt8))(a:List UInt8)(n:Nat):attrN (some ns) a n=if a∈ns∨8≤n+ns.length then 9 else 0:=rfl
theorem attrN_none(a:List UInt8)(n:Nat):attrN none a n=9:=rfl
theorem attrD_names(l:List In)(a:List UInt8):∀(k n:Nat),k≤l.length→attrD l a k n=attrN (namesK l k) a n
 |0,n,_=>rfl
 |k+1,n,h=>by
  have hk:k<l.length:=(by omega);have ih:=attrD_names l a k;rw[attrD,namesK,List.getElem?_eq_getElem hk];simp only;generalize l[k]=x;by_cases hm:makesO x.op=true
  ·rw[makes_not_tells hm,stepN_makes hm,attrN_some,if_neg (by decide),hm];by_cases h8:8≤n
   ·rw[if_pos h8,if_pos (.inr (by simpa using h8))]
   ·rw[if_neg h8,if_pos rfl,if_neg (by simpa using h8)]
  ·by_cases ht:tellsO x.op=true
   ·rw[if_pos ht,ih (n+1) (by omega),stepN_tells ht];cases namesK l k with
    |none=>
     rw[Option.map_none,attrN_none,attrN_none];split<;>rfl
    |some ns=>
     rw[Option.map_some,attrN_some,attrN_some];simp only[List.mem_append,List.mem_singleton,List.length_append,List.length_singleton];by_cases ha:x.a.toList=a
     ·rw[if_pos ha,if_pos (.inl (.inr ha.symm))]
     ·have e:¬a=x.a.toList:=fun e=>ha e.symm
      rw[if_neg ha];by_cases hn:a∈ns
      ·rw[if_pos (.inl hn),if_pos (.inl (.inl hn))]
      ·by_cases h8:8≤n+1+ns.length
       ·rw[if_pos (.inr h8),if_pos (.inr (by omega))]
       ·rw[if_neg (fun o=>o.elim hn h8),if_neg (fun o=>o.elim (fun o=>o.elim hn e) (fun h=>h8 (by omega)))]
   ·have ht:tellsO x.op=false:=(by simpa using ht);have hm:makesO x.op=false:=(by simpa using hm);rw[stepN_other hm ht,attrN_none,ht,hm];by_cases h8:8≤n<;>simp[h8]
def stepP(s:List (List In))(x:In):List (List In):=
 if x.op=1 then s.dropLast++[(s.getLast?.getD [])++[x],[]] else if x.op=2 then s.dropLast else s.dropLast++[(s.getLast?.getD [])++[x]]
def placesK(l:List In):Nat→List (List In)
 |0=>[[]]
 |k+1=>match l[k]? with
  |some x=>stepP (placesK l k) x
  |none=>placesK l k
theorem placesK_step{l:List In}{k:Nat}(h:k<l.length):placesK l (k+1)=stepP (placesK l k) l[k]:=by
 rw[placesK,List.getElem?_eq_getElem h]
theorem namesK_step{l:List In}{k:Nat}(h:k<l.length):namesK l (k+1)=stepN (namesK l k) l[k]:=by
 rw[namesK,List.getElem?_eq_getElem h]
def posK(l:List In)(k t:Nat):Int:=if t=0 then 0 else(opensK l k).getD (t-1) 0
theorem posK_le(l:List In)(k t:Nat):0≤posK l k t∧posK l k t≤k:=by
 unfold posK;split
 ·omega
 ·rw[List.getD_eq_getElem?_getD];cases h:(opensK l k)[t-1]? with
  |none=>simp
  |some p=>
   obtain⟨h1,h2⟩:=List.getElem?_eq_some_iff.1 h;have:=opensK_in l k p (h2▸List.getElem_mem h1);simp only[Option.getD_some];omega
def foldA(l:List In)(k:Nat)(p:Int):List In×Int:=((l.take k).drop p.toNat).foldl stepA ([],0)
theorem foldA_snoc{l:List In}{k:Nat}(h:k<l.length){p:Int}(hp:p≤k):foldA l (k+1) p=stepA (foldA l k p) l[k]:=by
 unfold foldA;rw[List.take_add_one,List.getElem?_eq_getElem h,Option.toList_some,List.drop_append_of_le_length (by rw[List.length_take];omega),List.foldl_append];rfl
structure Pls(l:List In)(k:Nat):Prop where
 len:(placesK l k).length=(opensK l k).length+1
 at_:∀t (h:t<(placesK l k).length),foldA l k (posK l k t)=((placesK l k)[t],((opensK l k).length:Int)-t)
theorem pls_zero(l:List In):Pls l 0:=⟨rfl,fun t h=>by
 simp only[placesK,List.length_singleton] at h;obtain rfl:t=0:=by omega
 simp[foldA,placesK,opensK]⟩
theorem getLastD_at{s:List (List In)}{d:Nat}(hd:d<s.length)(h:s.length=d+1):s.getLast?.getD []=s[d]:=by
 have e:s[s.length-1]? = some s[d]:=by
  rw[show s.length-1=d by omega];exact List.getElem?_eq_getElem hd
 rw[List.getLast?_eq_getElem?,e];rfl
theorem pls_step{l:List In}{k:Nat}(hk:k<l.length)(h:Pls l k)(hc:l[k].op=2→0<(opensK l k).length):Pls l (k+1):=by
 have hP:=placesK_step hk;have hO:=opensK_step hk;have hF:∀t,foldA l (k+1) (posK l k t)=stepA (foldA l k (posK l k t)) l[k]:=fun t=>foldA_snoc hk (posK_le l k t).2
 obtain⟨d,hd⟩:∃d,(opensK l k).length=d:=⟨_,rfl⟩;have hl:=h.len;have hat:=h.at_;rw[hd] at hl hat hc;have hlast:=getLastD_at (s:=placesK l k) (d:=d) (by omega) hl;generalize l[k]=x at hP hO hF hc;have hdl:(placesK l k).dropLast.length=d:=(by rw[List.length_dropLast,hl];omega);have hdg:∀t (h1:t<(placesK l k).dropLast.length),(placesK l k).dropLast[t]=(placesK l k)[t]'(by rw[List.length_dropLast] at h1;omega):=fun t h1=>List.getElem_dropLast h1
 by_cases h1:x.op=1
 ·have eP:placesK l (k+1)=(placesK l k).dropLast++[(placesK l k)[d]'(by omega)++[x],[]]:=(by rw[hP,stepP,if_pos h1,hlast]);have eO:opensK l (k+1)=opensK l k++[(k:Int)+1]:=(by rw[hO,stepB,if_pos h1]);have dl:deltaO x.op=1:=(by rw[deltaO,if_pos h1]);have pos:∀t,t≤d→posK l (k+1) t=posK l k t:=fun t ht=>by
   unfold posK;split
   ·rfl
   ·rw[eO,List.getD_eq_getElem?_getD,List.getD_eq_getElem?_getD,List.getElem?_append_left (by omega)]
  refine⟨by rw[eP,eO];simp[hdl,hd],fun t ht=>?_⟩;have ht2:t<d+2:=(by rw[eP] at ht;simpa[hdl] using ht);have hlen:((opensK l (k+1)).length:Int)=d+1:=(by rw[eO];simp[hd]);rw[hlen];by_cases ht3:t<d
  ·rw[pos t (by omega),hF,hat t (by omega),stepA,dl];simp only;rw[if_neg (by omega)];congr 1
   ·rw[List.getElem_of_eq eP,List.getElem_append_left (by omega),hdg]
   ·omega
  ·by_cases ht4:t=d
   ·subst ht4;rw[pos t (by omega),hF,hat t (by omega),stepA,dl];simp only;rw[if_pos ⟨by omega,by omega⟩];congr 1
    ·rw[List.getElem_of_eq eP,List.getElem_append_right (by omega)];simp[hdl]
    ·omega
   ·obtain rfl:t=d+1:=by omega
    have e:posK l (k+1) (d+1)=(k:Int)+1:=by
     unfold posK;rw[if_neg (by omega),eO,List.getD_eq_getElem?_getD,Nat.add_sub_cancel,List.getElem?_append_right (by omega)];simp[hd]
    rw[e];have e2:foldA l (k+1) ((k:Int)+1)=([],0):=by
     unfold foldA;rw[List.drop_of_length_le (by rw[List.length_take];omega)];rfl
    rw[e2];congr 1
    ·rw[List.getElem_of_eq eP,List.getElem_append_right (by omega)];simp[hdl]
    ·omega
 ·by_cases h2:x.op=2
  ·have hd0:=hc h2;have eP:placesK l (k+1)=(placesK l k).dropLast:=(by rw[hP,stepP,if_neg h1,if_pos h2]);have eO:opensK l (k+1)=(opensK l k).dropLast:=(by rw[hO,stepB,if_neg h1,if_pos h2]);have dl:deltaO x.op = -1:=(by rw[deltaO,if_neg h1,if_pos h2]);refine⟨by rw[eP,eO,hdl,List.length_dropLast];omega,fun t ht=>?_⟩;have ht2:t<d:=(by rw[eP] at ht;omega);have hlen:((opensK l (k+1)).length:Int)=d-1:=(by rw[eO,List.length_dropLast];omega);have pos:posK l (k+1) t=posK l k t:=by
    unfold posK;split
    ·rfl
    ·rw[eO,List.getD_eq_getElem?_getD,List.getD_eq_getElem?_getD,List.dropLast_eq_take,List.getElem?_take,if_pos (by omega)]
   rw[hlen,pos,hF,hat t (by omega),stepA,dl];simp only;rw[if_neg (by rintro⟨_,e⟩;exact e h2)];congr 1
   ·rw[List.getElem_of_eq eP,hdg]
   ·omega
  ·have eP:placesK l (k+1)=(placesK l k).dropLast++[(placesK l k)[d]'(by omega)++[x]]:=(by rw[hP,stepP,if_neg h1,if_neg h2,hlast]);have eO:opensK l (k+1)=opensK l k:=(by rw[hO,stepB,if_neg h1,if_neg h2]);have dl:deltaO x.op=0:=(by rw[deltaO,if_neg h1,if_neg h2]);have pos:∀t,posK l (k+1) t=posK l k t:=fun t=>by unfold posK;rw[eO]
   refine⟨by rw[eP,eO];simp[hdl,hd],fun t ht=>?_⟩;have ht2:t<d+1:=(by rw[eP] at ht;simpa[hdl] using ht);rw[eO,hd,pos t,hF,hat t (by omega),stepA,dl];simp only;by_cases ht3:t<d
   ·rw[if_neg (by omega)];congr 1
    ·rw[List.getElem_of_eq eP,List.getElem_append_left (by omega),hdg]
    ·omega
   ·obtain rfl:t=d:=by omega
    rw[if_pos ⟨by omega,h2⟩];congr 1
    ·rw[List.getElem_of_eq eP,List.getElem_append_right (by omega)];simp[hdl]
    ·omega
theorem pls_of{l:List In}:∀{k:Nat},k≤l.length→firstW l k=0→Pls l k
 |0,_,_=>pls_zero l
 |k+1,hk,hf=>by
  have hkl:k<l.length:=(by omega);have h0:firstW l k=0:=by
   rw[firstW] at hf;split at hf
   ·assumption
   ·exact hf
  have hw:wrongP l k=0:=(by rw[firstW,if_pos h0] at hf;exact hf);refine pls_step hkl (pls_of (by omega) h0) (fun h2=>?_);rw[wrongP,List.getElem?_eq_getElem hkl] at hw;simp only[wrongAt] at hw;have ht:tellsO l[k].op=false:=(by simp[tellsO,h2]);rw[ht,if_neg (by decide:¬(false=true)),if_pos h2] at hw;split at hw
  ·cases hw
  ·split at hw
   ·cases hw
   ·rename_i h;rw[beginP_snd] at h;omega
def lastP(s:List (List In)):List In:=s.getLast?.getD []
theorem ahead_places{l:List In}{k:Nat}(h:Pls l k):aheadP l k=lastP (placesK l k):=by
 obtain⟨d,hd⟩:∃d,(opensK l k).length=d:=⟨_,rfl⟩;have hl:=h.len;rw[hd] at hl;have hat:=h.at_ d (by omega);rw[lastP,getLastD_at (s:=placesK l k) (d:=d) (by omega) hl];have e:(beginP l k).1=posK l k d:=by
  unfold posK;rcases Nat.eq_zero_or_pos d with e|e
  ·rw[if_pos e,beginP_none (by omega)]
  ·obtain⟨m,rfl⟩:∃m,d=m+1:=⟨d-1,by omega⟩;rw[if_neg (by omega),beginP_some (by omega) hd,Nat.add_sub_cancel,List.getD_eq_getElem?_getD,List.getElem?_eq_getElem (by omega)];rfl
 have e2:aheadP l k=(foldA l k (posK l k d)).1:=(by rw[aheadP,foldA,e]);rw[e2,hat]
def wrongV(places:List (List In))(names:Option (List (List UInt8)))(x:In):Nat:=
 if mayI x=false then 7
 else if tellsO x.op then attrN names x.a.toList 0
 else if x.op=2 then(if places.length≤1 then 8 else 0)
 else if(lastP places).any (fun y=>decide (y.op=7)) then 11
 else if makesO x.op && !x.b.toList.isEmpty&&(lastP places).any (keyB x) then 10
 else if x.op=1∧9≤places.length then 12
 else 0
theorem wrong_places{l:List In}{k:Nat}(hk:k<l.length)(hf:firstW l k=0):wrongP l k=wrongV (placesK l k) (namesK l k) l[k]:=by
 have hp:=pls_of (by omega) hf;have hl:=hp.len;rw[wrongP,List.getElem?_eq_getElem hk];simp only[wrongAt,wrongV];rw[attrD_names l _ k 0 (by omega),ahead_places hp,beginP_snd,hl];have e1:((opensK l k).length=0)=((opensK l k).length+1≤1):=(by simp only[eq_iff_iff];omega);have e2:(8≤(opensK l k).length)=(9≤(opensK l k).length+1):=(by simp only[eq_iff_iff];omega);simp only[e1,e2]
end P13
namespace P14
open Go.RowKit Kd P4 P5 P11 P12 P13
inductive PW where
 |mk (kind:Int) (tag key txt:ByteArray) (attrs:List P3.At) (kids:List PW)
inductive WV where
 |mk (kind:Int) (tag key txt:ByteArray) (sa:Sv) (attrs:List P3.At) (sk:Sv) (kids:List WV)
theorem PW.ind{Q:PW→Prop}(h:∀kind tag key txt attrs kids,(∀k∈kids,Q k)→Q (.mk kind tag key txt attrs kids))(t:PW):Q t:=
 PW.rec (motive_1:=Q) (motive_2:=fun l=>∀k∈l,Q k) (fun a b c d e f ih=>h a b c d e f ih) (fun _ hk=>by cases hk) (fun a l ha hl k hk=>by
  rcases List.mem_cons.1 hk with rfl|hk
  ·exact ha
  ·exact hl k hk) t
theorem WV.ind{Q:WV→Prop}(h:∀kind tag key txt sa attrs sk kids,(∀k∈kids,Q k)→Q (.mk kind tag key txt sa attrs sk kids))(t:WV):Q t:=
 WV.rec (motive_1:=Q) (motive_2:=fun l=>∀k∈l,Q k) (fun a b c d e f g i ih=>h a b c d e f g i ih) (fun _ hk=>by cases hk) (fun a l ha hl k hk=>by
  rcases List.mem_cons.1 hk with rfl|hk
  ·exact ha
  ·exact hl k hk) t
namespace WV
def kind:WV→Int| .mk a _ _ _ _ _ _ _=>a
def tag:WV→ByteArray| .mk _ a _ _ _ _ _ _=>a
def key:WV→ByteArray| .mk _ _ a _ _ _ _ _=>a
def txt:WV→ByteArray| .mk _ _ _ a _ _ _ _=>a
def sa:WV→Sv| .mk _ _ _ _ a _ _ _=>a
def attrs:WV→List P3.At| .mk _ _ _ _ _ a _ _=>a
def sk:WV→Sv| .mk _ _ _ _ _ _ a _=>a
def kids:WV→List WV| .mk _ _ _ _ _ _ _ a=>a
end WV
namespace PW
def kind:PW→Int| .mk a _ _ _ _ _=>a
def tag:PW→ByteArray| .mk _ a _ _ _ _=>a
def key:PW→ByteArray| .mk _ _ a _ _ _=>a
def txt:PW→ByteArray| .mk _ _ _ a _ _=>a
def attrs:PW→List P3.At| .mk _ _ _ _ a _=>a
def kids:PW→List PW| .mk _ _ _ _ _ a=>a
end PW
mutual
def er:WV→PW
 | .mk kind tag key txt _ attrs _ kids=> .mk kind tag key txt attrs (erL kids)
def erL:List WV→List PW
 |[]=>[]
 |a:: l=>er a:: erL l
end
theorem erL_map:∀l:List WV,erL l=l.map er
 |[]=>by simp[erL]
 |a:: l=>by simp[erL,erL_map l]
theorem erL_append(l m:List WV):erL (l++m)=erL l++erL m:=by simp[erL_map]
theorem erL_at{l:List WV}{k:Nat}(h:k<l.length)(h':k<(erL l).length):(erL l)[k]=er l[k]:=by simp[erL_map]
theorem er_parts(t:WV):er t = .mk t.kind t.tag t.key t.txt t.attrs (erL t.kids):=by cases t;rw[er];rfl
mutual
def cntW:PW→Nat
 | .mk kind _ _ _ _ kids=>if kind=2 then 1 else if kind=1 then 1+cntL kids else 0
def cntL:List PW→Nat
 |[]=>0
 |a:: l=>cntW a+cntL l
end
mutual
def wtW:PW→Nat
 | .mk _ _ _ _ attrs kids=>1+attrs.length+wtL kids
def wtL:List PW→Nat
 |[]=>0
 |a:: l=>wtW a+wtL l
end
theorem wtW_pos(t:PW):1≤wtW t:=by cases t;rw[wtW];omega
theorem wtL_append:∀l m:List PW,wtL (l++m)=wtL l+wtL m
 |[],m=>by simp[wtL]
 |a:: l,m=>by simp[wtL,wtL_append l m];omega
theorem wtL_len:∀l:List PW,l.length≤wtL l
 |[]=>by simp[wtL]
 |a:: l=>by have:=wtL_len l;have:=wtW_pos a;simp[wtL];omega
theorem wtL_mem:∀{l:List PW} {t:PW},t∈l→wtW t≤wtL l
 |a:: l,t,h=>by
  rw[wtL];rcases List.mem_cons.1 h with rfl|h
  ·omega
  ·have:=wtL_mem h;omega
theorem cntL_append:∀l m:List PW,cntL (l++m)=cntL l+cntL m
 |[],m=>by simp[cntL]
 |a:: l,m=>by simp[cntL,cntL_append l m];omega
theorem cntL_take{l:List PW}{k:Nat}(h:k<l.length):cntL (l.take (k+1))=cntL (l.take k)+cntW l[k]:=by
 rw[List.take_add_one,List.getElem?_eq_getElem h,cntL_append];simp[cntL]
theorem cnt_wt(t:PW):cntW t≤wtW t:=by
 induction t using PW.ind with
 |h kind tag key txt attrs kids ih=>
  have:∀l:List PW,(∀k∈l,cntW k≤wtW k)→cntL l≤wtL l:=by
   intro l
   induction l with
   |nil=>intro _;simp[cntL]
   |cons a l ih2=>
    intro h;have h1:=h a (by simp);have h2:=ih2 (fun k hk=>h k (by simp[hk]));rw[cntL,wtL];omega
  have:=this kids ih;rw[cntW,wtW];split
  ·omega
  ·split<;>omega
theorem cntL_wt:∀l:List PW,cntL l≤wtL l
 |[]=>by simp[cntL]
 |a:: l=>by have:=cntL_wt l;have:=cnt_wt a;rw[cntL,wtL];omega
def bq(a b:ByteArray):Bool:=a.toList==b.toList
def z0:ByteArray:=bs []
def atI(a:P3.At):In:=⟨if a.st then 6 else 5,a.nm,a.vl⟩
def toAt(x:In):P3.At:=⟨x.a,x.b,decide (x.op=6)⟩
theorem atI_toAt{x:In}(h:tellsO x.op=true):atI (toAt x)=x:=by
 obtain⟨op,a,b⟩:=x;simp only[tellsO,decide_eq_true_eq] at h;rcases h with rfl|rfl<;>simp[atI,toAt]
mutual
def backW:PW→List In
 | .mk kind tag key txt attrs kids=>
   if kind=1 then(if P1.voidB tag.data.toList then⟨3,tag,key⟩:: attrs.map atI else⟨1,tag,key⟩:: (attrs.map atI++(backL kids++[⟨2,z0,z0⟩])))
   else if kind=2 then[⟨4,txt,z0⟩] else if kind=3 then[⟨8,z0,z0⟩] else if kind=4 then[⟨7,z0,z0⟩] else[]
def backL:List PW→List In
 |[]=>[]
 |a:: l=>backW a++backL l
end
theorem backL_append:∀l m:List PW,backL (l++m)=backL l++backL m
 |[],m=>by simp[backL]
 |a:: l,m=>by simp[backL,backL_append l m]
theorem backL_one(a:PW):backL [a]=backW a:=by simp[backL]
inductive WfW:PW→Prop
 |el {tag key:ByteArray} {attrs:List P3.At} {kids:List PW} (hm:mayI ⟨1,tag,key⟩=true) (ha:∀a∈attrs,mayI (atI a)=true) (hk:∀k∈kids,WfW k):WfW (.mk 1 tag key z0 attrs kids)
 |vo {tag key:ByteArray} {attrs:List P3.At} (hm:mayI ⟨3,tag,key⟩=true) (ha:∀a∈attrs,mayI (atI a)=true):WfW (.mk 1 tag key z0 attrs [])
 |tx {t:ByteArray} (hm:mayI ⟨4,t,z0⟩=true):WfW (.mk 2 z0 z0 t [] [])
 |nd:WfW (.mk 3 z0 z0 z0 [] [])
 |al:WfW (.mk 4 z0 z0 z0 [] [])
theorem may_open{a b:ByteArray}(h:mayI ⟨1,a,b⟩=true):P1.voidB a.data.toList=false:=by
 simp only[mayI,if_true,Bool.and_eq_true,Bool.not_eq_true'] at h;exact h.1.2
theorem may_void{a b:ByteArray}(h:mayI ⟨3,a,b⟩=true):P1.voidB a.data.toList=true:=by
 have e:mayI ⟨3,a,b⟩=(P1.voidB a.data.toList&&P1.textB b.data.toList):=(by simp[mayI]);rw[e,Bool.and_eq_true] at h;exact h.1
theorem back_open{tag key txt:ByteArray}{attrs:List P3.At}{kids:List PW}(h:P1.voidB tag.data.toList=false):backW (.mk 1 tag key txt attrs kids)=⟨1,tag,key⟩:: (attrs.map atI++(backL kids++[⟨2,z0,z0⟩])):=by
 rw[backW,if_pos rfl,h,if_neg (by decide)]
theorem back_void{tag key txt:ByteArray}{attrs:List P3.At}{kids:List PW}(h:P1.voidB tag.data.toList=true):backW (.mk 1 tag key txt attrs kids)=⟨3,tag,key⟩:: attrs.map atI:=by
 rw[backW,if_pos rfl,if_pos h]
structure Fr where
 done:List PW
 tag:ByteArray
 key:ByteArray
 attrs:List P3.At
structure St where
 stack:List Fr
 cur:List PW
def PW.addA:PW→P3.At→PW
 | .mk k t y x a ks,n=> .mk k t y x (a++[n]) ks
def addAt:List PW→P3.At→List PW
 |[],_=>[]
 |[a],n=>[a.addA n]
 |a:: b:: l,n=>a:: addAt (b:: l) n
theorem addAt_snoc(t:PW)(n:P3.At):∀l:List PW,addAt (l++[t]) n=l++[t.addA n]
 |[]=>rfl
 |[b]=>rfl
 |b:: c:: l=>by
  have:=addAt_snoc t n (c:: l);show b:: addAt ((c:: l)++[t]) n=_;rw[this];rfl
def stepS(s:St)(x:In):St:=
 if x.op=1 then⟨⟨s.cur,x.a,x.b,[]⟩:: s.stack,[]⟩
 else if x.op=2 then(match s.stack with
  |[]=>s
  |f:: r=>⟨r,f.done++[.mk 1 f.tag f.key z0 f.attrs s.cur]⟩)
 else if x.op=3 then⟨s.stack,s.cur++[.mk 1 x.a x.b z0 [] []]⟩
 else if x.op=4 then⟨s.stack,s.cur++[.mk 2 z0 z0 x.a [] []]⟩
 else if x.op=7 then⟨s.stack,s.cur++[.mk 4 z0 z0 z0 [] []]⟩
 else if x.op=8 then⟨s.stack,s.cur++[.mk 3 z0 z0 z0 [] []]⟩
 else(match s.cur,s.stack with
  |[],[]=>s
  |[],f:: r=>⟨⟨f.done,f.tag,f.key,f.attrs++[toAt x]⟩:: r,[]⟩
  |a:: l,st=>⟨st,addAt (a:: l) (toAt x)⟩)
theorem stepS_frame{x:In}{f:Fr}{r:List Fr}(h:tellsO x.op=true):stepS ⟨f:: r,[]⟩ x=⟨⟨f.done,f.tag,f.key,f.attrs++[toAt x]⟩:: r,[]⟩:=by
 simp only[tellsO,decide_eq_true_eq] at h;rw[stepS,if_neg (by omega),if_neg (by omega),if_neg (by omega),if_neg (by omega),if_neg (by omega),if_neg (by omega)]
theorem stepS_last{x:In}{st:List Fr}{init:List PW}{t:PW}(h:tellsO x.op=true):stepS ⟨st,init++[t]⟩ x=⟨st,init++[t.addA (toAt x)]⟩:=by
 simp only[tellsO,decide_eq_true_eq] at h;rw[stepS,if_neg (by omega),if_neg (by omega),if_neg (by omega),if_neg (by omega),if_neg (by omega),if_neg (by omega),←addAt_snoc];cases init<;>rfl
def stateK(l:List In)(k:Nat):St:=(l.take k).foldl stepS ⟨[],[]⟩
def wantP(l:List In):List PW:=(l.foldl stepS ⟨[],[]⟩).cur
theorem stateK_step{l:List In}{k:Nat}(h:k<l.length):stateK l (k+1)=stepS (stateK l k) l[k]:=by
 unfold stateK;rw[List.take_add_one,List.getElem?_eq_getElem h,List.foldl_append];rfl
def backF:List Fr→List In
 |[]=>[]
 |f:: r=>backF r++(backL f.done++(⟨1,f.tag,f.key⟩:: f.attrs.map atI))
structure WfF(f:Fr):Prop where
 done:∀t∈f.done,WfW t
 may:mayI ⟨1,f.tag,f.key⟩=true
 attrs:∀a∈f.attrs,mayI (atI a)=true
structure Inv(l:List In)(k:Nat)(s:St):Prop where
 text:backF s.stack++backL s.cur=l.take k
 cur:∀t∈s.cur,WfW t
 frs:∀f∈s.stack,WfF f
 len:s.stack.length=(opensK l k).length
 mode:namesK l k≠none→(s.cur=[]∧s.stack≠[])∨∃(init:List PW) (tag key:ByteArray) (attrs:List P3.At),s.cur=init++[.mk 1 tag key z0 attrs []]∧mayI ⟨3,tag,key⟩=true∧∀a∈attrs,mayI (atI a)=true
theorem names_none{l:List In}{k:Nat}(h:k<l.length)(h1:makesO l[k].op=false)(h2:tellsO l[k].op=false):namesK l (k+1)=none:=by
 rw[namesK_step h,stepN_other h1 h2]
theorem inv_add{l:List In}{k:Nat}{s:St}(h:Inv l k s)(hk:k<l.length){t:PW}(ht:WfW t)(hb:backW t=[l[k]])(h1:l[k].op≠1)(h2:l[k].op≠2)(hmode:namesK l (k+1)≠none→∃(tag key:ByteArray) (attrs:List P3.At),t = .mk 1 tag key z0 attrs []∧mayI ⟨3,tag,key⟩=true∧∀a∈attrs,mayI (atI a)=true):Inv l (k+1) ⟨s.stack,s.cur++[t]⟩ where
 text:=by
  rw[List.take_add_one,List.getElem?_eq_getElem hk,←h.text];simp only[backL_append,backL_one,hb,Option.toList_some,List.append_assoc]
 cur:=fun u hu=>by
  rcases List.mem_append.1 hu with hu|hu
  ·exact h.cur u hu
  ·rw[List.mem_singleton.1 hu];exact ht
 frs:=h.frs
 len:=by rw[h.len,opensK_step hk,stepB,if_neg h1,if_neg h2]
 mode:=fun hn=>by
  obtain⟨tag,key,attrs,e,h3,h4⟩:=hmode hn;exact .inr ⟨s.cur,tag,key,attrs,by rw[e],h3,h4⟩
theorem inv_step{l:List In}{k:Nat}(hk:k<l.length)(h:Inv l k (stateK l k))(hf:firstW l k=0)(hw:wrongP l k=0):Inv l (k+1) (stateK l (k+1)):=by
 rw[stateK_step hk];have hwv:=wrong_places hk hf;rw[hw] at hwv;have hpl:=(pls_of (by omega) hf).len;generalize hs:stateK l k=s at h;clear hs;obtain⟨stack,cur⟩:=s;have hmay:mayI l[k]=true:=by
  cases hm:mayI l[k] with
  |true=>rfl
  |false=>rw[wrongV,if_pos hm] at hwv;cases hwv
 obtain⟨_,_,ho1,ho8,hz,hz1⟩:=may_small hmay;have hx:∀x,l[k]=x→l[k]=x:=fun _ e=>e
 by_cases e1:l[k].op=1
 ·have hS:stepS ⟨stack,cur⟩ l[k]=⟨⟨cur,l[k].a,l[k].b,[]⟩:: stack,[]⟩:=(by rw[stepS,if_pos e1]);rw[hS];have hx1:(⟨1,l[k].a,l[k].b⟩:In)=l[k]:=(by rw[←e1]);refine⟨?_,(fun t ht=>by cases ht),fun f hf=>?_,?_,fun _=> .inl ⟨rfl,by simp⟩⟩
  ·rw[List.take_add_one,List.getElem?_eq_getElem hk,←h.text];simp only[backF,backL,List.map_nil,List.append_nil,Option.toList_some,hx1,List.append_assoc]
  ·rcases List.mem_cons.1 hf with rfl|hf
   ·exact⟨h.cur,by rw[hx1];exact hmay,fun a ha=>by cases ha⟩
   ·exact h.frs f hf
  ·rw[opensK_step hk,stepB,if_pos e1,List.length_append,←h.len];simp
 by_cases e2:l[k].op=2
 ·have hz':=hz (by rw[e2];rfl);have hx2:l[k]=⟨2,z0,z0⟩:=by
   obtain⟨hza,hzb⟩:=hz';generalize l[k]=x at e2 hza hzb;obtain⟨op,a,b⟩:=x;simp only at e2 hza hzb;rw[e2,hza,hzb];rfl
  have hpos:0<stack.length:=by
   rw[h.len];rw[wrongV,if_neg (by rw[hmay];decide),if_neg (by rw[e2];decide),if_pos e2] at hwv;split at hwv
   ·cases hwv
   ·omega
  cases stack with
  |nil=>simp at hpos
  |cons f r=>
   have hS:stepS ⟨f:: r,cur⟩ l[k]=⟨r,f.done++[.mk 1 f.tag f.key z0 f.attrs cur]⟩:=(by rw[stepS,if_neg e1,if_pos e2]);rw[hS];have hF:=h.frs f (by simp);refine⟨?_,fun t ht=>?_,fun g hg=>h.frs g (by simp[hg]),?_,fun hn=>absurd (names_none hk (by rw[e2];rfl) (by rw[e2];rfl)) hn⟩
   ·rw[List.take_add_one,List.getElem?_eq_getElem hk,←h.text];simp only[backF,backL_append,backL_one,back_open (may_open hF.may),Option.toList_some,List.append_assoc,List.cons_append,hx2]
   ·rcases List.mem_append.1 ht with ht|ht
    ·exact hF.done t ht
    ·rw[List.mem_singleton.1 ht];exact .el hF.may hF.attrs h.cur
   ·rw[opensK_step hk,stepB,if_neg e1,if_pos e2,List.length_dropLast,←h.len];simp
 by_cases e3:l[k].op=3
 ·have hx3:l[k]=⟨3,l[k].a,l[k].b⟩:=(by rw[←e3]);have hS:stepS ⟨stack,cur⟩ l[k]=⟨stack,cur++[.mk 1 l[k].a l[k].b z0 [] []]⟩:=(by rw[stepS,if_neg e1,if_neg e2,if_pos e3]);rw[hS];have hm3:mayI ⟨3,l[k].a,l[k].b⟩=true:=(by rw[←hx3];exact hmay);exact inv_add h hk (.vo hm3 (fun a ha=>by cases ha)) (by rw[back_void (may_void hm3),List.map_nil,←hx3]) e1 e2 (fun _=>⟨_,_,[],rfl,hm3,(fun a ha=>by cases ha)⟩)
 by_cases e4:l[k].op=4
 ·have hb:=hz1 (by rw[e4];rfl);have hx4:l[k]=⟨4,l[k].a,z0⟩:=(by rw[←e4];show l[k]=⟨l[k].op,l[k].a,bs []⟩;rw[←hb]);have hS:stepS ⟨stack,cur⟩ l[k]=⟨stack,cur++[.mk 2 z0 z0 l[k].a [] []]⟩:=(by rw[stepS,if_neg e1,if_neg e2,if_neg e3,if_pos e4]);rw[hS];exact inv_add h hk (.tx (by rw[←hx4];exact hmay)) (by rw[backW,if_neg (by decide),if_pos rfl,←hx4]) e1 e2 (fun hn=>absurd (names_none hk (by rw[e4];rfl) (by rw[e4];rfl)) hn)
 by_cases e7:l[k].op=7
 ·have hz':=hz (by rw[e7];rfl);have hx7:l[k]=⟨7,z0,z0⟩:=by
   obtain⟨hza,hzb⟩:=hz';generalize l[k]=x at e7 hza hzb;obtain⟨op,a,b⟩:=x;simp only at e7 hza hzb;rw[e7,hza,hzb];rfl
  have hS:stepS ⟨stack,cur⟩ l[k]=⟨stack,cur++[.mk 4 z0 z0 z0 [] []]⟩:=(by rw[stepS,if_neg e1,if_neg e2,if_neg e3,if_neg e4,if_pos e7]);rw[hS];exact inv_add h hk .al (by rw[backW,if_neg (by decide),if_neg (by decide),if_neg (by decide),if_pos rfl,hx7]) e1 e2 (fun hn=>absurd (names_none hk (by rw[e7];rfl) (by rw[e7];rfl)) hn)
 by_cases e8:l[k].op=8
 ·have hz':=hz (by rw[e8];rfl);have hx8:l[k]=⟨8,z0,z0⟩:=by
   obtain⟨hza,hzb⟩:=hz';generalize l[k]=x at e8 hza hzb;obtain⟨op,a,b⟩:=x;simp only at e8 hza hzb;rw[e8,hza,hzb];rfl
  have hS:stepS ⟨stack,cur⟩ l[k]=⟨stack,cur++[.mk 3 z0 z0 z0 [] []]⟩:=(by rw[stepS,if_neg e1,if_neg e2,if_neg e3,if_neg e4,if_neg e7,if_pos e8]);rw[hS];exact inv_add h hk .nd (by rw[backW,if_neg (by decide),if_neg (by decide),if_pos rfl,hx8]) e1 e2 (fun hn=>absurd (names_none hk (by rw[e8];rfl) (by rw[e8];rfl)) hn)
 ·have ht:tellsO l[k].op=true:=(by simp only[tellsO,decide_eq_true_eq];omega);have hn:namesK l k≠none:=fun e=>by
   rw[wrongV,if_neg (by rw[hmay];decide),if_pos ht,e] at hwv;cases hwv
  have hT:=atI_toAt ht;have hlen:(opensK l (k+1)).length=(opensK l k).length:=(by rw[opensK_step hk,stepB,if_neg e1,if_neg e2]);rcases h.mode hn with⟨hc,hst⟩|⟨init,tag,key,attrs,hc,hm,ha⟩
  ·simp only at hc hst;subst hc;cases stack with
   |nil=>exact absurd rfl hst
   |cons f r=>
    rw[stepS_frame ht];have hF:=h.frs f (by simp);refine⟨?_,(fun t ht=>by cases ht),fun g hg=>?_,by rw[hlen,←h.len];rfl,fun _=> .inl ⟨rfl,by simp⟩⟩
    ·rw[List.take_add_one,List.getElem?_eq_getElem hk,←h.text];simp only[backF,backL,List.map_append,List.map_cons,List.map_nil,List.append_nil,Option.toList_some,hT,List.append_assoc,List.cons_append]
    ·rcases List.mem_cons.1 hg with rfl|hg
     ·refine⟨hF.done,hF.may,fun a ha=>?_⟩;rcases List.mem_append.1 ha with ha|ha
      ·exact hF.attrs a ha
      ·rw[List.mem_singleton.1 ha,hT];exact hmay
     ·exact h.frs g (by simp[hg])
  ·simp only at hc;subst hc;rw[stepS_last ht,PW.addA];have ha2:∀a∈attrs++[toAt l[k]],mayI (atI a)=true:=fun a h=>by
    rcases List.mem_append.1 h with h|h
    ·exact ha a h
    ·rw[List.mem_singleton.1 h,hT];exact hmay
   refine⟨?_,fun t ht=>?_,h.frs,by rw[hlen,←h.len],fun _=> .inr ⟨init,tag,key,_,rfl,hm,ha2⟩⟩
   ·rw[List.take_add_one,List.getElem?_eq_getElem hk,←h.text];simp only[backL_append,backL_one,back_void (may_void hm),List.map_append,List.map_cons,List.map_nil,Option.toList_some,hT,List.append_assoc,List.cons_append]
   ·rcases List.mem_append.1 ht with ht|ht
    ·exact h.cur t (by simp[ht])
    ·rw[List.mem_singleton.1 ht];exact .vo hm ha2
theorem inv_all{l:List In}:∀{k:Nat},k≤l.length→firstW l k=0→Inv l k (stateK l k)
 |0,_,_=>⟨rfl,(fun t ht=>by cases ht),(fun f hf=>by cases hf),rfl,fun h=>absurd rfl h⟩
 |k+1,hk,hf=>by
  have h0:firstW l k=0:=by
   rw[firstW] at hf;split at hf
   ·assumption
   ·exact hf
  have hw:wrongP l k=0:=(by rw[firstW,if_pos h0] at hf;exact hf);exact inv_step (by omega) (inv_all (by omega) h0) h0 hw
theorem check_first{l:List In}(h:checkP l=0):l.length≤120∧firstW l l.length=0∧(opensK l l.length).length=0:=by
 unfold checkP at h;split at h
 ·cases h
 ·split at h
  ·rename_i h1 h2;split at h
   ·cases h
   ·rename_i h3;rw[beginP_snd] at h3;exact⟨by omega,h2,by omega⟩
  ·rename_i h1 h2;exact absurd h h2
theorem want_back{l:List In}(h:checkP l=0):backL (wantP l)=l∧∀t∈wantP l,WfW t:=by
 obtain⟨_,h1,h2⟩:=check_first h;have hI:=inv_all (Zl) h1;have hs:stateK l l.length=l.foldl stepS ⟨[],[]⟩:=(by rw[stateK,List.take_length]);have hl:=hI.len;rw[h2] at hl;have ht:=hI.text;rw[List.eq_nil_of_length_eq_zero hl,backF,List.nil_append,List.take_length,hs] at ht;refine⟨ht,fun t htm=>hI.cur t ?_⟩;rw[hs];exact htm
end P14
end Go.Proofs.YtaklfomaibchnaaGreat
