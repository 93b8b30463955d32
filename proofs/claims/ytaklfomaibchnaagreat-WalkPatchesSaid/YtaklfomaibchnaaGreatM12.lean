/- A part of what the claimed theorem hangs on. No condition but those stated. -/
import Derived.Deep.DrawnRows
import Derived.Lib.IfaceNeq
import Derived.Deep.RegionHeld3
import Derived.BigQuiet
import Derived.Deep.DeepCutAuto
import Derived.Deep.CutBlock
import Derived.Test.YtaklfomaibchnaaGreatM1
import Derived.Test.YtaklfomaibchnaaGreatM5
import Derived.Test.YtaklfomaibchnaaGreatM6
import Derived.Test.YtaklfomaibchnaaGreatM7
import Derived.Test.YtaklfomaibchnaaGreatM8
import Derived.Test.YtaklfomaibchnaaGreatM11
set_option linter.unusedVariables false
set_option linter.unusedSimpArgs false
set_option maxRecDepth 100000
set_option maxHeartbeats 40000000
namespace Go.Proofs.YtaklfomaibchnaaGreat
namespace P7
open Go.RowKit Kd P4 P5
attribute [local go_sem ↓] Go.wp_at_zero Go.wp_at_succ
def Owned(w:World)(r:Rc)(e:Ending)(w':World):Prop:=∃A n c,e = .returned (.agg #[.int .i64 r.op,.int .i64 r.id,.int .i64 r.par,.int .i64 r.bef,.string r.tag,.string r.txt,.string r.key,.slice A n c])∧AOk w' ⟨A,n,c⟩ r.attrs∧Below w.heap.size w w'
theorem own_any(r:Rc)(A:Option Addr)(n c:Nat)(w:World)(hn:r.attrs.length=n)(hn2:n≤1000000)(hz:A=none→c=0∧n=0)(H:kA.Holds w w.heap.size A r.attrs):Calls Tryz.prog 35 #[.agg #[.int .i64 r.op,.int .i64 r.id,.int .i64 r.par,.int .i64 r.bef,.string r.tag,.string r.txt,.string r.key,.slice A n c]] w (Owned w r):=by
 have B1:Hid (Below w.heap.size w ((w.alloc (.cells #[.int .i64 r.op,.int .i64 r.id,.int .i64 r.par,.int .i64 r.bef,.string r.tag,.string r.txt,.string r.key,.slice A n c] 71)).alloc (.cells #[.int .i64 0,.int .i64 0,.int .i64 0,.int .i64 0,.string ⟨#[]⟩,.string ⟨#[]⟩,.string ⟨#[]⟩,.slice none 0 0] 71))):=Zh ((Zb _ _).alloc (by simp) _);have N1:Hid (RcB ((w.alloc (.cells #[.int .i64 r.op,.int .i64 r.id,.int .i64 r.par,.int .i64 r.bef,.string r.tag,.string r.txt,.string r.key,.slice A n c] 71)).alloc (.cells #[.int .i64 0,.int .i64 0,.int .i64 0,.int .i64 0,.string ⟨#[]⟩,.string ⟨#[]⟩,.string ⟨#[]⟩,.slice none 0 0] 71)) w.heap.size r A n c):=Zh (heap_up (RcB.new w r A n c));have Z1:Hid (((w.alloc (.cells #[.int .i64 r.op,.int .i64 r.id,.int .i64 r.par,.int .i64 r.bef,.string r.tag,.string r.txt,.string r.key,.slice A n c] 71)).alloc (.cells #[.int .i64 0,.int .i64 0,.int .i64 0,.int .i64 0,.string ⟨#[]⟩,.string ⟨#[]⟩,.string ⟨#[]⟩,.slice none 0 0] 71)).heap[w.heap.size+1]? = some (.cells #[.int .i64 0,.int .i64 0,.int .i64 0,.int .i64 0,.string ⟨#[]⟩,.string ⟨#[]⟩,.string ⟨#[]⟩,.slice none 0 0] 71 (0,0))):=Zh (heap_top (by simp));have HN:=Zh hn;have HZ:=Zh hz;have HH:=Zh H;clear hn hz H;go_enter Tryz.func35,Tryz.ntmps35;go_upto_region 1 with fail;generalize (w.alloc (.cells #[.int .i64 r.op,.int .i64 r.id,.int .i64 r.par,.int .i64 r.bef,.string r.tag,.string r.txt,.string r.key,.slice A n c] 71)).alloc (.cells #[.int .i64 0,.int .i64 0,.int .i64 0,.int .i64 0,.string ⟨#[]⟩,.string ⟨#[]⟩,.string ⟨#[]⟩,.slice none 0 0] 71)=W at B1 N1 Z1⊢;have a7:=N1.out.c7;go_wp2_with fail;refine(cloneAt_any r.attrs A n c W HN.out hn2 HZ.out (HH.out.on B1.out)).mono ?_;rintro e w2 ⟨A',n',c',rfl,o2,b2⟩;have O2:=Zh o2;have B2:=Zh (B1.out.trans (b2.mono B1.out.size));have N2:=Zh (N1.out.below b2 N1.out.lt);have Z2:Hid (w2.heap[w.heap.size+1]? = some (.cells #[.int .i64 0,.int .i64 0,.int .i64 0,.int .i64 0,.string ⟨#[]⟩,.string ⟨#[]⟩,.string ⟨#[]⟩,.slice none 0 0] 71 (0,0))):=Zh ((b2.block _ (heap_lt Z1.out)).trans Z1.out);clear o2 b2 a7 N1 Z1;have a7:=N2.out.c7;have f7:w2.frozen? ⟨w.heap.size,7,none⟩=false:=(by have hb:=N2.out;unfold RcB at hb;simp[World.frozen?,hb]);go_upto_region 2 with fail;have n2:=N2.out;unfold RcB at n2;have N3:Hid (RcB (w2.setCell ⟨w.heap.size,7,none⟩ (.slice A' n' c')) w.heap.size r A' n' c'):=Zh (by unfold RcB;exact heap_set n2 7 _);have Z3:Hid ((w2.setCell ⟨w.heap.size,7,none⟩ (.slice A' n' c')).heap[w.heap.size+1]? = some (.cells #[.int .i64 0,.int .i64 0,.int .i64 0,.int .i64 0,.string ⟨#[]⟩,.string ⟨#[]⟩,.string ⟨#[]⟩,.slice none 0 0] 71 (0,0))):=Zh ((Below.heap_setCell _ _ _ _ (by simp)).trans Z2.out);have B3:Hid (Below w.heap.size w (w2.setCell ⟨w.heap.size,7,none⟩ (.slice A' n' c'))):=Zh (B2.out.setCell (by simp) _);have O3:Hid (kA.Own (w2.setCell ⟨w.heap.size,7,none⟩ (.slice A' n' c')) w.heap.size (.slice A' n' c') r.attrs):=Zh ((O2.out.keep fun i hi=>Below.heap_setCell _ _ _ _ (by rintro rfl;obtain⟨d,hd⟩:=O2.out.ty hi;exact heap_ne hd N2.out (by decide) rfl)).base_le B1.out.size);clear a7 f7 B1 B2 N2 Z2 O2 n2;generalize w2.setCell ⟨w.heap.size,7,none⟩ (.slice A' n' c')=W3 at N3 Z3 B3 O3⊢;have a0:=N3.out.c0;have a1:=N3.out.c1;have a2:=N3.out.c2;have a3:=N3.out.c3;have a4:=N3.out.c4;have a5:=N3.out.c5;have a6:=N3.out.c6;have a7:=N3.out.c7;have z0:W3.cell? ⟨w.heap.size+1,0,none⟩=some (.int .i64 0):=cell_of_row W3 _ 0 _ _ (0,0) Z3.out;have z1:W3.cell? ⟨w.heap.size+1,1,none⟩=some (.int .i64 0):=cell_of_row W3 _ 1 _ _ (0,0) Z3.out;have z2:W3.cell? ⟨w.heap.size+1,2,none⟩=some (.int .i64 0):=cell_of_row W3 _ 2 _ _ (0,0) Z3.out;have z3:W3.cell? ⟨w.heap.size+1,3,none⟩=some (.int .i64 0):=cell_of_row W3 _ 3 _ _ (0,0) Z3.out;have z4:W3.cell? ⟨w.heap.size+1,4,none⟩=some (.string ⟨#[]⟩):=cell_of_row W3 _ 4 _ _ (0,0) Z3.out;have z5:W3.cell? ⟨w.heap.size+1,5,none⟩=some (.string ⟨#[]⟩):=cell_of_row W3 _ 5 _ _ (0,0) Z3.out;have z6:W3.cell? ⟨w.heap.size+1,6,none⟩=some (.string ⟨#[]⟩):=cell_of_row W3 _ 6 _ _ (0,0) Z3.out;have z7:W3.cell? ⟨w.heap.size+1,7,none⟩=some (.slice none 0 0):=cell_of_row W3 _ 7 _ _ (0,0) Z3.out;have fz:∀i,W3.frozen? ⟨w.heap.size+1,i,none⟩=false:=fun i=>by have hb:=Z3.out;simp[World.frozen?,hb]
 have fz0:=fz 0;have fz1:=fz 1;have fz2:=fz 2;have fz3:=fz 3;have fz4:=fz 4;have fz5:=fz 5;have fz6:=fz 6;have fz7:=fz 7;clear fz;go_wp2_with fail;have Z4:Hid ((((((((((W3.setCell ⟨w.heap.size+1,0,none⟩ (.int .i64 r.op)).setCell ⟨w.heap.size+1,1,none⟩ (.int .i64 r.id)).setCell ⟨w.heap.size+1,2,none⟩ (.int .i64 r.par)).setCell ⟨w.heap.size+1,3,none⟩ (.int .i64 r.bef)).setCell ⟨w.heap.size+1,4,none⟩ (.string r.tag)).setCell ⟨w.heap.size+1,5,none⟩ (.string r.txt)).setCell ⟨w.heap.size+1,6,none⟩ (.string r.key)).setCell ⟨w.heap.size+1,7,none⟩ (.slice A' n' c'))).heap[w.heap.size+1]? = some (.cells #[.int .i64 r.op,.int .i64 r.id,.int .i64 r.par,.int .i64 r.bef,.string r.tag,.string r.txt,.string r.key,.slice A' n' c'] 71 (0,0))):=Zh (heap_set (heap_set (heap_set (heap_set (heap_set (heap_set (heap_set (heap_set (Z3.out) 0 _) 1 _) 2 _) 3 _) 4 _) 5 _) 6 _) 7 _);have B4:Hid (Below w.heap.size w (((((((((W3.setCell ⟨w.heap.size+1,0,none⟩ (.int .i64 r.op)).setCell ⟨w.heap.size+1,1,none⟩ (.int .i64 r.id)).setCell ⟨w.heap.size+1,2,none⟩ (.int .i64 r.par)).setCell ⟨w.heap.size+1,3,none⟩ (.int .i64 r.bef)).setCell ⟨w.heap.size+1,4,none⟩ (.string r.tag)).setCell ⟨w.heap.size+1,5,none⟩ (.string r.txt)).setCell ⟨w.heap.size+1,6,none⟩ (.string r.key)).setCell ⟨w.heap.size+1,7,none⟩ (.slice A' n' c')))):=Zh (Below.setCell (Below.setCell (Below.setCell (Below.setCell (Below.setCell (Below.setCell (Below.setCell (Below.setCell (B3.out) (by simp) _) (by simp) _) (by simp) _) (by simp) _) (by simp) _) (by simp) _) (by simp) _) (by simp) _);have O4:Hid (kA.Own (((((((((W3.setCell ⟨w.heap.size+1,0,none⟩ (.int .i64 r.op)).setCell ⟨w.heap.size+1,1,none⟩ (.int .i64 r.id)).setCell ⟨w.heap.size+1,2,none⟩ (.int .i64 r.par)).setCell ⟨w.heap.size+1,3,none⟩ (.int .i64 r.bef)).setCell ⟨w.heap.size+1,4,none⟩ (.string r.tag)).setCell ⟨w.heap.size+1,5,none⟩ (.string r.txt)).setCell ⟨w.heap.size+1,6,none⟩ (.string r.key)).setCell ⟨w.heap.size+1,7,none⟩ (.slice A' n' c'))) w.heap.size (.slice A' n' c') r.attrs):=Zh (O3.out.keep fun i hi=>by
  have hne:i≠w.heap.size+1:=by
   rintro rfl;obtain⟨d,hd⟩:=O3.out.ty hi;exact heap_ne hd Z3.out (by decide) rfl
  exact heap_setCells_far (w.heap.size+1) hne [.int .i64 r.op,.int .i64 r.id,.int .i64 r.par,.int .i64 r.bef,.string r.tag,.string r.txt,.string r.key,.slice A' n' c'] 0 W3)
 clear a0 a1 a2 a3 a4 a5 a6 a7 z0 z1 z2 z3 z4 z5 z6 z7 fz0 fz1 fz2 fz3 fz4 fz5 fz6 fz7;generalize ((((((((W3.setCell ⟨w.heap.size+1,0,none⟩ (.int .i64 r.op)).setCell ⟨w.heap.size+1,1,none⟩ (.int .i64 r.id)).setCell ⟨w.heap.size+1,2,none⟩ (.int .i64 r.par)).setCell ⟨w.heap.size+1,3,none⟩ (.int .i64 r.bef)).setCell ⟨w.heap.size+1,4,none⟩ (.string r.tag)).setCell ⟨w.heap.size+1,5,none⟩ (.string r.txt)).setCell ⟨w.heap.size+1,6,none⟩ (.string r.key)).setCell ⟨w.heap.size+1,7,none⟩ (.slice A' n' c'))=W4 at Z4 B4 O4⊢;have z0:W4.cell? ⟨w.heap.size+1,0,none⟩=some (.int .i64 r.op):=cell_of_row W4 _ 0 _ _ (0,0) Z4.out;have z1:W4.cell? ⟨w.heap.size+1,1,none⟩=some (.int .i64 r.id):=cell_of_row W4 _ 1 _ _ (0,0) Z4.out;have z2:W4.cell? ⟨w.heap.size+1,2,none⟩=some (.int .i64 r.par):=cell_of_row W4 _ 2 _ _ (0,0) Z4.out;have z3:W4.cell? ⟨w.heap.size+1,3,none⟩=some (.int .i64 r.bef):=cell_of_row W4 _ 3 _ _ (0,0) Z4.out;have z4:W4.cell? ⟨w.heap.size+1,4,none⟩=some (.string r.tag):=cell_of_row W4 _ 4 _ _ (0,0) Z4.out;have z5:W4.cell? ⟨w.heap.size+1,5,none⟩=some (.string r.txt):=cell_of_row W4 _ 5 _ _ (0,0) Z4.out;have z6:W4.cell? ⟨w.heap.size+1,6,none⟩=some (.string r.key):=cell_of_row W4 _ 6 _ _ (0,0) Z4.out;have z7:W4.cell? ⟨w.heap.size+1,7,none⟩=some (.slice A' n' c'):=cell_of_row W4 _ 7 _ _ (0,0) Z4.out;refine bodyPost_ret (v:=.agg #[.int .i64 r.op,.int .i64 r.id,.int .i64 r.par,.int .i64 r.bef,.string r.tag,.string r.txt,.string r.key,.slice A' n' c']) (by simp[results,Tryz.results35,go_sem,z0,z1,z2,z3,z4,z5,z6,z7]) rfl ⟨A',n',c',rfl,?_,B4.out⟩;obtain⟨s,hs,ha⟩:=AOk.own O4.out;injection hs with e1 e2 e3;subst e1;subst e2;subst e3;exact ha
theorem new_any(v:Option Addr)(w:World):Calls Tryz.prog 11 #[.pointer v] w fun e w'=>e = .returned (.pointer (some ⟨w.heap.size,0,none⟩))∧w'=w.alloc (.cells #[.pointer v,.slice none 0 0] 89):=by
 go_enter Tryz.func11,Tryz.ntmps11;go_wp2_with fail;go_ret;exact⟨rfl,rfl⟩
variable{B p g:Nat}{x:Dx}{vd:Value}{rs:List RR}
theorem Lg.new{w:World}(hB:B≤w.heap.size)(p:Nat):Lg (w.alloc (.cells #[.pointer (some ⟨p,0,none⟩),.slice none 0 0] 89)) B w.heap.size p (.slice none 0 0) []:=
 ⟨heap_alloc_new w _,hB,Kind.Own.nil _ _ _,fun _ h=>by cases h⟩
theorem do_end{w6a w7:World}{v7:Value}{a:RR}(h:Lg w6a B g p vd rs)(hg:w6a.grownBy w7 vd.ownBlock)(ho:kR.Own w7 B v7 (rs++[a]))(ha:RecOk w6a a):
 Lg (w7.setCell ⟨g,1,none⟩ v7) B g p v7 (rs++[a])∧But (lfoot g vd) w6a (w7.setCell ⟨g,1,none⟩ v7):=by
 have b1:But (fun k=>vd.ownBlock=some k) w6a w7:=But.of_grown hg (fun i hi _=>hi);have hne:vd.ownBlock≠some g:=by
  intro e;obtain⟨d,hd⟩:=h.own.ty e;exact heap_ne hd h.blk (by decide) rfl
 have b7:w7.heap[g]? = some (.cells #[.pointer (some ⟨p,0,none⟩),vd] 89 (0,0)):=(b1.block g (heap_lt h.blk) hne).trans h.blk;have b8:But (lfoot g vd) w6a (w7.setCell ⟨g,1,none⟩ v7):=But.setCell (b1.mono fun _ _ hi=> .inr hi) (fun _=> .inl rfl) _;refine⟨⟨heap_set b7 1 v7,h.base,ho.keep fun i hi=>Below.heap_setCell _ _ _ _ ?_,fun b hb=>?_⟩,b8⟩
 ·rintro rfl;obtain⟨d,hd⟩:=ho.ty hi;exact heap_ne hd b7 (by decide) rfl
 ·rcases List.mem_append.1 hb with hb|hb
  ·exact⟨(h.recs b hb).att.but b8 h.noA,(h.recs b hb).few⟩
  ·rw[List.mem_singleton] at hb;subst hb;exact⟨ha.att.but b8 h.noA,ha.few⟩
def Dos(w:World)(B g p:Nat)(x:Dx)(vd:Value)(rs:List RR)(r:Rc)(c':Int)(e:Ending)(w':World):Prop:=
 e = .returned (errV c')∧∃x' vd' rs',LDid w B g p x vd x' vd' rs' w'∧x'.d=(applyD x.d r).2∧rs'.map (·.r)=(if c'=0 then rs.map (·.r)++[r] else rs.map (·.r))∧rs'.length≤rs.length+1
theorem row_same{l:List RR}{k:Nat}{a:RR}(hk:k<l.length)(h:a.r=l[k].r):(l.set k a).map (·.r)=l.map (·.r):=by
 apply List.ext_getElem
 ·simp
 ·intro i h1 h2;simp only[List.getElem_map,List.getElem_set];split
  ·rename_i e;subst e;exact h
  ·rfl
theorem row_end{w6:World}{B g1 n c k:Nat}{l:List RR}{a:RR}(ho:kR.Own w6 B (.slice (some ⟨g1,0,none⟩) n c) l)(hk:k<l.length)(hr:∀b∈l,RecOk w6 b)(ha:RecOk w6 a):
 kR.Own (w6.setCells g1 (k*8) a.cells) B (.slice (some ⟨g1,0,none⟩) n c) (l.set k a)∧(∀b∈l.set k a,RecOk (w6.setCells g1 (k*8) a.cells) b)∧But (fun i=>i=g1) w6 (w6.setCells g1 (k*8) a.cells):=by
 have hb:But (fun i=>i=g1) w6 (w6.setCells g1 (k*8) a.cells):=But.setCells (S:=fun i=>i=g1) (But.refl _ _) (fun _=>rfl) _ _;have hA:NoA w6 (fun i=>i=g1):=by
  rintro i cur fr rfl hi;obtain⟨d,hd⟩:=ho.ty (g:=i) rfl;exact heap_ne hi hd (by decide) rfl
 refine⟨Kind.Own.setE (K:=kR) ho hk a,fun b hb2=>?_,hb⟩;rcases mem_set_ hb2 with rfl|⟨j,hj,_,rfl⟩
 ·exact⟨ha.att.but hb hA,ha.few⟩
 ·exact⟨(hr _ (List.getElem_mem hj)).att.but hb hA,(hr _ (List.getElem_mem hj)).few⟩
def Alls(w:World)(rs:List RR)(e:Ending)(w':World):Prop:=∃A n c rs',e = .returned (.slice A n c)∧kR.Own w' w.heap.size (.slice A n c) rs'∧rs'.map (·.r)=rs.map (·.r)∧(∀a∈rs',RecOk w' a)∧Below w.heap.size w w'
theorem all_any(w:World)(hl:rs.length≤1000000)(l:Lg w B g p vd rs):Calls Tryz.prog 15 #[.pointer (some ⟨g,0,none⟩)] w (Alls w rs):=by
 obtain⟨A2,n2,c2,hvd,hn2,hn2c,hc2m,hz2,hh2⟩:=own_r l.own;have HN2:=Zh hn2;have HZ2:=Zh hz2;have HH2:=Zh hh2;have L:=Zh l;have d1:=l.c1;rw[hvd] at d1;have hn3:n2≤1000000:=(by omega);clear hvd hn2 hh2 hz2 l hn2c hc2m;go_enter Tryz.func15,Tryz.ntmps15;go_wp2_with fail;refine(cloneRec_any rs A2 n2 c2 w HN2.out (by omega) HZ2.out HH2.out).mono ?_;rintro e w1 ⟨A1,n1,c1,rfl,o1,b1⟩;have O1:=Zh o1;have B1:=Zh b1;have R1:Hid (∀a∈rs,RecOk w1 a):=Zh (L.out.below b1).recs;obtain⟨_,_,_,hv1,hl1,_,hm1,_⟩:=own_r o1;injection hv1 with e1 e2 e3;subst e2;obtain rfl:n1=n2:=by rw[←hl1];exact HN2.out
 clear hl1 hm1 e1 e3 o1 b1;go_wp2_with fail;go_loopw [13] (fun s wr=>∃(k:Nat) (l:List RR),k≤n1∧s = .int .i64 k∧Hid (l.length=n1)∧Hid (l.map (·.r)=rs.map (·.r))∧Hid (kR.Own wr w.heap.size (.slice A1 n1 c1) l)∧Hid (∀a∈l,RecOk wr a)∧Hid (Below w.heap.size w wr)) (fun s _=>n1-(intOf s).toNat)
 case atStart=>exact⟨0,rs,by omega,rfl,HN2,Zh rfl,O1,R1,B1⟩
 case round=>
  obtain⟨k,l,hk,rfl,HL,HM,HO,HR,HB⟩:=hrel;by_cases hkn:k<n1
  ·have hkl:k<l.length:=(by have:=HL.out;omega);rcases HO.out.form with⟨_,hl0⟩|⟨g1,c1',cur,hv,_,hBg,hlt,hh,hnc,hcm,hcs,_⟩
   ·subst hl0;simp at hkl
   injection hv with e1 e2 e3;subst e1;subst e3;obtain⟨_,_,_,hv,_,_,_,_,hhold⟩:=own_r HO.out;injection hv with e1 e2' e3';subst e1;subst e2';subst e3';obtain⟨b,o,he,_,g0,g1',g2,g3,g4,g5,g6,g7⟩:=cell_of_recs hhold hkl;injection he with he;injection he with h1 h2;subst h1;subst h2;have hdr:=Zh (HR.out _ (List.getElem_mem hkl));have HD:Hid (∀a:RR,a.r=l[k].r→(l.set k a).map (·.r)=rs.map (·.r)):=Zh (fun a ha=>by rw[row_same hkl ha];exact HM.out);generalize l[k]=d at g0 g1' g2 g3 g4 g5 g6 g7 hdr HD;simp only[Nat.zero_add] at g0 g1' g2 g3 g4 g5 g6 g7;have hg1:w.heap.size≤g1:=hBg;have hg1r:g1<wr.heap.size:=hlt;clear hhold hh hnc hcm hcs e2 hBg;go_upto_region 5 with fail;have NA:=Zh (RcB.new wr d.r d.va.A d.va.n d.va.c);have BA:Hid (Below wr.heap.size wr (wr.alloc (.cells #[.int .i64 d.r.op,.int .i64 d.r.id,.int .i64 d.r.par,.int .i64 d.r.bef,.string d.r.tag,.string d.r.txt,.string d.r.key,.slice d.va.A d.va.n d.va.c] 71))):=Zh (Zb _ _);generalize wr.alloc (.cells #[.int .i64 d.r.op,.int .i64 d.r.id,.int .i64 d.r.par,.int .i64 d.r.bef,.string d.r.tag,.string d.r.txt,.string d.r.key,.slice d.va.A d.va.n d.va.c] 71)=wa at NA BA⊢;clear g0 g1' g2 g3 g4 g5 g6 g7;have a0:=NA.out.c0;have a1:=NA.out.c1;have a2:=NA.out.c2;have a3:=NA.out.c3;have a4:=NA.out.c4;have a5:=NA.out.c5;have a6:=NA.out.c6;have a7:=NA.out.c7;have hf2:=hdr.out.few;go_wp2_with fail;refine(own_any d.r d.va.A d.va.n d.va.c wa hdr.out.att.len hf2 (fun e=>by have h1:=hdr.out.att.nil e;have h2:=hdr.out.att.cap;omega) (hdr.out.att.below BA.out).holds).mono ?_;rintro e w6 ⟨A6,n6,c6,rfl,ao6,b6⟩;have B6:Hid (Below wr.heap.size wr w6):=Zh (BA.out.trans (b6.mono BA.out.size));have AO6:=Zh ao6;have O6:Hid (kR.Own w6 w.heap.size (.slice (some ⟨g1,0,none⟩) n1 c1) l):=Zh (HO.out.below B6.out (Zl));have R6:Hid (∀a∈l,RecOk w6 a):=Zh (fun a ha=>⟨(HR.out a ha).att.below B6.out,(HR.out a ha).few⟩);have hn6:n6≤1000000:=(by have h1:=ao6.len;have h2:=hdr.out.att.len;simp only at h1;omega);clear a0 a1 a2 a3 a4 a5 a6 a7 NA BA b6 ao6;have T6:w6.there g1 (k*8) 8:=by
    rcases O6.out.form with⟨hv,_⟩|⟨g',c',cur,hv,_,_,_,hh,hnc,_,hcs,_⟩
    ·cases hv
    injection hv with e1 e2 e3;injection e1 with e1;injection e1 with e1;subst e1;subst e3;intro j hj;have hj2:k*8+j<cur.size:=(by rw[hcs];show k*8+j<c1*8;omega);exact⟨by rw[cell_of_row w6 g1 (k*8+j) _ _ (0,0) hh,Array.getElem?_eq_getElem hj2];rfl,by simp[World.frozen?,hh]⟩
   obtain⟨⟨u0,g20⟩,f0⟩:(∃u,w6.cell? ⟨g1,k*8,none⟩=some u)∧w6.frozen? ⟨g1,k*8,none⟩=false:=⟨Option.isSome_iff_exists.1 (T6 0 (by omega)).1,(T6 0 (by omega)).2⟩;obtain⟨⟨u1,g21⟩,f1⟩:(∃u,w6.cell? ⟨g1,k*8+1,none⟩=some u)∧w6.frozen? ⟨g1,k*8+1,none⟩=false:=⟨Option.isSome_iff_exists.1 (T6 1 (by omega)).1,(T6 1 (by omega)).2⟩;obtain⟨⟨u2,g22⟩,f2⟩:(∃u,w6.cell? ⟨g1,k*8+2,none⟩=some u)∧w6.frozen? ⟨g1,k*8+2,none⟩=false:=⟨Option.isSome_iff_exists.1 (T6 2 (by omega)).1,(T6 2 (by omega)).2⟩;obtain⟨⟨u3,g23⟩,f3⟩:(∃u,w6.cell? ⟨g1,k*8+3,none⟩=some u)∧w6.frozen? ⟨g1,k*8+3,none⟩=false:=⟨Option.isSome_iff_exists.1 (T6 3 (by omega)).1,(T6 3 (by omega)).2⟩;obtain⟨⟨u4,g24⟩,f4⟩:(∃u,w6.cell? ⟨g1,k*8+4,none⟩=some u)∧w6.frozen? ⟨g1,k*8+4,none⟩=false:=⟨Option.isSome_iff_exists.1 (T6 4 (by omega)).1,(T6 4 (by omega)).2⟩;obtain⟨⟨u5,g25⟩,f5⟩:(∃u,w6.cell? ⟨g1,k*8+5,none⟩=some u)∧w6.frozen? ⟨g1,k*8+5,none⟩=false:=⟨Option.isSome_iff_exists.1 (T6 5 (by omega)).1,(T6 5 (by omega)).2⟩;obtain⟨⟨u6,g26⟩,f6⟩:(∃u,w6.cell? ⟨g1,k*8+6,none⟩=some u)∧w6.frozen? ⟨g1,k*8+6,none⟩=false:=⟨Option.isSome_iff_exists.1 (T6 6 (by omega)).1,(T6 6 (by omega)).2⟩;obtain⟨⟨u7,g27⟩,f7⟩:(∃u,w6.cell? ⟨g1,k*8+7,none⟩=some u)∧w6.frozen? ⟨g1,k*8+7,none⟩=false:=⟨Option.isSome_iff_exists.1 (T6 7 (by omega)).1,(T6 7 (by omega)).2⟩;clear T6;go_wp2_with fail;have hW:((((((((w6.setCell ⟨g1,k*8,none⟩ (.int .i64 d.r.op)).setCell ⟨g1,k*8+1,none⟩ (.int .i64 d.r.id)).setCell ⟨g1,k*8+2,none⟩ (.int .i64 d.r.par)).setCell ⟨g1,k*8+3,none⟩ (.int .i64 d.r.bef)).setCell ⟨g1,k*8+4,none⟩ (.string d.r.tag)).setCell ⟨g1,k*8+5,none⟩ (.string d.r.txt)).setCell ⟨g1,k*8+6,none⟩ (.string d.r.key)).setCell ⟨g1,k*8+7,none⟩ (.slice A6 n6 c6))=w6.setCells g1 (k*8) (RR.cells ⟨d.r,⟨A6,n6,c6⟩⟩):=rfl;obtain⟨o8,r8,b8⟩:=row_end O6.out hkl R6.out (a:=⟨d.r,⟨A6,n6,c6⟩⟩) ⟨AO6.out,hn6⟩;rw[←hW] at o8 r8 b8;generalize ((((((((w6.setCell ⟨g1,k*8,none⟩ (.int .i64 d.r.op)).setCell ⟨g1,k*8+1,none⟩ (.int .i64 d.r.id)).setCell ⟨g1,k*8+2,none⟩ (.int .i64 d.r.par)).setCell ⟨g1,k*8+3,none⟩ (.int .i64 d.r.bef)).setCell ⟨g1,k*8+4,none⟩ (.string d.r.tag)).setCell ⟨g1,k*8+5,none⟩ (.string d.r.txt)).setCell ⟨g1,k*8+6,none⟩ (.string d.r.key)).setCell ⟨g1,k*8+7,none⟩ (.slice A6 n6 c6))=W8 at o8 r8 b8⊢;have O8:=Zh o8;have R8:=Zh r8;have W8B:Hid (Below w.heap.size w W8):=Zh (HB.out.trans ((B6.out.mono HB.out.size).trans (b8.to_below (fun i _ hi=>by subst hi;exact hg1) (by have:=HB.out.size;have:=B6.out.size;omega))));clear hW o8 r8 b8 g20 f0 g21 f1 g22 f2 g23 f3 g24 f4 g25 f5 g26 f6 g27 f7;go_roundw
   case rel=>exact⟨k+1,l.set k ⟨d.r,⟨A6,n6,c6⟩⟩,by omega,by go_num,Zh (by rw[List.length_set];exact HL.out),Zh (HD.out ⟨d.r,⟨A6,n6,c6⟩⟩ rfl),O8,R8,W8B⟩
   case measure=>simp[intOf];omega
  ·go_wp2_with fail;go_ret;exact⟨A1,n1,c1,l,rfl,HO.out,HM.out,HR.out,HB.out⟩
end P7
namespace P19
open Go.RowKit Kd P4 P5 P7 P14 P16
def pfoot(p:Nat)(x:Dx)(g:Nat)(vd:Value)(k:Nat):Prop:=foot p x k∨lfoot g vd k
def WalkV(w:World)(B g p:Nat)(x:Dx)(vd:Value)(rs:List RR)(par:Int)(ids:List Int)(beh:Int)(want:List PW)(e:Ending)(w':World):Prop:=
 ∃(code:Int) (x':Dx) (vd':Value) (rs':List RR),e = .returned (errV code)∧LDid w B g p x vd x' vd' rs' w'∧
  (¬StandsP x.d.l par ids beh→code=1∧x'.d=x.d∧rs'.map (·.r)=rs.map (·.r))∧
  (StandsP x.d.l par ids beh→hasL x.d.l par=true→PatchOk (dL want+1) (x.d,rs.map (·.r)) par ids beh want→code=0∧(x'.d,rs'.map (·.r))=patchP (dL want+1) (x.d,rs.map (·.r)) par ids beh want)
structure WalkC:Prop where
 nolog:∀(p:Nat) (par beh:Int) (A A':Option Addr) (n c n' c':Nat) (w:World),Calls Tryz.prog 12 #[.pointer none,.pointer (some ⟨p,0,none⟩),.int .i64 par,.slice A n c,.int .i64 beh,.slice A' n' c'] w fun e w'=>e = .returned (errV 1)∧Below w.heap.size w w'
 run:∀(w:World) (B g p:Nat) (x:Dx) (vd:Value) (rs:List RR) (par:Int) (ids:List Int) (A:Option Addr) (n c:Nat) (beh:Int) (A':Option Addr) (n' c':Nat) (ts:List WV),
  Dc w B p x→WF x.d→MayD x.d→Lg w B g p vd rs→(∀w',But (pfoot p x g vd) w w'→kI.Holds w' w'.heap.size A ids)→ids.length=n→n≤c→c≤maxLen→(A=none→c=0)→n≤1000→
  (∀w',But (pfoot p x g vd) w w'→Wm kW w' A' n' c' ts)→(∀t∈erL ts,WfW t)→wtL (erL ts)≤1000→x.n+(szL (erL ts):Nat)≤90000→rs.length+2000*(szL (erL ts)+1)≤800000→
  Calls Tryz.prog 12 #[.pointer (some ⟨g,0,none⟩),.pointer (some ⟨p,0,none⟩),.int .i64 par,.slice A n c,.int .i64 beh,.slice A' n' c'] w (WalkV w B g p x vd rs par ids beh (erL ts))
end P19
namespace P7
open Go.RowKit Kd P4 P5
theorem rrec_eq(r:Rc)(A A':Option Addr)(n c n' c':Nat)(w:World)(hn:r.attrs.length=n)(hn':r.attrs.length=n')(hl:n≤1000000)(h1:kA.Holds w w.heap.size A r.attrs)(h2:kA.Holds w w.heap.size A' r.attrs):
 Calls Tryz.prog 49 #[.agg #[.int .i64 r.op,.int .i64 r.id,.int .i64 r.par,.int .i64 r.bef,.string r.tag,.string r.txt,.string r.key,.slice A n c],.agg #[.int .i64 r.op,.int .i64 r.id,.int .i64 r.par,.int .i64 r.bef,.string r.tag,.string r.txt,.string r.key,.slice A' n' c']] w fun e w'=>e = .returned (.bool true)∧Below w.heap.size w w':=by
 obtain rfl:n'=n:=by omega
 have B1:Hid (Below w.heap.size w ((w.alloc (.cells #[.int .i64 r.op,.int .i64 r.id,.int .i64 r.par,.int .i64 r.bef,.string r.tag,.string r.txt,.string r.key,.slice A n' c] 71)).alloc (.cells #[.int .i64 r.op,.int .i64 r.id,.int .i64 r.par,.int .i64 r.bef,.string r.tag,.string r.txt,.string r.key,.slice A' n' c'] 71))):=Zh ((Zb _ _).alloc (by simp) _);have M1:Hid (RcB ((w.alloc (.cells #[.int .i64 r.op,.int .i64 r.id,.int .i64 r.par,.int .i64 r.bef,.string r.tag,.string r.txt,.string r.key,.slice A n' c] 71)).alloc (.cells #[.int .i64 r.op,.int .i64 r.id,.int .i64 r.par,.int .i64 r.bef,.string r.tag,.string r.txt,.string r.key,.slice A' n' c'] 71)) w.heap.size r A n' c):=Zh (heap_up (RcB.new w r A n' c));have M2:Hid (RcB ((w.alloc (.cells #[.int .i64 r.op,.int .i64 r.id,.int .i64 r.par,.int .i64 r.bef,.string r.tag,.string r.txt,.string r.key,.slice A n' c] 71)).alloc (.cells #[.int .i64 r.op,.int .i64 r.id,.int .i64 r.par,.int .i64 r.bef,.string r.tag,.string r.txt,.string r.key,.slice A' n' c'] 71)) (w.heap.size+1) r A' n' c'):=Zh (heap_top (by simp));have H1:=Zh h1;have H2:=Zh h2;have HN:=Zh hn;clear h1 h2 hn hn';go_enter Tryz.func49,Tryz.ntmps49;go_upto_region 1 with fail;generalize (w.alloc (.cells #[.int .i64 r.op,.int .i64 r.id,.int .i64 r.par,.int .i64 r.bef,.string r.tag,.string r.txt,.string r.key,.slice A n' c] 71)).alloc (.cells #[.int .i64 r.op,.int .i64 r.id,.int .i64 r.par,.int .i64 r.bef,.string r.tag,.string r.txt,.string r.key,.slice A' n' c'] 71)=W at B1 M1 M2⊢;have a7:=M1.out.c7;have b7:=M2.out.c7;go_wp2_with fail;refine(P3.rsame_any r.attrs r.attrs A A' n' n' c c' W HN.out HN.out (by omega) (by omega) (p3holds (H1.out.on B1.out)) (p3holds (H2.out.on B1.out))).mono ?_;rintro e w3 ⟨rfl,b3⟩;rw[sameA_refl];have B3:=Zh (B1.out.trans (b3.mono B1.out.size));have M5:=Zh (M1.out.below b3 M1.out.lt);have M6:=Zh (M2.out.below b3 M2.out.lt);clear b3 a7 b7 M1 M2;have a0:=M5.out.c0;have a1:=M5.out.c1;have a2:=M5.out.c2;have a3:=M5.out.c3;have a4:=M5.out.c4;have a5:=M5.out.c5;have a6:=M5.out.c6;have a7:=M5.out.c7;have b0:=M6.out.c0;have b1:=M6.out.c1;have b2:=M6.out.c2;have b3:=M6.out.c3;have b4:=M6.out.c4;have b5:=M6.out.c5;have b6:=M6.out.c6;have b7:=M6.out.c7;go_wp2_with fail;go_ret;exact⟨rfl,B3.out⟩
theorem rrecs_eq(l m:List RR)(A A':Option Addr)(n c c':Nat)(w:World)(hl:l.length=n)(hm:l.map (·.r)=m.map (·.r))(hn:n≤1000000)(h1:kR.Holds w w.heap.size A l)(h2:kR.Holds w w.heap.size A' m)
 (ha:∀a∈l,a.r.attrs.length=a.va.n∧a.va.n≤1000000∧kA.Holds w w.heap.size a.va.A a.r.attrs) (hb:∀a∈m,a.r.attrs.length=a.va.n∧kA.Holds w w.heap.size a.va.A a.r.attrs):
 Calls Tryz.prog 20 #[.slice A n c,.slice A' n c'] w fun e w'=>e = .returned (.bool true)∧Below w.heap.size w w':=by
 have hlm:m.length=n:=(by rw[←hl];have:=congrArg List.length hm;simpa using this.symm);have HL:=Zh hl;have HM:=Zh hlm;have HE:=Zh hm;have H1:=Zh h1;have H2:=Zh h2;have HA:=Zh ha;have HB:=Zh hb;clear hl hm hlm h1 h2 ha hb;go_enter Tryz.func20,Tryz.ntmps20;go_wp2_with fail;go_loopw [5] (fun s wr=>∃j:Nat,j≤n∧s = .int .i64 j∧Hid (Below w.heap.size w wr)) (fun s _=>n-(intOf s).toNat)
 case atStart=>exact⟨0,by omega,rfl,Zh Ze⟩
 case round=>
  obtain⟨j,hj,rfl,HW⟩:=hrel;by_cases hjn:j<n
  ·have hjl:j<l.length:=(by have:=HL.out;omega);have hjm:j<m.length:=(by have:=HM.out;omega);obtain⟨b,o,rfl,hbw,g0,g1,g2,g3,g4,g5,g6,g7⟩:=cell_of_recs (H1.out.on HW.out) hjl;obtain⟨b',o',rfl,hbw',k0,k1,k2,k3,k4,k5,k6,k7⟩:=cell_of_recs (H2.out.on HW.out) hjm;obtain⟨a1,a2,a3⟩:=HA.out _ (List.getElem_mem hjl);obtain⟨b1,b2⟩:=HB.out _ (List.getElem_mem hjm);have e:l[j].r=m[j].r:=by
    have:=HE.out;have h1:(l.map (·.r))[j]'(by simpa using hjl)=(m.map (·.r))[j]'(by simpa using hjm):=(by congr 1);simpa using h1
   rw[←e] at k0 k1 k2 k3 k4 k5 k6 b1 b2;generalize m[j].va=va' at k7 b1 b2;clear e;generalize l[j]=d at g0 g1 g2 g3 g4 g5 g6 g7 k0 k1 k2 k3 k4 k5 k6 k7 a1 a2 a3 b1 b2;obtain⟨r,A,n0,c0⟩:=d;obtain⟨A',n1,c1⟩:=va';simp only at g0 g1 g2 g3 g4 g5 g6 g7 k0 k1 k2 k3 k4 k5 k6 k7 a1 a2 a3 b1 b2;have A1:=Zh a1;have A3:=Zh a3;have B1:=Zh b1;have B2:=Zh b2;clear a1 a3 b1 b2;have SKEEP:Hid (∀w',Below wr.heap.size wr w'→(w'.cell? ⟨b,o+j*8,none⟩=some (.int .i64 r.op)∧w'.cell? ⟨b,o+j*8+1,none⟩=some (.int .i64 r.id)∧w'.cell? ⟨b,o+j*8+2,none⟩=some (.int .i64 r.par)∧w'.cell? ⟨b,o+j*8+3,none⟩=some (.int .i64 r.bef)∧w'.cell? ⟨b,o+j*8+4,none⟩=some (.string r.tag)∧w'.cell? ⟨b,o+j*8+5,none⟩=some (.string r.txt)∧w'.cell? ⟨b,o+j*8+6,none⟩=some (.string r.key)∧w'.cell? ⟨b,o+j*8+7,none⟩=some (.slice A n0 c0)∧w'.cell? ⟨b',o'+j*8,none⟩=some (.int .i64 r.op)∧w'.cell? ⟨b',o'+j*8+1,none⟩=some (.int .i64 r.id)∧w'.cell? ⟨b',o'+j*8+2,none⟩=some (.int .i64 r.par)∧w'.cell? ⟨b',o'+j*8+3,none⟩=some (.int .i64 r.bef)∧w'.cell? ⟨b',o'+j*8+4,none⟩=some (.string r.tag)∧w'.cell? ⟨b',o'+j*8+5,none⟩=some (.string r.txt)∧w'.cell? ⟨b',o'+j*8+6,none⟩=some (.string r.key)∧w'.cell? ⟨b',o'+j*8+7,none⟩=some (.slice A' n1 c1))):=Zh (fun w' hb'=>⟨(hb'.cell (p:=⟨b,o+j*8,none⟩) hbw).trans g0,(hb'.cell (p:=⟨b,o+j*8+1,none⟩) hbw).trans g1,(hb'.cell (p:=⟨b,o+j*8+2,none⟩) hbw).trans g2,(hb'.cell (p:=⟨b,o+j*8+3,none⟩) hbw).trans g3,(hb'.cell (p:=⟨b,o+j*8+4,none⟩) hbw).trans g4,(hb'.cell (p:=⟨b,o+j*8+5,none⟩) hbw).trans g5,(hb'.cell (p:=⟨b,o+j*8+6,none⟩) hbw).trans g6,(hb'.cell (p:=⟨b,o+j*8+7,none⟩) hbw).trans g7,(hb'.cell (p:=⟨b',o'+j*8,none⟩) hbw').trans k0,(hb'.cell (p:=⟨b',o'+j*8+1,none⟩) hbw').trans k1,(hb'.cell (p:=⟨b',o'+j*8+2,none⟩) hbw').trans k2,(hb'.cell (p:=⟨b',o'+j*8+3,none⟩) hbw').trans k3,(hb'.cell (p:=⟨b',o'+j*8+4,none⟩) hbw').trans k4,(hb'.cell (p:=⟨b',o'+j*8+5,none⟩) hbw').trans k5,(hb'.cell (p:=⟨b',o'+j*8+6,none⟩) hbw').trans k6,(hb'.cell (p:=⟨b',o'+j*8+7,none⟩) hbw').trans k7⟩);go_wp2_with fail;go_region_held3 (fun w'=>w'.cell? ⟨b,o+j*8,none⟩=some (.int .i64 r.op)∧w'.cell? ⟨b,o+j*8+1,none⟩=some (.int .i64 r.id)∧w'.cell? ⟨b,o+j*8+2,none⟩=some (.int .i64 r.par)∧w'.cell? ⟨b,o+j*8+3,none⟩=some (.int .i64 r.bef)∧w'.cell? ⟨b,o+j*8+4,none⟩=some (.string r.tag)∧w'.cell? ⟨b,o+j*8+5,none⟩=some (.string r.txt)∧w'.cell? ⟨b,o+j*8+6,none⟩=some (.string r.key)∧w'.cell? ⟨b,o+j*8+7,none⟩=some (.slice A n0 c0)∧w'.cell? ⟨b',o'+j*8,none⟩=some (.int .i64 r.op)∧w'.cell? ⟨b',o'+j*8+1,none⟩=some (.int .i64 r.id)∧w'.cell? ⟨b',o'+j*8+2,none⟩=some (.int .i64 r.par)∧w'.cell? ⟨b',o'+j*8+3,none⟩=some (.int .i64 r.bef)∧w'.cell? ⟨b',o'+j*8+4,none⟩=some (.string r.tag)∧w'.cell? ⟨b',o'+j*8+5,none⟩=some (.string r.txt)∧w'.cell? ⟨b',o'+j*8+6,none⟩=some (.string r.key)∧w'.cell? ⟨b',o'+j*8+7,none⟩=some (.slice A' n1 c1))
    (first|go_keep|exact SK) ((first
    |(go_at_call 49;refine(rrec_eq r A A' n0 c0 n1 c1 _ A1.out B1.out a2 (by exact(A3.out.on HW.out).drewN _) (by exact(B2.out.on HW.out).drewN _)).mono ?_;rintro e w10 ⟨rfl,b10⟩;have B10:Hid (Below wr.heap.size wr w10):=Zh ((Below_drewN (Below.refl _ wr) _).trans b10);have SK:=SKEEP.out w10 B10.out;clear b10)
    |fail))
   have B11:=Zh (HW.out.trans (B10.out.mono HW.out.size));go_wp2_with fail;go_roundw
   case rel=>exact⟨j+1,by omega,by go_num,B11⟩
   case measure=>simp[intOf];omega
  ·go_wp2_with fail;go_ret;exact⟨rfl,HW.out⟩
end P7
namespace P19
open Go.RowKit Kd P4 P5 P7 P11 P14 P16
def tA:WV:=.mk 2 ⟨#[]⟩ ⟨#[]⟩ ⟨#[97]⟩ ⟨none,0,0⟩ [] ⟨none,0,0⟩ []
def sE9:Sg:=(newD 9,[])
theorem erA:erL [tA]=[.mk 2 z0 z0 ⟨#[97]⟩ [] []]:=rfl
theorem doP_log{s:Sg}{r:Rc}(h:OkD s r):(doP s r).2=s.2++[r]:=by
 unfold doP;simp only;rw[if_pos (show(applyD s.1 r).1=0 from h)]
theorem wfA:∀x∈erL [tA],WfW x:=fun x hx=>by
 rw[erA] at hx;rcases List.mem_singleton.1 hx with rfl;refine .tx ?_;have h1:(⟨#[97]⟩:ByteArray).data.toList=[97]:=rfl;have h2:(z0:ByteArray).toList=[]:=ByteArray.toList_eq _;have e:mayI ⟨4,⟨#[97]⟩,z0⟩=(P1.textB (⟨#[97]⟩:ByteArray).data.toList&&(z0:ByteArray).toList.isEmpty):=(by simp[mayI]);rw[e,h1,h2]
 decide
theorem ex19_ok:PatchOk (dL (erL [tA])+1) sE9 1 [] 0 (erL [tA]):=by
 have w9:WF (newD 9):=wf_newD (by omega) (by omega);refine walk_noerr (s:=sE9) w9 (wf_may w9) ⟨[],[],rfl,rfl⟩ rfl ?_ wfA (fun x hx=>?_) (by decide)
 ·have h:tagOf sE9.1.l 1=⟨#[114,111,111,116]⟩:=rfl;rw[h];unfold noKids;rw[ByteArray.toList_eq]
  decide
 ·rw[erA] at hx;rcases List.mem_singleton.1 hx with rfl;exact .mk may_nil (fun k hk=>by cases hk)
theorem ex19_is:patchP (dL (erL [tA])+1) sE9 1 [] 0 (erL [tA])=doP (doP sE9 (recMake (sE9.1.n+1) z0 ⟨#[97]⟩ z0)) (recPut (sE9.1.n+1) 1 0):=by
 rw[patch_succ];have e:atW (fun s i ks w=>patchP (dL (erL [tA])) s i ks 0 w) 1 0 [] (([]:List Int).map (oldOf sE9.1.l)) (erL [tA]) sE9 (erL [tA]).length=(new2 1 0 (.mk 2 z0 z0 ⟨#[97]⟩ [] []) sE9,[]):=by
  show atW _ 1 0 [] _ (erL [tA]) sE9 (0+1)=_;rw[atW_succ (by decide)];show stepW _ 1 0 [] _ _ (sE9,[])=_;rw[step_new (by decide) (by decide) (by decide)];show(newP _ 1 0 (.mk 2 z0 z0 ⟨#[97]⟩ [] []) sE9,[])=_;rw[new_no (by decide)];unfold new3;rw[if_pos (show P3.newA (PW.mk 2 z0 z0 ⟨#[97]⟩ [] []).attrs=[] from rfl)]
 rw[e];rfl
theorem ex19_log:(patchP (dL (erL [tA])+1) sE9 1 [] 0 (erL [tA])).2.map (·.op)=[1,2]:=by
 have h:=ex19_ok.1 0 (by decide);have hn:=(h (by decide)).2 (by decide) (by decide);obtain⟨o1,o2,_,_⟩:=hn;rw[ex19_is];have o1':OkD sE9 (recMake (sE9.1.n+1) z0 ⟨#[97]⟩ z0):=o1;have o2':OkD (doP sE9 (recMake (sE9.1.n+1) z0 ⟨#[97]⟩ z0)) (recPut (sE9.1.n+1) 1 0):=o2;rw[doP_log o2',doP_log o1'];rfl
theorem ex19_no:¬StandsP (patchP (dL (erL [tA])+1) sE9 1 [] 0 (erL [tA])).1.l 1 [7] 0:=by
 intro h;have w9:WF (newD 9):=wf_newD (by omega) (by omega);have hw:=doP_wf (doP_wf (s:=sE9) w9 (recMake (sE9.1.n+1) z0 ⟨#[97]⟩ z0)) (recPut (sE9.1.n+1) 1 0);rw[←ex19_is] at hw;have h7:=(hw.pos ((stands_kids hw h).1 7 (List.mem_singleton.2 rfl)).1).2;have h1:=(apply_n (newD 9) (recMake (sE9.1.n+1) z0 ⟨#[97]⟩ z0)).1;have h2:=(apply_n (applyD (newD 9) (recMake (sE9.1.n+1) z0 ⟨#[97]⟩ z0)).2 (recPut (sE9.1.n+1) 1 0)).1;rw[ex19_is] at h7;have h3:(7:Int)≤(applyD (applyD (newD 9) (recMake (sE9.1.n+1) z0 ⟨#[97]⟩ z0)).2 (recPut (sE9.1.n+1) 1 0)).2.n:=h7;have h4:(newD 9).n=1:=rfl;omega
theorem empty_code{c:Int}(h:c=1):errV c = .iface 43 (.int .i64 1):=by subst h;rfl
theorem err_neq(a b:Int)(w:World):(binOp .neq 30 (.iface 43 (.int .i64 a)) (.iface 43 (.int .i64 b))).run Tryz.prog w = .ok (.bool (a != b)) w:=
 Lib.run_neq_iface_int w a b Tryz.underlying30 (by kernel_rfl) Tryz.underlying43
theorem ex19_yes:StandsP (newD 9).l 1 [] 0:=⟨[],[],rfl,rfl⟩
theorem up19_any(KC:WalkC)(w:World):Calls Tryz.prog 4 #[] w fun e w'=>e = .returned (.bool true)∧Below w.heap.size w w':=by
 have HK:=Zh KC;have q1:=err_eql_nil;have q2:=err_eql;have q3:=err_neq_nil;have q4:=nil_eql_nil;have q5:=nil_neq_nil;have q6:=err_neq;clear KC;go_enter Tryz.func4,Tryz.ntmps4;go_wp2_with fail;refine(newDoc_at 9 9 w rfl (by omega) (by omega)).mono ?_;rintro e w1 ⟨p,x,rfl,dc1,hd1,b1⟩;have D1:=Zh dc1;have E1:=Zh hd1;have B1:=Zh b1;clear dc1 hd1 b1;go_wp2_with fail;refine(new_any (some ⟨p,0,none⟩) w1).mono ?_;rintro e w2 ⟨rfl,hw2⟩;have L2:Hid (Lg w2 w.heap.size w1.heap.size p (.slice none 0 0) []):=Zh (by rw[hw2];exact Lg.new B1.out.size p);have b2:Below w1.heap.size w1 w2:=(by rw[hw2];exact Zb _ _);have D2:=Zh (D1.out.below b2);have B2:=Zh (B1.out.trans (b2.mono B1.out.size));clear hw2 b2;generalize w1.heap.size=g at L2⊢;have hne:g≠w2.heap.size:=(by have:=heap_lt L2.out.blk;omega);have hn1:x.n=1:=by
  have:x.d.n=1:=(by rw[E1.out];rfl);exact this
 have X1:Hid ((w2.alloc (.cells #[.int .i64 2,.string ⟨#[]⟩,.string ⟨#[]⟩,.string ⟨#[97]⟩,.slice none 0 0,.slice none 0 0] 69)).heap[w2.heap.size]? = some (.cells #[.int .i64 2,.string ⟨#[]⟩,.string ⟨#[]⟩,.string ⟨#[97]⟩,.slice none 0 0,.slice none 0 0] 69 (0,0))):=Zh (heap_alloc_new w2 _);have Y1:Hid (Below w2.heap.size w2 (w2.alloc (.cells #[.int .i64 2,.string ⟨#[]⟩,.string ⟨#[]⟩,.string ⟨#[97]⟩,.slice none 0 0,.slice none 0 0] 69))):=Zh (Zb _ _);have CM:Hid (∀wz:World,Below w2.heap.size w2 wz→wz.heap[w2.heap.size]? = some (.cells #[.int .i64 2,.string ⟨#[]⟩,.string ⟨#[]⟩,.string ⟨#[97]⟩,.slice none 0 0,.slice none 0 0] 69 (0,0))→
  Calls Tryz.prog 12 #[.pointer (some ⟨g,0,none⟩),.pointer (some ⟨p,0,none⟩),.int .i64 1,.slice none 0 0,.int .i64 0,.slice (some ⟨w2.heap.size,0,none⟩) 1 1] wz (WalkV wz w.heap.size g p x (.slice none 0 0) [] 1 [] 0 (erL [tA]))):=Zh (fun wz hb hz=>
  have Dz:=D2.out.below hb
  HK.out.run wz w.heap.size g p x (.slice none 0 0) [] 1 [] none 0 0 0 (some ⟨w2.heap.size,0,none⟩) 1 1 [tA] Dz (by rw[E1.out];exact wf_newD (by omega) (by omega)) (by rw[E1.out];exact wf_may (wf_newD (by omega) (by omega))) (L2.out.below hb)
   (fun w' _=>Kind.Holds.nil _ _ _) rfl (Zl) (by decide) (fun _=>rfl) (by omega)
   (fun w' h'=>
    have hn:w'.heap[w2.heap.size]? = some (.cells #[.int .i64 2,.string ⟨#[]⟩,.string ⟨#[]⟩,.string ⟨#[97]⟩,.slice none 0 0,.slice none 0 0] 69 (0,0)):=(h'.block w2.heap.size (heap_lt hz) (fun e=>by
     rcases e with e|e|e
     ·exact Dz.other hz (by decide) (by decide) (by decide) (by decide) (by decide) e
     ·exact hne e.symm
     ·cases e)).trans hz
    ⟨rfl,Zl,by decide,(fun e=>by cases e),(Kind.Holds.lit hn rfl).more (heap_lt hn),fun t ht=>by
     rcases List.mem_singleton.1 ht with rfl;exact⟨rfl,Zl,fun _=>rfl,Kind.Holds.nil _ _ _,rfl,Zl,fun _=>rfl,Kind.Holds.nil _ _ _,fun k hk=>by cases hk⟩⟩)
   wfA (by decide) (by rw[hn1];decide) (by decide))
 go_wp2_with fail;refine(CM.out _ Y1.out X1.out).mono ?_;rintro e w3 ⟨code,x3,vd3,rs3,rfl,ld3,_,hyes⟩;obtain⟨rfl,h3⟩:=hyes (by rw[E1.out];exact ex19_yes) (by rw[E1.out];rfl) (by rw[E1.out];exact ex19_ok);rw[E1.out] at h3;have B3:=Zh ((B2.out.trans (Y1.out.mono B2.out.size)).trans (ld3.to_below (D2.out.below Y1.out) (L2.out.below Y1.out)));have D3:=Zh ld3.dc;have L3:=Zh ld3.lg;have W3:Hid (x3.d=(patchP (dL (erL [tA])+1) sE9 1 [] 0 (erL [tA])).1):=Zh (congrArg Prod.fst h3);have R3:Hid (rs3.map (·.r)=(patchP (dL (erL [tA])+1) sE9 1 [] 0 (erL [tA])).2):=Zh (congrArg Prod.snd h3);have hrl:rs3.length=2:=by
  have h1:=congrArg (List.map (·.op)) R3.out;rw[ex19_log] at h1;have h2:=congrArg List.length h1;simpa using h2
 have hn3:x3.n≤3:=by
  have h1:x3.d.n≤3:=by
   rw[W3.out,ex19_is];have h1:=(apply_n (newD 9) (recMake (sE9.1.n+1) z0 ⟨#[97]⟩ z0)).1;have h2:=(apply_n (applyD (newD 9) (recMake (sE9.1.n+1) z0 ⟨#[97]⟩ z0)).2 (recPut (sE9.1.n+1) 1 0)).1;have h4:(newD 9).n=1:=rfl;show(applyD (applyD (newD 9) (recMake (sE9.1.n+1) z0 ⟨#[97]⟩ z0)).2 (recPut (sE9.1.n+1) 1 0)).2.n≤3;omega
  exact h1
 have hw3:WF x3.d:=by
  rw[W3.out,ex19_is];exact doP_wf (doP_wf (s:=sE9) (wf_newD (by omega) (by omega)) (recMake (sE9.1.n+1) z0 ⟨#[97]⟩ z0)) (recPut (sE9.1.n+1) 1 0)
 have WF3:=Zh hw3;clear ld3 hyes h3 CM X1 Y1 D2 L2 B2 E1 D1 B1 hn1 hne hw3;rw[errV0];have X2:Hid ((w3.alloc (.cells #[.int .i64 7] 3)).heap[w3.heap.size]? = some (.cells #[.int .i64 7] 3 (0,0))):=Zh (heap_alloc_new w3 _);have Y2:Hid (Below w3.heap.size w3 (w3.alloc (.cells #[.int .i64 7] 3))):=Zh (Zb _ _);have CM:Hid (∀wz:World,Below w3.heap.size w3 wz→wz.heap[w3.heap.size]? = some (.cells #[.int .i64 7] 3 (0,0))→
  Calls Tryz.prog 12 #[.pointer (some ⟨g,0,none⟩),.pointer (some ⟨p,0,none⟩),.int .i64 1,.slice (some ⟨w3.heap.size,0,none⟩) 1 1,.int .i64 0,.slice none 0 0] wz (WalkV wz w.heap.size g p x3 vd3 rs3 1 [7] 0 (erL []))):=Zh (fun wz hb hz=>
  HK.out.run wz w.heap.size g p x3 vd3 rs3 1 [7] (some ⟨w3.heap.size,0,none⟩) 1 1 0 none 0 0 [] (D3.out.below hb) WF3.out (wf_may WF3.out) (L3.out.below hb)
   (fun w' h'=>
    have hn:w'.heap[w3.heap.size]? = some (.cells #[.int .i64 7] 3 (0,0)):=(h'.block w3.heap.size (heap_lt hz) (fun e=>by
     rcases e with e|e
     ·exact Nat.lt_irrefl _ (D3.out.lt e)
     ·exact Nat.lt_irrefl _ (L3.out.lt e))).trans hz
    (Kind.Holds.lit hn rfl).more (heap_lt hn)) rfl (Zl) (by decide) (fun e=>by cases e) (by omega)
   (fun w' _=>⟨rfl,Zl,by decide,fun _=>rfl,Kind.Holds.nil _ _ _,fun t ht=>by cases ht⟩)
   (fun t ht=>by cases ht) (by decide) (by show x3.n+((0:Nat):Int)≤90000;omega) (by show rs3.length+2000*1≤800000;omega))
 go_wp2_with fail;refine(CM.out _ Y2.out X2.out).mono ?_;rintro e w4 ⟨code,x4,vd4,rs4,rfl,ld4,hno,_⟩;obtain⟨rfl,hx4,hr4⟩:=hno (by rw[W3.out];exact ex19_no);have B4:=Zh ((B3.out.trans (Y2.out.mono B3.out.size)).trans (ld4.to_below (D3.out.below Y2.out) (L3.out.below Y2.out)));have L4:=Zh ld4.lg;have R4:Hid (rs4.map (·.r)=(patchP (dL (erL [tA])+1) sE9 1 [] 0 (erL [tA])).2):=Zh (hr4.trans R3.out);have hrl4:rs4.length=2:=(by have:=congrArg List.length hr4;simpa[hrl] using this);clear ld4 hno hr4 hx4 CM X2 Y2 D3 L3 R3 W3 WF3 B3 hn3 hrl;rw[empty_code rfl];go_wp2_with fail;refine(all_any w4 (by omega) L4.out).mono ?_;rintro e w5 ⟨A,n,c,rs5,rfl,o5,hm5,_,b5⟩;have B5:=Zh (B4.out.trans (b5.mono B4.out.size));obtain⟨_,_,_,hv,hl5,hlc,hcm,_,hh5⟩:=own_r o5;injection hv with e1 e2 e3;subst e1;subst e2;subst e3;obtain rfl:n=2:=by rw[←hl5,←hrl4];have:=congrArg List.length hm5;simpa using this
 have h1:=congrArg (List.map (·.op)) (hm5.trans R4.out);rw[ex19_log] at h1
 match rs5,hl5,h1,hh5 with
 |[u,v],_,h1,hh5=>
 have hu:u.r.op=1:=(by simp at h1;exact h1.1);have hv2:v.r.op=2:=(by simp at h1;exact h1.2);obtain⟨b,o,rfl,hb,t0,_⟩:=cell_of_recs hh5 (k:=0) (by simp);obtain⟨b',o',e1,_,t1,_⟩:=cell_of_recs hh5 (k:=1) (by simp);injection e1 with e1;injection e1 with e1 e2 _;subst e1;subst e2;have t0:w5.cell? ⟨b,o,none⟩=some (.int .i64 1):=(by rw[←hu];exact t0);have t1:w5.cell? ⟨b,o+8,none⟩=some (.int .i64 2):=(by rw[←hv2];exact t1);clear hm5 b5 o5 h1 hh5 R4 L4 B4 hl5 hrl4;have NL:=Zh (fun wz:World=>HK.out.nolog p 1 0 none none 0 0 0 0 wz);go_wp2_with fail;refine(NL.out w5).mono ?_;rintro e w6 ⟨rfl,b6⟩;have B6:=Zh (B5.out.trans (b6.mono B5.out.size));clear b6;rw[empty_code rfl];go_wp2_with fail;go_ret;exact⟨by first|rfl|simp,B6.out⟩
end P19
namespace P19
open Go.RowKit Kd P4 P5 P14 P16
theorem own_s19{w:World}{B n c:Nat}{A:Option Addr}{l:List Int}(h:kI.Own w B (.slice A n c) l):l.length=n∧n≤c∧c≤maxLen∧(A=none→c=0)∧kI.Holds w w.heap.size A l:=by
 obtain⟨A',n',c',hv,e1,e2,e3,e4,e5⟩:=h.slice;injection hv with h1 h2 h3;subst h1;subst h2;subst h3;exact⟨e1,e2,e3,e4,e5⟩
def agr(kids ids:List Int)(k m:Nat):Bool:=decide (∀i,i<m→kids[k+i]? = ids[i]?)
theorem agr_succ(kids ids:List Int)(k m:Nat):agr kids ids k (m+1)=(agr kids ids k m&&decide (kids[k+m]? = ids[m]?)):=by
 unfold agr;rw[←Bool.decide_and];congr 1;exact propext ⟨fun h=>⟨fun i hi=>h i (by omega),h m (by omega)⟩,fun h i hi=>by
  by_cases e:i=m
  ·subst e;exact h.2
  ·exact h.1 i (by omega)⟩
theorem agr_all{kids ids:List Int}{k:Nat}(hk:k+ids.length≤kids.length):agr kids ids k ids.length=decide ((kids.drop k).take ids.length=ids):=by
 unfold agr;congr 1;refine propext ⟨fun h=>List.ext_getElem? fun i=>?_,fun h i hi=>?_⟩
 ·rw[List.getElem?_take];by_cases hi:i<ids.length
  ·rw[if_pos hi,List.getElem?_drop];exact h i hi
  ·rw[if_neg hi,List.getElem?_eq_none (by omega)]
 ·rw[←List.getElem?_drop]
  conv=>rhs;rw[←h]
  rw[List.getElem?_take,if_pos hi]
def StRel(w:World)(kids ids:List Int)(beh:Int)(s10:Value)(wr:World):Prop:=∃k:Nat,k≤kids.length+1∧s10 = .int .i64 k∧Hid (∀j,j<k→j+ids.length≤kids.length→atFrom kids ids beh j=false)∧Hid (Below w.heap.size w wr)
def SjRel(w:World)(kids ids:List Int)(n k:Nat)(s11 s12:Value)(wr:World):Prop:=∃(m:Nat) (b:Bool),m≤n∧s12 = .int .i64 m∧s11 = .bool b∧Hid (b=agr kids ids k m)∧Hid (Below w.heap.size w wr)
def StV(w:World)(P:Prop)(e:Ending)(w':World):Prop:=∃r:Bool,e = .returned (.bool r)∧(r=true↔P)∧Below w.heap.size w w'
theorem stands_any{w:World}{B q:Nat}{y:Rx}(par:Int)(ids:List Int)(A:Option Addr)(n c:Nat)(beh:Int)(hwf:WF y.d)(h:Rf w B q y)(hi:kI.Holds w w.heap.size A ids)(hn:ids.length=n)(hn2:n≤1000):
 Calls Tryz.prog 13 #[.pointer (some ⟨q,0,none⟩),.int .i64 par,.slice A n c,.int .i64 beh] w (StV w (StandsP y.d.l par ids beh)):=by
 have hl:y.rs.length≤1000:=(by have:=hwf.len200;rw[show y.d.l=y.l from rfl,rl_len] at this;omega);have CK:=Zh (kids_any par w hwf.asc hl h);have HI:=Zh hi;have HN:=Zh hn;have KP:Hid (∀c∈kidsOf y.d.l par,c≠0):=Zh (fun c hc=>kids_pos hwf hc);have KL:(kidsOf y.d.l par).length≤200:=kids_len19 hwf par;have IFF:=Zh (stands_iff (d:=y.d) (par:=par) (beh:=beh) (ids:=ids));rw[show y.l=y.d.l from rfl] at CK;clear h hi hn hwf;generalize StandsP y.d.l par ids beh=P at IFF⊢;generalize kidsOf y.d.l par=kids at CK KP KL IFF;go_enter Tryz.func13,Tryz.ntmps13;go_upto_region 2 with(go_at_call 33;refine CK.out.mono ?_;rintro e w1 ⟨⟨A1,n1,c1,rfl,ho,_⟩,rfl⟩);obtain⟨o1,_,_,_,o5⟩:=own_s19 ho;have HK:=Zh o5;have HN1:=Zh o1;have h200:n1≤200:=(by omega);clear ho o1 o5 CK;go_wp2_with fail;go_loopw [10] (fun s10 wr=>StRel w kids ids beh s10 wr) (fun s10 _=>n1+2-(intOf s10).toNat)
 case atStart=>exact⟨0,by omega,rfl,Zh (fun j hj=>by omega),Zh Ze⟩
 case round=>
  obtain⟨k,hk,rfl,HF,HB⟩:=hrel;have hk1:k≤n1+1:=(by have:=HN1.out;omega);have w1':IntKind.i64.wrap ((k:Int)+(n:Int))=(k:Int)+(n:Int):=by
   simp[IntKind.wrap,IntKind.bits,IntKind.signed];omega
  by_cases hkn:k+n≤n1
  ·have i1:(k:Int)+(n:Int)≤(n1:Int):=(by omega);go_wp2_with fail;obtain⟨wo,rfl⟩:∃wo:World,wo=wr:=⟨_,rfl⟩;go_loopw [11,12] (fun s11 s12 wr=>SjRel w kids ids n k s11 s12 wr) (fun _ s12 _=>n-(intOf s12).toNat)
   case atStart=>exact⟨0,true,by omega,rfl,rfl,Zh (by unfold agr;symm;rw[decide_eq_true_eq];intro i hi;omega),HB⟩
   case round=>
    obtain⟨m,b,hm,rfl,rfl,HG,HB2⟩:=hrel;by_cases hmn:m<n
    ·have hml:m<ids.length:=(by have:=HN.out;omega);have hkl:k+m<kids.length:=(by have:=HN1.out;omega);obtain⟨b1,o1,rfl,_,g1⟩:=cell_int (HK.out.on HB2.out) hkl;obtain⟨b2,o2,rfl,_,g2⟩:=cell_int (HI.out.on HB2.out) hml;have w2':IntKind.i64.wrap ((k:Int)+(m:Int))=((k+m:Nat):Int):=by
      simp[IntKind.wrap,IntKind.bits,IntKind.signed];omega
     have j1:(0:Int)≤((k+m:Nat):Int):=(by omega);have j2:((k+m:Nat):Int)<(n1:Int):=(by omega);have j3:(0:Int)≤(m:Int):=(by omega);have j4:(m:Int)<(n:Int):=(by omega);have HS:Hid (agr kids ids k (m+1)=(b&&(kids[k+m]==ids[m]))):=Zh (by
      rw[agr_succ,←HG.out,List.getElem?_eq_getElem hkl,List.getElem?_eq_getElem hml];congr 1;by_cases e:kids[k+m]=ids[m]
      ·rw[e];simp
      ·have e2:(kids[k+m]==ids[m])=false:=beq_eq_false_iff_ne.2 e;rw[e2,decide_eq_false_iff_not];exact fun e3=>e (Option.some.inj e3))
     generalize kids[k+m]=v1 at g1 HS;generalize ids[m]=v2 at g2 HS;cases b with
     |false=>
      have hs2:agr kids ids k (m+1)=false:=(by rw[HS.out];rfl);go_upto_region 9 with fail;go_quiet (fail);go_wp2_with fail;go_roundw
      case rel=>exact⟨m+1,false,by omega,by go_num,rfl,Zh hs2.symm,by first|exact HB2|exact Zh (Below_drewN HB2.out _)⟩
      case measure=>simp[intOf];omega
     |true=>
      cases he:(v1==v2) with
      |true=>
       have hs2:agr kids ids k (m+1)=true:=(by rw[HS.out,he];rfl);go_upto_region 9 with fail;go_quiet (fail);go_wp2_with fail;go_roundw
       case rel=>exact⟨m+1,true,by omega,by go_num,rfl,Zh hs2.symm,by first|exact HB2|exact Zh (Below_drewN HB2.out _)⟩
       case measure=>simp[intOf];omega
      |false=>
       have hs2:agr kids ids k (m+1)=false:=(by rw[HS.out,he];rfl);go_upto_region 9 with fail;go_quiet (fail);go_wp2_with fail;go_roundw
       case rel=>exact⟨m+1,false,by omega,by go_num,rfl,Zh hs2.symm,by first|exact HB2|exact Zh (Below_drewN HB2.out _)⟩
       case measure=>simp[intOf];omega
    ·obtain rfl:m=n:=by omega
     have hkk:k+ids.length≤kids.length:=(by have:=HN.out;have:=HN1.out;omega);have AF:Hid (atFrom kids ids beh k=(b&&decide ((kids.drop (k+m)).headD 0=beh))):=Zh (by
      unfold atFrom;rw[←agr_all hkk,HN.out,←HG.out])
     have DEC:Hid (∀r:Bool,r=atFrom kids ids beh k→r=true→P):=Zh (fun r hr ht=>IFF.out.2 ⟨k,hkk,hr▸ht⟩);have NXT:Hid (atFrom kids ids beh k=false→∀j,j<k+1→j+ids.length≤kids.length→atFrom kids ids beh j=false):=Zh (fun h0 j hj hl=>by
      by_cases e:j=k
      ·subst e;exact h0
      ·exact HF.out j (by omega) hl)
     have w3':IntKind.i64.wrap ((k:Int)+(m:Int))=((k+m:Nat):Int):=by
      simp[IntKind.wrap,IntKind.bits,IntKind.signed];omega
     clear w1';by_cases hend:k+m<n1
     ·have hkl:k+m<kids.length:=(by have:=HN1.out;omega);obtain⟨b1,o1,rfl,_,g1⟩:=cell_int (HK.out.on HB2.out) hkl;have HD:Hid ((kids.drop (k+m)).headD 0=kids[k+m]):=Zh (by rw[List.drop_eq_getElem_cons hkl];rfl);have hne:kids[k+m]≠0:=KP.out _ (List.getElem_mem hkl);generalize kids[k+m]=v1 at g1 HD hne;have j2:((k+m:Nat):Int)<(n1:Int):=(by omega);have j1:(0:Int)≤((k+m:Nat):Int):=(by omega);have j3:(((k+m:Nat):Int)==(n1:Int))=false:=beq_eq_false_iff_ne.2 (by omega);rw[HD.out] at AF;cases b with
      |false=>
       have ha:atFrom kids ids beh k=false:=(by rw[AF.out];rfl);go_wp2_with fail;go_roundw
       case rel=>exact⟨k+1,by have:=HN1.out;omega,by go_num,Zh (NXT.out ha),HB2⟩
       case measure=>simp[intOf];omega
      |true=>
       by_cases hv:v1=beh
       ·subst hv;have hz:(v1==0)=false:=beq_eq_false_iff_ne.2 hne;have ha:atFrom kids ids v1 k=true:=(by rw[AF.out];simp);go_wp2_with fail;go_ret;exact⟨true,rfl,⟨fun _=>DEC.out true ha.symm rfl,fun _=>rfl⟩,HB2.out⟩
       ·have hz:(v1==beh)=false:=beq_eq_false_iff_ne.2 hv;have ha:atFrom kids ids beh k=false:=(by rw[AF.out,decide_eq_false hv];rfl);go_wp2_with fail;go_roundw
        case rel=>exact⟨k+1,by have:=HN1.out;omega,by go_num,Zh (NXT.out ha),HB2⟩
        case measure=>simp[intOf];omega
     ·have hke:k+m=n1:=(by omega);have HD:Hid ((kids.drop (k+m)).headD 0=0):=Zh (by rw[List.drop_of_length_le (by have:=HN1.out;omega)];rfl);have j2:¬((k+m:Nat):Int)<(n1:Int):=(by omega);have j3:(((k+m:Nat):Int)==(n1:Int))=true:=(by rw[hke];exact beq_self_eq_true _);rw[HD.out] at AF;cases b with
      |false=>
       have ha:atFrom kids ids beh k=false:=(by rw[AF.out];rfl);go_wp2_with fail;go_roundw
       case rel=>exact⟨k+1,by have:=HN1.out;omega,by go_num,Zh (NXT.out ha),HB2⟩
       case measure=>simp[intOf];omega
      |true=>
       by_cases hv:(0:Int)=beh
       ·subst hv;have ha:atFrom kids ids 0 k=true:=(by rw[AF.out];simp);go_wp2_with fail;go_ret;exact⟨true,rfl,⟨fun _=>DEC.out true ha.symm rfl,fun _=>rfl⟩,HB2.out⟩
       ·have hz:((0:Int)==beh)=false:=beq_eq_false_iff_ne.2 hv;have ha:atFrom kids ids beh k=false:=(by rw[AF.out,decide_eq_false hv];rfl);go_wp2_with fail;go_roundw
        case rel=>exact⟨k+1,by have:=HN1.out;omega,by go_num,Zh (NXT.out ha),HB2⟩
        case measure=>simp[intOf];omega
  ·have i1:¬(k:Int)+(n:Int)≤(n1:Int):=(by omega);go_wp2_with fail;go_ret;refine⟨false,rfl,⟨fun e=>(by cases e),fun hP=>?_⟩,HB.out⟩;obtain⟨j,hj,ha⟩:=IFF.out.1 hP;have:=HN.out;have:=HN1.out;rw[HF.out j (by omega) hj] at ha;cases ha
end P19
namespace P19
open Go.RowKit Kd P4 P5 P7
attribute [local go_sem ↓] Go.wp_at_zero Go.wp_at_succ
structure Wk(w:World)(B g q:Nat)(y:Rx)(v:Value)(rs:List RR):Prop where
 blk:w.heap[g]? = some (.cells #[.pointer (some ⟨q,0,none⟩),v] 59 (0,0))
 base:B≤g
 doc:Rf w B q y
 own:kR.Own w B v rs
 recs:∀a∈rs,RecOk w a
def wfoot(g q:Nat)(v:Value)(k:Nat):Prop:=k=g∨k=q∨v.ownBlock=some k
section
variable{w w' w2:World}{B g q:Nat}{y y' y2:Rx}{v v' v2:Value}{rs rs' rs2:List RR}
theorem Wk.noA(h:Wk w B g q y v rs):NoA w (wfoot g q v):=by
 intro k cur fr hk hc;rcases hk with rfl|rfl|hk
 ·exact heap_ne h.blk hc (by decide) rfl
 ·exact heap_ne h.doc.blk hc (by decide) rfl
 ·obtain⟨d,hd⟩:=h.own.ty hk;exact heap_ne hd hc (by decide) rfl
theorem Wk.lt(h:Wk w B g q y v rs){k:Nat}(hk:wfoot g q v k):k<w.heap.size:=by
 rcases hk with rfl|rfl|hk
 ·exact heap_lt h.blk
 ·exact heap_lt h.doc.blk
 ·exact(h.own.lt hk).2
theorem Wk.ge(h:Wk w B g q y v rs){k:Nat}(hk:wfoot g q v k):B≤k:=by
 rcases hk with rfl|rfl|hk
 ·exact h.base
 ·exact h.doc.base
 ·exact(h.own.lt hk).1
theorem Wk.c0(h:Wk w B g q y v rs):w.cell? ⟨g,0,none⟩=some (.pointer (some ⟨q,0,none⟩)):=cell_of_row w g 0 _ _ (0,0) h.blk
theorem Wk.c1(h:Wk w B g q y v rs):w.cell? ⟨g,1,none⟩=some v:=cell_of_row w g 1 _ _ (0,0) h.blk
theorem Wk.frozen(h:Wk w B g q y v rs)(i:Nat):w.frozen? ⟨g,i,none⟩=false:=by
 have:=h.blk;simp[World.frozen?,this]
theorem Wk.ne_q(h:Wk w B g q y v rs):g≠q:=heap_ne h.blk h.doc.blk (by decide)
theorem Wk.own_ne(h:Wk w B g q y v rs){k:Nat}(hk:v.ownBlock=some k):k≠g∧k≠q:=by
 obtain⟨d,hd⟩:=h.own.ty hk;exact⟨heap_ne hd h.blk (by decide),heap_ne hd h.doc.blk (by decide)⟩
theorem Wk.rdid(h:Wk w B g q y v rs)(k:Rdid w B q y y' w'):Wk w' B g q y' v rs:=
 ⟨(k.but.block g (heap_lt h.blk) h.ne_q).trans h.blk,h.base,k.rf,h.own.but k.but (fun i hi e=>(h.own_ne hi).2 e),fun a ha=>⟨(h.recs a ha).att.but k.but (q_noA h.doc),(h.recs a ha).few⟩⟩
theorem Wk.below(h:Wk w B g q y v rs)(hb:Below w.heap.size w w'):Wk w' B g q y v rs:=h.rdid (Rdid.below_ h.doc hb)
theorem Wk.drewN(h:Wk w B g q y v rs)(n:Nat):Wk (w.drewN n) B g q y v rs:=h.below (Below_drewN Ze n)
structure Wdid(w:World)(B g q:Nat)(y:Rx)(v:Value)(y':Rx)(v':Value)(rs':List RR)(w':World):Prop where
 wk:Wk w' B g q y' v' rs'
 but:But (wfoot g q v) w w'
 ft:∀k,rfoot q y' k→rfoot q y k∨w.heap.size≤k
 vf:∀k,v'.ownBlock=some k→v.ownBlock=some k∨w.heap.size≤k
theorem Wdid.of_rdid(h:Wk w B g q y v rs)(k:Rdid w B q y y' w'):Wdid w B g q y v y' v rs w':=⟨h.rdid k,k.but.mono (fun _ _ e=> .inr (.inl e)),k.ft,fun _ e=> .inl e⟩
theorem Wdid.refl(h:Wk w B g q y v rs):Wdid w B g q y v y v rs w:=⟨h,But.refl _ _,fun _ e=> .inl e,fun _ e=> .inl e⟩
theorem Wdid.below_(h:Wk w B g q y v rs)(hb:Below w.heap.size w w'):Wdid w B g q y v y v rs w':=Wdid.of_rdid h (Rdid.below_ h.doc hb)
theorem Wdid.trans(h:Wdid w B g q y v y' v' rs' w')(k:Wdid w' B g q y' v' y2 v2 rs2 w2):Wdid w B g q y v y2 v2 rs2 w2:=by
 have hs:=h.but.size;refine⟨k.wk,h.but.trans k.but (fun i hi hf=>?_),fun i hi=>?_,fun i hi=>?_⟩
 ·rcases hf with e|e|e
  ·exact .inl e
  ·exact .inr (.inl e)
  ·rcases h.vf i e with e|e
   ·exact .inr (.inr e)
   ·omega
 ·rcases k.ft i hi with e|e
  ·exact h.ft i e
  ·exact .inr (by omega)
 ·rcases k.vf i hi with e|e
  ·exact h.vf i e
  ·exact .inr (by omega)
theorem Wdid.to_below(h:Wk w B g q y v rs)(k:Wdid w B g q y v y' v' rs' w'):Below B w w':=k.but.to_below (fun _ _ hi=>h.ge hi) (by have:=h.base;have:=heap_lt h.blk;omega)
theorem wdo_end{w6a w7:World}{v7:Value}{a:RR}(h:Wk w6a B g q y v rs)(hg:w6a.grownBy w7 v.ownBlock)(ho:kR.Own w7 B v7 (rs++[a]))(ha:RecOk w6a a)(hat:v7.ownBlock=v.ownBlock∨v7.ownBlock=some w6a.heap.size):
 Wdid w6a B g q y v y v7 (rs++[a]) (w7.setCell ⟨g,1,none⟩ v7):=by
 have b1:But (fun k=>v.ownBlock=some k) w6a w7:=But.of_grown hg (fun i hi _=>hi);have hne:v.ownBlock≠some g:=fun e=>(h.own_ne e).1 rfl
 have b7:w7.heap[g]? = some (.cells #[.pointer (some ⟨q,0,none⟩),v] 59 (0,0)):=(b1.block g (heap_lt h.blk) hne).trans h.blk;have b8:But (wfoot g q v) w6a (w7.setCell ⟨g,1,none⟩ v7):=But.setCell (b1.mono fun _ _ hi=> .inr (.inr hi)) (fun _=> .inl rfl) _;have b9:But (fun k=>k=g∨v.ownBlock=some k) w6a (w7.setCell ⟨g,1,none⟩ v7):=But.setCell (b1.mono fun _ _ hi=> .inr hi) (fun _=> .inl rfl) _;refine⟨⟨heap_set b7 1 v7,h.base,h.doc.but b9 (fun k hk e=>?_) (fun k c f hk=>h.noA k c f (hk.elim .inl (fun e=> .inr (.inr e)))),ho.keep fun i hi=>Below.heap_setCell _ _ _ _ ?_,fun b hb=>?_⟩,b8,fun _ e=> .inl e,fun i hi=>?_⟩
 ·obtain⟨d,t,h1,h2⟩:=Rf.ty h.doc hk;rcases e with rfl|e
  ·rw[h.blk] at h1;injection h1 with h1;injection h1 with _ e _;rcases h2 with h2|h2|h2<;>exact absurd (e.trans h2) (by decide)
  ·obtain⟨d',h3⟩:=h.own.ty e;rw[h1] at h3;injection h3 with h3;injection h3 with _ e _;rcases h2 with h2|h2|h2<;>exact absurd (h2.symm.trans e) (by decide)
 ·rintro rfl;obtain⟨d,hd⟩:=ho.ty hi;exact heap_ne hd b7 (by decide) rfl
 ·rcases List.mem_append.1 hb with hb|hb
  ·exact⟨(h.recs b hb).att.but b8 h.noA,(h.recs b hb).few⟩
  ·rw[List.mem_singleton] at hb;subst hb;exact⟨ha.att.but b8 h.noA,ha.few⟩
 ·rcases hat with e|e
  ·rw[e] at hi;exact .inl hi
  ·rw[e] at hi;injection hi with hi;exact .inr (by omega)
end
def WDos(w:World)(B g q:Nat)(y:Rx)(v:Value)(rs:List RR)(r:Rc)(e:Ending)(w':World):Prop:=
 e = .returned (.tuple #[])∧∃y' v' rs',Wdid w B g q y v y' v' rs' w'∧(y'.d,rs'.map (·.r))=doP (y.d,rs.map (·.r)) r∧rs'.length≤rs.length+1
variable{B g q:Nat}{y:Rx}{v:Value}{rs:List RR}
theorem wdo_any(r:Rc)(A:Option Addr)(n c:Nat)(w:World)(hwf:WF y.d)(hn:y.n≤100000)(h1:r.tag.size≤maxLen)(h2:r.txt.size≤maxLen)(h3:r.key.size≤maxLen)(hat:AOk w ⟨A,n,c⟩ r.attrs)(hwa:P3.Wf r.attrs)(few:n≤1000000)(hl:rs.length≤1000000)(h:Wk w B g q y v rs):
 Calls Tryz.prog 44 #[.pointer (some ⟨g,0,none⟩),.agg #[.int .i64 r.op,.int .i64 r.id,.int .i64 r.par,.int .i64 r.bef,.string r.tag,.string r.txt,.string r.key,.slice A n c]] w (WDos w B g q y v rs r):=by
 have B1:Hid (Below w.heap.size w (w.alloc (.cells #[.int .i64 r.op,.int .i64 r.id,.int .i64 r.par,.int .i64 r.bef,.string r.tag,.string r.txt,.string r.key,.slice A n c] 71))):=Zh (Zb _ _);have N1:Hid (RcB (w.alloc (.cells #[.int .i64 r.op,.int .i64 r.id,.int .i64 r.par,.int .i64 r.bef,.string r.tag,.string r.txt,.string r.key,.slice A n c] 71)) w.heap.size r A n c):=Zh (RcB.new w r A n c);have H:=Zh h;have HAT:=Zh hat;have HFEW:=Zh few;have HWF:=Zh hwf;have HSZ:Hid (r.tag.size≤maxLen∧r.txt.size≤maxLen∧r.key.size≤maxLen):=Zh ⟨h1,h2,h3⟩;have HWA:=Zh hwa;clear h hat few hwf h1 h2 h3 hwa;go_enter Tryz.func44,Tryz.ntmps44;go_upto_region 1 with fail;generalize w.alloc (.cells #[.int .i64 r.op,.int .i64 r.id,.int .i64 r.par,.int .i64 r.bef,.string r.tag,.string r.txt,.string r.key,.slice A n c] 71)=W at B1 N1⊢;have H1:=Zh (H.out.below B1.out);have HA1:=Zh (HAT.out.below B1.out);have d0:=H1.out.c0;have b0:=N1.out.c0;have b1:=N1.out.c1;have b2:=N1.out.c2;have b3:=N1.out.c3;have b4:=N1.out.c4;have b5:=N1.out.c5;have b6:=N1.out.c6;have b7:=N1.out.c7;obtain⟨cd,hcd⟩:∃cd,(applyD y.d r).1=cd:=⟨_,rfl⟩;have HCD:=Zh hcd;have CA:Hid (∀j,Calls Tryz.prog 29 #[.pointer (some ⟨q,0,none⟩),.agg #[.int .i64 r.op,.int .i64 r.id,.int .i64 r.par,.int .i64 r.bef,.string r.tag,.string r.txt,.string r.key,.slice A n c]] (W.drewN j) (RMade (W.drewN j) B q y cd (applyD y.d r).2)):=Zh (fun j=>by
  have:=rapply_any r A n c (W.drewN j) HWF.out hn HSZ.out.1 HSZ.out.2.1 HSZ.out.2.2 ⟨HA1.out.len,HA1.out.cap,HA1.out.nil,HFEW.out,HWA.out,HA1.out.holds⟩ (H1.out.doc.drewN j);rw[hcd] at this;exact this)
 clear hcd;go_wp2_with fail;go_region_held3 (fun w'=>w'.cell? ⟨g,0,none⟩=some (.pointer (some ⟨q,0,none⟩))∧w'.cell? ⟨w.heap.size,0,none⟩=some (.int .i64 r.op)∧w'.cell? ⟨w.heap.size,1,none⟩=some (.int .i64 r.id)∧w'.cell? ⟨w.heap.size,2,none⟩=some (.int .i64 r.par)∧w'.cell? ⟨w.heap.size,3,none⟩=some (.int .i64 r.bef)∧w'.cell? ⟨w.heap.size,4,none⟩=some (.string r.tag)∧w'.cell? ⟨w.heap.size,5,none⟩=some (.string r.txt)∧w'.cell? ⟨w.heap.size,6,none⟩=some (.string r.key)∧w'.cell? ⟨w.heap.size,7,none⟩=some (.slice A n c)) (first|go_keep|exact K9) ((first
  |(go_at_call 29;refine(CA.out _).mono ?_;rintro e w5 ⟨rfl,y5,d5,hy5⟩;have WK5:Hid (Wk w5 B g q y5 v rs):=Zh ((H1.out.drewN _).rdid d5);have N5:Hid (RcB w5 w.heap.size r A n c):=Zh ((d5.but.block _ N1.out.lt (by rintro e;subst e;exact heap_ne H1.out.doc.blk N1.out (by decide) rfl)).trans N1.out);have K9:=And.intro WK5.out.c0 (And.intro N5.out.c0 (And.intro N5.out.c1 (And.intro N5.out.c2 (And.intro N5.out.c3 (And.intro N5.out.c4 (And.intro N5.out.c5 (And.intro N5.out.c6 N5.out.c7)))))));have D5:Hid (Rdid W B q y y5 w5):=Zh ((Rdid.below_ H1.out.doc (Below_drewN Ze _)).trans d5);have HY5:=Zh hy5;clear d5 hy5)
  |fail))
 have K5:=WK5;have LB5:Hid (Wdid w B g q y v y5 v rs w5):=Zh ((Wdid.below_ H.out B1.out).trans (Wdid.of_rdid H1.out D5.out));have A5:Hid (AOk w5 ⟨A,n,c⟩ r.attrs):=Zh (HA1.out.but D5.out.but (q_noA H1.out.doc));clear d0 b0 b1 b2 b3 b4 b5 b6 b7 WK5 CA;by_cases hc0:cd=0
 ·have HD0:Hid ((y5.d,(rs.map (·.r))++[r])=doP (y.d,rs.map (·.r)) r):=Zh (by unfold doP;simp only;rw[HY5.out,HCD.out,hc0];rfl);subst hc0;obtain⟨A2,n2,c2,hvd,hn2,hn2c,hc2m,hz2,hh2⟩:=own_r K5.out.own;have HVD:=Zh hvd;have HN2:=Zh hn2;have d1:=K5.out.c1;rw[hvd] at d1;have f1:=K5.out.frozen 1;have hg5:g<w5.heap.size:=heap_lt K5.out.blk;have hs5:w.heap.size<w5.heap.size:=N5.out.lt;have b0:=N5.out.c0;have b1:=N5.out.c1;have b2:=N5.out.c2;have b3:=N5.out.c3;have b4:=N5.out.c4;have b5:=N5.out.c5;have b6:=N5.out.c6;have b7:=N5.out.c7;have HNE:Hid (∀k,(Value.slice A2 n2 c2).ownBlock=some k→k≠g∧k<w.heap.size):=Zh (by
   rw[←hvd];intro k hk;exact⟨(H.out.own_ne hk).1,H.out.lt (.inr (.inr hk))⟩)
  clear hvd hn2 hh2 hz2;go_upto_region 3 with fail;refine Tl.region_last (S:=(fun w'=>w'.cell? ⟨g,1,none⟩=some (.slice A2 n2 c2)∧w'.cell? ⟨w.heap.size,0,none⟩=some (.int .i64 r.op)∧w'.cell? ⟨w.heap.size,1,none⟩=some (.int .i64 r.id)∧w'.cell? ⟨w.heap.size,2,none⟩=some (.int .i64 r.par)∧w'.cell? ⟨w.heap.size,3,none⟩=some (.int .i64 r.bef)∧w'.cell? ⟨w.heap.size,4,none⟩=some (.string r.tag)∧w'.cell? ⟨w.heap.size,5,none⟩=some (.string r.txt)∧w'.cell? ⟨w.heap.size,6,none⟩=some (.string r.key)∧w'.cell? ⟨w.heap.size,7,none⟩=some (.slice A n c))) (by kernel_rfl) 10 _ rfl rfl rfl (by kernel_rfl) (by go_keep) (fun hHeld=>?_);simp only[List.setIfInBounds_toArray,List.set_cons_zero,List.set_cons_succ,Tl.idle];refine Zn 0 ?_;refine Zn 1 ?_;refine Zn 2 ?_;refine Zn 3 ?_;refine Zn 4 ?_;refine Zn 5 ?_;refine Zr [6] ?_;refine AllReadyH.cons rfl (fun K hK=>?_) ?_
  ·go_simp;refine hK.out _ _ ?_ (fun hHeld=>?_)
   ·go_keep
   clear hK K;(try simp only[Zs]);refine Zr [7] ?_;refine AllReadyH.cons rfl (fun K hK=>?_) ?_
   ·refine kR.step_app rfl (.tmp 17) (.tmp 19) rfl (v:=.slice A2 n2 c2) (l:=rs) (m:=[⟨r,⟨A,n,c⟩⟩]) (B:=B) (A:=some ⟨w5.heap.size,0,none⟩) (n:=1) (c:=1) rfl (by have:=K5.out.own;rw[HVD.out] at this;first|exact this.alloc _|exact(this.drew).alloc _) rfl rfl (fun e=>by cases e) (Kind.Holds.lit (by first|exact heap_alloc_new _ _|exact heap_drew (heap_top (by simp))) rfl) (by simp;omega) (by have:=K5.out.base;have:=heap_lt K5.out.blk;simp;omega) ?_;intro v7 w7 hown7 hgrow7 hat7;obtain⟨A7,n7,c7,rfl,_,_,_,_,_⟩:=hown7.slice;have O7:=Zh hown7;have G7:=Zh hgrow7;have AT7:=Zh hat7;have e7:w7.cell? ⟨g,1,none⟩=some (.slice A2 n2 c2):=(cell_of_row w7 g 1 _ _ (0,0) ((hgrow7.block g (by have:=heap_lt K5.out.blk;simp;omega) (fun e=>((HNE.out g e.symm).1 rfl).elim)).trans (by first|exact heap_up K5.out.blk|exact heap_drew (heap_up K5.out.blk)))).trans (by rw[HVD.out];rfl);have N7:Hid (RcB w7 w.heap.size r A n c):=Zh ((hgrow7.block _ (by have:=N5.out.lt;simp;omega) (fun e=>by have:=(HNE.out _ e.symm).2;omega)).trans (by first|exact heap_up N5.out|exact heap_drew (heap_up N5.out)));have f7:w7.frozen? ⟨g,1,none⟩=false:=(by have hb:=(hgrow7.block g (by have:=heap_lt K5.out.blk;simp;omega) (fun e=>((HNE.out g e.symm).1 rfl).elim)).trans (show _=_ by first|exact heap_up K5.out.blk|exact heap_drew (heap_up K5.out.blk));simp[World.frozen?,hb]);clear hown7 hgrow7 hat7;refine hK.out _ _ ?_ (fun hHeld=>?_)
    ·exact⟨e7,N7.out.c0,N7.out.c1,N7.out.c2,N7.out.c3,N7.out.c4,N7.out.c5,N7.out.c6,N7.out.c7⟩
    clear hK K;(try simp only[Zs]);refine Zn 8 ?_;refine Zn 9 ?_;refine Zn 10 ?_;refine wpAnyH_done (by kernel_rfl) ?_ _;intro K hK;go_simp;refine hK _ _ ?_;clear hK K;have b5a:Below w5.heap.size w5 (w5.alloc (.cells #[.int .i64 r.op,.int .i64 r.id,.int .i64 r.par,.int .i64 r.bef,.string r.tag,.string r.txt,.string r.key,.slice A n c] 71)).drew:=(Zb _ _).drew;have k5a:=K5.out.below b5a;have g7:World.grownBy (w5.alloc (.cells #[.int .i64 r.op,.int .i64 r.id,.int .i64 r.par,.int .i64 r.bef,.string r.tag,.string r.txt,.string r.key,.slice A n c] 71)).drew w7 v.ownBlock:=(by rw[HVD.out];exact G7.out);have a5a:AOk (w5.alloc (.cells #[.int .i64 r.op,.int .i64 r.id,.int .i64 r.par,.int .i64 r.bef,.string r.tag,.string r.txt,.string r.key,.slice A n c] 71)).drew ⟨A,n,c⟩ r.attrs:=A5.out.below b5a;have k8:=wdo_end (a:=⟨r,⟨A,n,c⟩⟩) k5a g7 O7.out ⟨a5a,by have:=HFEW.out;show n≤_;omega⟩ (by rw[HVD.out];simpa using AT7.out);generalize w7.setCell ⟨g,1,none⟩ (.slice A7 n7 c7)=W8 at k8⊢;have W8D:Hid (Wdid w B g q y v y5 (.slice A7 n7 c7) (rs++[⟨r,⟨A,n,c⟩⟩]) W8):=Zh ((LB5.out.trans (Wdid.below_ K5.out b5a)).trans k8);clear k8 e7 f7 N7 g7 a5a k5a b5a O7 G7 AT7;go_wp2_with fail
    go_end0
    exact⟨rfl,y5,_,_,W8D.out,by rw[List.map_append];exact HD0.out,by simp⟩
   exact AllReadyH.nil
  exact AllReadyH.nil
 ·have HD0:Hid ((y5.d,rs.map (·.r))=doP (y.d,rs.map (·.r)) r):=Zh (by unfold doP;simp only;rw[HY5.out,HCD.out,if_neg hc0]);have hq:(cd==0)=false:=(by simpa using hc0);clear hc0;go_wp2_with fail
  go_end0
  exact⟨rfl,y5,v,rs,LB5.out,HD0.out,by omega⟩
variable{w w':World}{B g q C:Nat}{y y':Rx}{v v' u:Value}{rs rs':List RR}{l:List Int}
theorem Wk.ints(h:Wk w B g q y v rs)(ho:kI.Own w C u l){k:Nat}(hk:u.ownBlock=some k):¬wfoot g q v k:=by
 obtain⟨d,hd⟩:=ho.ty hk;rintro(rfl|rfl|e)
 ·exact heap_ne hd h.blk (by decide) rfl
 ·exact heap_ne hd h.doc.blk (by decide) rfl
 ·obtain⟨d',hd'⟩:=h.own.ty e;exact heap_ne hd hd' (by decide) rfl
theorem Wdid.ints(h:Wk w B g q y v rs)(k:Wdid w B g q y v y' v' rs' w')(ho:kI.Own w C u l):kI.Own w' C u l:=ho.but k.but (fun _ hi=>h.ints ho hi)
theorem own_all'{P:Program}{α:Type}{K:Kind P α}{w:World}{B n c:Nat}{A:Option Addr}{l:List α}(h:K.Own w B (.slice A n c) l):l.length=n∧n≤c∧c≤maxLen∧(A=none→c=0)∧K.Holds w w.heap.size A l:=by
 obtain⟨A',n',c',hv,e1,e2,e3,e4,e5⟩:=h.slice;injection hv with h1 h2 h3;subst h1;subst h2;subst h3;exact⟨e1,e2,e3,e4,e5⟩
theorem next_any(left:List Int)(A:Option Addr)(n c:Nat)(beh:Int)(w:World)(H:kI.Holds w w.heap.size A left)(hn:left.length=n):Calls Tryz.prog 45 #[.slice A n c,.int .i64 beh] w fun e w'=>e = .returned (.int .i64 (nextP left beh))∧w=w':=by
 cases left with
 |nil=>
  obtain rfl:n=0:=hn.symm;clear H hn;go_enter Tryz.func45,Tryz.ntmps45;go_wp2_with fail;go_ret;exact⟨rfl,rfl⟩
 |cons i r=>
  obtain⟨b,o,rfl,hb,g0⟩:=cell_int H (k:=0) (by simp);have hn0:0<n:=(by rw[←hn];simp);have i0:(0:Int)<(n:Int):=(by omega);simp only[Nat.add_zero,List.getElem_cons_zero] at g0;clear H hn;go_enter Tryz.func45,Tryz.ntmps45;go_wp2_with fail;go_ret;exact⟨rfl,rfl⟩
def OldV(w:World)(m:Nd)(e:Ending)(w':World):Prop:=e = .returned (.agg #[.string m.tag,.string m.key])∧Below w.heap.size w w'
theorem old_any(i:Int)(x:Nd)(w:World)(hwf:WF y.d)(hf:find y.l i=some x)(h:Wk w B g q y v rs):Calls Tryz.prog 41 #[.pointer (some ⟨g,0,none⟩),.int .i64 i] w (OldV w x):=by
 have HA:Hid (Asc y.l):=Zh hwf.asc;have hl:y.rs.length≤1000:=(by have:=hwf.len200;rw[show y.d.l=y.l from rfl,rl_len] at this;omega);obtain⟨k,hk,hy,hx⟩:=rplace HA.out (find_has hf);obtain rfl:y.rs[k].nd=x:=by rw[hf] at hx;injection hx with hx;exact hx.symm
 have BZ:Hid (Below w.heap.size w (w.alloc (.cells #[.string ⟨#[]⟩,.string ⟨#[]⟩] 98))):=Zh (Zb _ _);have H:=Zh (h.below BZ.out);have ZB:Hid ((w.alloc (.cells #[.string ⟨#[]⟩,.string ⟨#[]⟩] 98)).heap[w.heap.size]? = some (.cells #[.string ⟨#[]⟩,.string ⟨#[]⟩] 98 (0,0))):=Zh (heap_alloc_new w _);clear h hf hx hwf;go_enter Tryz.func41,Tryz.ntmps41;go_upto_region 1 with fail;generalize w.alloc (.cells #[.string ⟨#[]⟩,.string ⟨#[]⟩] 98)=W at BZ H ZB⊢;obtain⟨b,o,cl,A,n,ca,A2,n2,c2,hv,hcl,hb,d0,L,hva,hvk⟩:=H.out.doc.lies hk;have HY:=Zh hy;obtain⟨nl,hnl⟩:∃nl,y.rs.length=nl:=⟨_,rfl⟩;have hkn:k<nl:=(by omega);have hl2:nl≤1000:=(by omega);rw[hnl] at d0 hcl;have p0:=H.out.c0;have AT:Hid (∀wz,Below W.heap.size W wz→Calls Tryz.prog 14 #[.pointer (some ⟨q,0,none⟩),.int .i64 i] wz fun e w'=>e = .returned (.int .i64 k)∧wz=w'):=Zh (fun wz hz=>at_yes i wz HA.out hl hk hy (H.out.doc.below hz));obtain⟨m,hm⟩:∃m,y.rs[k].nd=m:=⟨_,rfl⟩;have EM:=Zh hm;rw[hm] at L;clear hm;have l0:=L.c0;have l1:=L.c1;have l2:=L.c2;have l3:=L.c3;have l4:=L.c4;have l5:=L.c5;have l6:=L.c6;have l7:=L.c7;clear hv hva hvk hnl L hy;go_cut [5] (fun s5 wx=>s5 = .pointer (some ⟨W.heap.size,0,none⟩)∧Hid (Below W.heap.size W wx)∧Hid (NdB wx W.heap.size m A n ca A2 n2 c2))
 case first=>
  go_region_held3 (fun w'=>w'.cell? ⟨q,0,none⟩=some (.slice (some ⟨b,o,none⟩) nl cl)∧w'.cell? ⟨b,o+k*8,none⟩=some (.int .i64 m.id)∧w'.cell? ⟨b,o+k*8+1,none⟩=some (.int .i64 m.par)∧w'.cell? ⟨b,o+k*8+2,none⟩=some (.string m.tag)∧w'.cell? ⟨b,o+k*8+3,none⟩=some (.string m.txt)∧w'.cell? ⟨b,o+k*8+4,none⟩=some (.string m.key)∧w'.cell? ⟨b,o+k*8+5,none⟩=some (.slice A n ca)∧w'.cell? ⟨b,o+k*8+6,none⟩=some (.slice A2 n2 c2)∧w'.cell? ⟨b,o+k*8+7,none⟩=some (.int .i64 m.note)∧w'.cell? ⟨g,0,none⟩=some (.pointer (some ⟨q,0,none⟩))) (go_keep) ((first
  |(go_at_call 14;refine(AT.out _ (by first|exact Below_drewN Ze _|exact Below_drewN (Zb _ _) _)).mono ?_;rintro e w3 ⟨rfl,rfl⟩)
  |(go_at_call 14;refine(AT.out _ (by first|exact Below_drewN Ze _|exact Below_drewN (Zb _ _) _)).mono ?_;rintro e w3 ⟨rfl,rfl⟩)
  |fail))
  all_goals
   go_wp2_with fail;go_meet;exact⟨rfl,Zh ((Zb _ _).drew),Zh (by exact NdB.new W m A n ca A2 n2 c2)⟩
 case rest=>
  obtain⟨rfl,B1,N1⟩:=hcut;obtain⟨w1,rfl⟩:∃w1,w1=wc:=⟨_,rfl⟩;clear d0 l0 l1 l2 l3 l4 l5 l6 l7 hcl hb p0;have e2:=N1.out.c2;have e4:=N1.out.c4;have Z1:Hid (w1.heap[w.heap.size]? = some (.cells #[.string ⟨#[]⟩,.string ⟨#[]⟩] 98 (0,0))):=Zh ((B1.out.block _ (heap_lt ZB.out)).trans ZB.out);have z0:w1.cell? ⟨w.heap.size,0,none⟩=some (.string ⟨#[]⟩):=cell_of_row w1 _ 0 _ _ (0,0) Z1.out;have z1:w1.cell? ⟨w.heap.size,1,none⟩=some (.string ⟨#[]⟩):=cell_of_row w1 _ 1 _ _ (0,0) Z1.out;have zf:∀j,w1.frozen? ⟨w.heap.size,j,none⟩=false:=fun j=>by have hb:=Z1.out;simp[World.frozen?,hb]
  have hzl:w.heap.size<w1.heap.size:=heap_lt Z1.out;have BB:=Zh (BZ.out.trans (B1.out.mono BZ.out.size));go_wp2_with fail;refine bodyPost_ret (v:=.agg #[.string m.tag,.string m.key]) (by simp[results,Tryz.results41,go_sem,z0,z1,hzl]) rfl ⟨by rw[EM.out],?_⟩;exact(BB.out.setCell (p:=⟨w.heap.size,0,none⟩) (Zl) _).setCell (p:=⟨w.heap.size,1,none⟩) (Zl) _
def MoveV(w:World)(B g q:Nat)(y:Rx)(v:Value)(rs:List RR)(p:Sg×List Int)(e:Ending)(w':World):Prop:=
 ∃A n c y' v' rs',e = .returned (.slice A n c)∧kI.Own w' w.heap.size (.slice A n c) p.2∧Wdid w B g q y v y' v' rs' w'∧(y'.d,rs'.map (·.r))=p.1∧rs'.length≤rs.length+1000
theorem wf_none:P3.Wf []:=fun _ h=>absurd h (by simp)
theorem argNone(w:World):AOk w ⟨none,0,0⟩ []:=AOk.nil_ w
theorem put_c(i p b:Int)(w:World)(hwf:WF y.d)(hn:y.n≤100000)(hl:rs.length≤1000000)(h:Wk w B g q y v rs):
 Calls Tryz.prog 44 #[.pointer (some ⟨g,0,none⟩),.agg #[.int .i64 2,.int .i64 i,.int .i64 p,.int .i64 b,.string ⟨#[]⟩,.string ⟨#[]⟩,.string ⟨#[]⟩,.slice none 0 0]] w (WDos w B g q y v rs (recPut i p b)):=
 wdo_any (recPut i p b) none 0 0 w hwf hn (by show(⟨#[]⟩:ByteArray).size≤_;unfold maxLen;decide) (by show(⟨#[]⟩:ByteArray).size≤_;unfold maxLen;decide) (by show(⟨#[]⟩:ByteArray).size≤_;unfold maxLen;decide) (argNone w) wf_none (by omega) hl h
def PuRel(w0:World)(B g q:Nat)(y:Rx)(v:Value)(rs:List RR)(par b:Int)(left:List Int)(k:Nat)(u8:Value)(l8:List Int)(s15:Value)(wr:World):Prop:=
 ∃(j:Nat) (y':Rx) (v':Value) (rs':List RR),j≤k∧s15 = .int .i64 j∧Hid (Wdid w0 B g q y v y' v' rs' wr)∧Hid ((y'.d,rs'.map (·.r))=putsP par b (left.take j) (y.d,rs.map (·.r)))∧rs'.length≤rs.length+j∧Hid (kI.Own wr w0.heap.size u8 l8)
theorem move_any(par:Int)(left:List Int)(A:Option Addr)(n c:Nat)(beh id:Int)(kk:Nat)(w:World)(hk:kk<left.length)(hid:left[kk]=id)(hne:∀j (h:j<left.length),j<kk→left[j]≠id)
 (HO:kI.Own w C (.slice A n c) left) (hn:n≤900) (hwf:WF y.d) (hyn:y.n≤100000) (hl:rs.length≤900000) (h:Wk w B g q y v rs):
 Calls Tryz.prog 43 #[.pointer (some ⟨g,0,none⟩),.int .i64 par,.slice A n c,.int .i64 beh,.int .i64 id] w (MoveV w B g q y v rs (moveP (y.d,rs.map (·.r)) par left beh id kk)):=by
 have OA:=Zh (own_all' HO);have OW:=Zh HO;have H:=Zh h;have HWF:=Zh hwf;have HI:=Zh hid;have HNE:=Zh hne;have LL:Hid (left.length=n):=Zh OA.out.1;have hkn:kk<n:=(by rw[←LL.out];exact hk);have hnc:n≤c:=OA.out.2.1;have hcm:c≤9223372036854775807:=(by have:=OA.out.2.2.1;unfold maxLen at this;omega);obtain⟨b,o,rfl,hb,hdead⟩:=cell_int OA.out.2.2.2.2 hk;have GI:Hid (∀wz,kI.Own wz C (.slice (some ⟨b,o,none⟩) n c) left→∀j (hj:j<left.length),wz.cell? ⟨b,o+j,none⟩=some (.int .i64 left[j])):=Zh (fun wz hz j hj=>by
  obtain⟨b',o',hA,_,gg⟩:=cell_int (own_all' hz).2.2.2.2 hj;injection hA with hA;injection hA with e1 e2;subst e1;subst e2;exact gg)
 clear HO h hwf hid hne hb hdead;go_enter Tryz.func43,Tryz.ntmps43;go_wp2_with fail;go_loop [11] (fun s=>∃j:Nat,j≤kk∧s = .int .i64 j) (fun s=>n-(intOf s).toNat)
 case atStart=>exact⟨0,by omega,rfl⟩
 case round=>
  obtain⟨j,hj,rfl⟩:=hrel;by_cases hjk:j<kk
  ·have hjl:j<left.length:=(by rw[LL.out];omega);have g0:=GI.out w OW.out j hjl;have hq:(left[j] != id)=true:=(by simpa using HNE.out j hjl hjk);have i1:(0:Int)≤(j:Int):=(by omega);have i2:(j:Int)<(n:Int):=(by omega);generalize left[j]=lj at g0 hq;go_wp2_with fail;go_round
   case rel=>exact⟨j+1,by omega,by go_num⟩
   case measure=>simp[intOf];omega
  ·obtain rfl:j=kk:=by omega
   have hjl:j<left.length:=(by rw[LL.out];exact hkn);have g0:=GI.out w OW.out j hjl;have hq:(left[j] != id)=false:=(by rw[HI.out];simp);generalize left[j]=lj at g0 hq;have i1:(0:Int)≤(j:Int):=(by omega);have i2:(j:Int)<(n:Int):=(by omega);have HT:Hid (kI.Holds w w.heap.size (some ⟨b,o,none⟩) (left.take j)):=Zh (OA.out.2.2.2.2.take j);have HR:Hid (kI.Holds w w.heap.size (some ⟨b,o+(j+1),none⟩) (left.drop (j+1))):=Zh (by
    have:=OA.out.2.2.2.2.drop (j+1);simpa[kI] using this)
   have LT:Hid ((left.take j).length=j):=Zh (by rw[List.length_take,LL.out];omega);have LR:Hid ((left.drop (j+1)).length=n-(j+1)):=Zh (by rw[List.length_drop,LL.out]);have i3:(j:Int)≤(c:Int):=(by omega);have i5:(n:Int)≤(c:Int):=(by omega);have i6:IntKind.i64.wrap ((j:Int)+1)=((j+1:Nat):Int):=by
    simp[IntKind.wrap,IntKind.bits,IntKind.signed];omega
   have i7:((j+1:Nat):Int)≤(n:Int):=(by omega);have i8:(0:Int)≤((j+1:Nat):Int):=(by omega);have MV:Hid (moveP (y.d,rs.map (·.r)) par left beh id j=(if j=0 then(y.d,rs.map (·.r)) else if inside y.l y.foc id=false then doP (y.d,rs.map (·.r)) (recPut id par (nextP left 0)) else putsP par (nextP (left.drop (j+1)) beh) (left.take j) (y.d,rs.map (·.r)),left.take j++left.drop (j+1))):=Zh rfl;obtain⟨pe,hpe⟩:∃pe,j+1=pe:=⟨_,rfl⟩;rw[hpe] at HR LR i6 i7 i8 MV;have BZ:Hid (Below w.heap.size w (w.alloc (.cells #[] 3)).drew):=Zh (Zb _ _).drew;have OZ:Hid (kI.Own (w.alloc (.cells #[] 3)).drew w.heap.size (.slice (some ⟨w.heap.size,0,none⟩) 0 0) []):=Zh (Kind.Own.made kI w _ (Zl));have N0:Hid (nextP left 0=left[0]'(by omega)):=Zh (by cases left with|nil=>simp at hjl|cons a r=>rfl);by_cases hcap:c=pe
   ·subst hcap;obtain rfl:n=c:=by omega
    have HR2:Hid (kI.Holds w w.heap.size (some ⟨b,o,none⟩) (left.drop n)):=Zh (by rw[List.drop_of_length_le (by rw[LL.out];exact Zl)];exact Kind.Holds.nil _ _ _);have LR2:Hid ((left.drop n).length=0):=Zh (by rw[List.length_drop,LL.out];omega);clear HR LR;go_upto_region 4 with fail;go_region_held3 (fun _=>True) (trivial) ((first
     |(refine kI.step_app rfl (.tmp 24) (.tmp 27) rfl (v:=.slice (some ⟨w.heap.size,0,Option.none⟩) 0 0) (l:=[]) (m:=left.take j) (B:=w.heap.size) rfl OZ.out rfl LT.out (fun e=>by cases e) (HT.out.on BZ.out) (by simp;omega) BZ.out.size ?_;intro v7 w7 hown7 hgrow7 hat7;obtain⟨A7,n7,c7,rfl,_,_,_,_,_⟩:=hown7.slice;have O7:=Zh hown7;have B7:Hid (Below w.heap.size w w7):=Zh (BZ.out.grown hgrow7 BZ.out.size (fun k hk=>by simp[Value.ownBlock] at hk;omega));have hz7:=B7.out.size;clear hown7 hgrow7 hat7)
     |(refine kI.step_app rfl (.tmp 28) (.tmp 32) rfl (v:=.slice A7 n7 c7) (l:=[]++left.take j) (m:=left.drop n) (B:=w.heap.size) rfl O7.out rfl LR2.out (fun e=>by cases e) (HR2.out.on B7.out) (by have:=LT.out;have:=LR2.out;simp;omega) hz7 ?_;intro v8 w8 hown8 hgrow8 hat8;obtain⟨A8,n8,c8,rfl,_,_,_,_,_⟩:=hown8.slice;have O8:Hid (kI.Own w8 w.heap.size (.slice A8 n8 c8) (left.take j++left.drop n)):=Zh hown8;have B8:Hid (Below w.heap.size w w8):=Zh (Below.grown (a:=w) B7.out hgrow8 hz7 (fun k hk=>(O7.out.lt hk).1));clear hown8 hgrow8 hat8)
     |fail))
    all_goals
     have K8:=Zh (H.out.below B8.out);have W8:=Zh (Wdid.below_ H.out B8.out);have OW8:=Zh (OW.out.below B8.out (Zl));clear O7 B7 hz7 g0;by_cases hj0:j=0
     ·subst hj0;have HM:Hid (moveP (y.d,rs.map (·.r)) par left beh id 0=((y.d,rs.map (·.r)),left.take 0++left.drop n)):=Zh (by rw[MV.out,if_pos rfl]);have hq0:(((0:Nat):Int)==0)=true:=(by simp);go_wp2_with fail;go_ret;exact⟨A8,n8,c8,y,v,rs,rfl,by rw[HM.out];exact O8.out,W8.out,by rw[HM.out],by omega⟩
     ·have hq0:((j:Int)==0)=false:=(by simp;omega);have p0:=K8.out.c0;have p3:=K8.out.doc.c3;have CI:Hid (∀jj,Calls Tryz.prog 85 #[.pointer (some ⟨q,0,none⟩),.int .i64 y.foc,.int .i64 id] (w8.drewN jj) fun e w'=>e = .returned (.bool (inside y.l y.foc id))∧Below w8.heap.size w8 w'):=Zh (fun jj=>(rinside_any y.foc id (w8.drewN jj) HWF.out.asc (by have:=HWF.out.len200;rw[show y.d.l=y.l from rfl,rl_len] at this;omega) (K8.out.doc.drewN jj)).mono (by
       rintro e w' ⟨rfl,hb⟩;exact⟨rfl,(Below_drewN Ze jj).trans hb⟩))
      obtain⟨bi,hbi⟩:∃bi,inside y.l y.foc id=bi:=⟨_,rfl⟩;rw[hbi] at CI;have HBI:=Zh hbi;clear hbi;go_upto_region 7 with fail;go_region_held3 (fun w'=>w'.cell? ⟨g,0,none⟩=some (.pointer (some ⟨q,0,none⟩))∧w'.cell? ⟨q,3,none⟩=some (.int .i64 y.foc)) (first|go_keep|exact K9) ((first
       |(go_at_call 85;refine(CI.out _).mono ?_;rintro e w9 ⟨rfl,b9⟩;have WK9:=Zh (K8.out.below b9);have K9:=And.intro WK9.out.c0 WK9.out.doc.c3;have B9:=Zh b9;clear b9)
       |fail))
      all_goals
       have W9:=Zh (W8.out.trans (Wdid.below_ K8.out B9.out));have OW9:=Zh (OW8.out.below B9.out (Zl));have O9:=Zh (O8.out.below B9.out (Zl));clear CI p0 p3;cases bi with
       |false=>
        have HM:Hid (moveP (y.d,rs.map (·.r)) par left beh id j=(doP (y.d,rs.map (·.r)) (recPut id par (nextP left 0)),left.take j++left.drop n)):=Zh (by rw[MV.out,if_neg hj0,if_pos HBI.out]);have g0:=GI.out w9 OW9.out 0 (by omega);rw[←N0.out,Nat.add_zero] at g0;have i0:(0:Int)<(n:Int):=(by omega);have CP:=Zh (put_c id par (nextP left 0) w9 HWF.out hyn (by omega) WK9.out);generalize nextP left 0=n0 at g0 CP HM;go_wp2_with fail;refine CP.out.mono ?_;rintro e w10 ⟨rfl,y5,v5,rs5,d5,hd5,hl5⟩;have W10:=Zh (W9.out.trans d5);have O10:=Zh (Wdid.ints WK9.out d5 O9.out);have HD5:=Zh hd5;clear d5 hd5 CP g0;go_wp2_with fail;go_ret;exact⟨A8,n8,c8,y5,v5,rs5,rfl,by rw[HM.out];exact O10.out,W10.out,by rw[HM.out];exact HD5.out,by omega⟩
       |true=>
        have HM:Hid (moveP (y.d,rs.map (·.r)) par left beh id j=(putsP par (nextP (left.drop n) beh) (left.take j) (y.d,rs.map (·.r)),left.take j++left.drop n)):=Zh (by rw[MV.out,if_neg hj0,if_neg (by rw[HBI.out];decide)]);have HB9:=Zh (B8.out.trans (B9.out.mono B8.out.size));have CN:=Zh (next_any (left.drop n) (some ⟨b,o,none⟩) 0 0 beh w9 (HR2.out.on HB9.out) LR2.out);generalize nextP (left.drop n) beh=nx at CN HM;go_wp2_with fail;refine CN.out.mono ?_;rintro e w' ⟨rfl,rfl⟩;have ST:Hid (PuRel w B g q y v rs par nx left j (.slice A8 n8 c8) (left.take j++left.drop n) (.int .i64 0) w9):=Zh ⟨0,y,v,rs,by omega,rfl,W9,Zh rfl,by omega,O9⟩;clear CN;go_wp2_with fail;go_loopw [15] (fun s15 wr=>PuRel w B g q y v rs par nx left j (.slice A8 n8 c8) (left.take j++left.drop n) s15 wr) (fun s15 _=>j-(intOf s15).toNat)
        case atStart=>exact ST.out
        case round=>
         obtain⟨a,y5,v5,rs5,ha,rfl,HW,HP,hl5,OR⟩:=hrel;clear ST;have OWr:=Zh (Wdid.ints H.out HW.out OW.out);by_cases haj:a<j
         ·have hal:a<left.length:=(by rw[LL.out];omega);have g0:=GI.out wr OWr.out a hal;have i1:(0:Int)≤(a:Int):=(by omega);have i2:(a:Int)<(n:Int):=(by omega);have PS:Hid (putsP par nx (left.take (a+1)) (y.d,rs.map (·.r))=doP (putsP par nx (left.take a) (y.d,rs.map (·.r))) (recPut left[a] par nx)):=Zh (by rw[List.take_succ_eq_append_getElem hal,puts_snoc]);obtain⟨q1,q2,_⟩:=puts_wf par nx (left.take a) (s:=(y.d,rs.map (·.r))) HWF.out;rw[←HP.out] at q1 q2;have hy5:y5.n≤100000:=(by have h1:y5.n=y.n:=q2;omega);have CP:=Zh (put_c left[a] par nx wr q1 hy5 (by omega) HW.out.wk);generalize left[a]=la at g0 CP PS;clear q1 q2;go_wp2_with fail;refine CP.out.mono ?_;rintro e w10 ⟨rfl,y6,v6,rs6,d6,hd6,hl6⟩;have W10:=Zh (HW.out.trans d6);have OR2:=Zh (Wdid.ints HW.out.wk d6 OR.out);have HP6:Hid ((y6.d,rs6.map (·.r))=putsP par nx (left.take (a+1)) (y.d,rs.map (·.r))):=Zh (by rw[hd6,PS.out,←HP.out]);clear d6 hd6 CP g0;go_wp2_with fail;go_roundw
          case rel=>exact⟨a+1,y6,v6,rs6,by omega,by go_num,W10,HP6,by omega,OR2⟩
          case measure=>simp[intOf];omega
         ·obtain rfl:a=j:=by omega
          go_wp2_with fail;go_ret;exact⟨A8,n8,c8,y5,v5,rs5,rfl,by rw[HM.out];exact OR.out,HW.out,by rw[HM.out];exact HP.out,by omega⟩
   ·go_upto_region 4 with fail;go_region_held3 (fun _=>True) (trivial) ((first
     |(refine kI.step_app rfl (.tmp 24) (.tmp 27) rfl (v:=.slice (some ⟨w.heap.size,0,Option.none⟩) 0 0) (l:=[]) (m:=left.take j) (B:=w.heap.size) rfl OZ.out rfl LT.out (fun e=>by cases e) (HT.out.on BZ.out) (by simp;omega) BZ.out.size ?_;intro v7 w7 hown7 hgrow7 hat7;obtain⟨A7,n7,c7,rfl,_,_,_,_,_⟩:=hown7.slice;have O7:=Zh hown7;have B7:Hid (Below w.heap.size w w7):=Zh (BZ.out.grown hgrow7 BZ.out.size (fun k hk=>by simp[Value.ownBlock] at hk;omega));have hz7:=B7.out.size;clear hown7 hgrow7 hat7)
     |(refine kI.step_app rfl (.tmp 28) (.tmp 32) rfl (v:=.slice A7 n7 c7) (l:=[]++left.take j) (m:=left.drop pe) (B:=w.heap.size) rfl O7.out rfl LR.out (fun e=>by cases e) (HR.out.on B7.out) (by have:=LT.out;have:=LR.out;simp;omega) hz7 ?_;intro v8 w8 hown8 hgrow8 hat8;obtain⟨A8,n8,c8,rfl,_,_,_,_,_⟩:=hown8.slice;have O8:Hid (kI.Own w8 w.heap.size (.slice A8 n8 c8) (left.take j++left.drop pe)):=Zh hown8;have B8:Hid (Below w.heap.size w w8):=Zh (Below.grown (a:=w) B7.out hgrow8 hz7 (fun k hk=>(O7.out.lt hk).1));clear hown8 hgrow8 hat8)
     |fail))
    all_goals
     have K8:=Zh (H.out.below B8.out);have W8:=Zh (Wdid.below_ H.out B8.out);have OW8:=Zh (OW.out.below B8.out (Zl));clear O7 B7 hz7 g0;by_cases hj0:j=0
     ·subst hj0;have HM:Hid (moveP (y.d,rs.map (·.r)) par left beh id 0=((y.d,rs.map (·.r)),left.take 0++left.drop pe)):=Zh (by rw[MV.out,if_pos rfl]);have hq0:(((0:Nat):Int)==0)=true:=(by simp);go_wp2_with fail;go_ret;exact⟨A8,n8,c8,y,v,rs,rfl,by rw[HM.out];exact O8.out,W8.out,by rw[HM.out],by omega⟩
     ·have hq0:((j:Int)==0)=false:=(by simp;omega);have p0:=K8.out.c0;have p3:=K8.out.doc.c3;have CI:Hid (∀jj,Calls Tryz.prog 85 #[.pointer (some ⟨q,0,none⟩),.int .i64 y.foc,.int .i64 id] (w8.drewN jj) fun e w'=>e = .returned (.bool (inside y.l y.foc id))∧Below w8.heap.size w8 w'):=Zh (fun jj=>(rinside_any y.foc id (w8.drewN jj) HWF.out.asc (by have:=HWF.out.len200;rw[show y.d.l=y.l from rfl,rl_len] at this;omega) (K8.out.doc.drewN jj)).mono (by
       rintro e w' ⟨rfl,hb⟩;exact⟨rfl,(Below_drewN Ze jj).trans hb⟩))
      obtain⟨bi,hbi⟩:∃bi,inside y.l y.foc id=bi:=⟨_,rfl⟩;rw[hbi] at CI;have HBI:=Zh hbi;clear hbi;go_upto_region 7 with fail;go_region_held3 (fun w'=>w'.cell? ⟨g,0,none⟩=some (.pointer (some ⟨q,0,none⟩))∧w'.cell? ⟨q,3,none⟩=some (.int .i64 y.foc)) (first|go_keep|exact K9) ((first
       |(go_at_call 85;refine(CI.out _).mono ?_;rintro e w9 ⟨rfl,b9⟩;have WK9:=Zh (K8.out.below b9);have K9:=And.intro WK9.out.c0 WK9.out.doc.c3;have B9:=Zh b9;clear b9)
       |fail))
      all_goals
       have W9:=Zh (W8.out.trans (Wdid.below_ K8.out B9.out));have OW9:=Zh (OW8.out.below B9.out (Zl));have O9:=Zh (O8.out.below B9.out (Zl));clear CI p0 p3;cases bi with
       |false=>
        have HM:Hid (moveP (y.d,rs.map (·.r)) par left beh id j=(doP (y.d,rs.map (·.r)) (recPut id par (nextP left 0)),left.take j++left.drop pe)):=Zh (by rw[MV.out,if_neg hj0,if_pos HBI.out]);have g0:=GI.out w9 OW9.out 0 (by omega);rw[←N0.out,Nat.add_zero] at g0;have i0:(0:Int)<(n:Int):=(by omega);have CP:=Zh (put_c id par (nextP left 0) w9 HWF.out hyn (by omega) WK9.out);generalize nextP left 0=n0 at g0 CP HM;go_wp2_with fail;refine CP.out.mono ?_;rintro e w10 ⟨rfl,y5,v5,rs5,d5,hd5,hl5⟩;have W10:=Zh (W9.out.trans d5);have O10:=Zh (Wdid.ints WK9.out d5 O9.out);have HD5:=Zh hd5;clear d5 hd5 CP g0;go_wp2_with fail;go_ret;exact⟨A8,n8,c8,y5,v5,rs5,rfl,by rw[HM.out];exact O10.out,W10.out,by rw[HM.out];exact HD5.out,by omega⟩
       |true=>
        have HM:Hid (moveP (y.d,rs.map (·.r)) par left beh id j=(putsP par (nextP (left.drop pe) beh) (left.take j) (y.d,rs.map (·.r)),left.take j++left.drop pe)):=Zh (by rw[MV.out,if_neg hj0,if_neg (by rw[HBI.out];decide)]);have HB9:=Zh (B8.out.trans (B9.out.mono B8.out.size));have CN:=Zh (next_any (left.drop pe) (some ⟨b,o+pe,none⟩) (n-pe) (c-pe) beh w9 (HR.out.on HB9.out) LR.out);generalize nextP (left.drop pe) beh=nx at CN HM;go_wp2_with fail;refine CN.out.mono ?_;rintro e w' ⟨rfl,rfl⟩;have ST:Hid (PuRel w B g q y v rs par nx left j (.slice A8 n8 c8) (left.take j++left.drop pe) (.int .i64 0) w9):=Zh ⟨0,y,v,rs,by omega,rfl,W9,Zh rfl,by omega,O9⟩;clear CN;go_wp2_with fail;go_loopw [15] (fun s15 wr=>PuRel w B g q y v rs par nx left j (.slice A8 n8 c8) (left.take j++left.drop pe) s15 wr) (fun s15 _=>j-(intOf s15).toNat)
        case atStart=>exact ST.out
        case round=>
         obtain⟨a,y5,v5,rs5,ha,rfl,HW,HP,hl5,OR⟩:=hrel;clear ST;have OWr:=Zh (Wdid.ints H.out HW.out OW.out);by_cases haj:a<j
         ·have hal:a<left.length:=(by rw[LL.out];omega);have g0:=GI.out wr OWr.out a hal;have i1:(0:Int)≤(a:Int):=(by omega);have i2:(a:Int)<(n:Int):=(by omega);have PS:Hid (putsP par nx (left.take (a+1)) (y.d,rs.map (·.r))=doP (putsP par nx (left.take a) (y.d,rs.map (·.r))) (recPut left[a] par nx)):=Zh (by rw[List.take_succ_eq_append_getElem hal,puts_snoc]);obtain⟨q1,q2,_⟩:=puts_wf par nx (left.take a) (s:=(y.d,rs.map (·.r))) HWF.out;rw[←HP.out] at q1 q2;have hy5:y5.n≤100000:=(by have h1:y5.n=y.n:=q2;omega);have CP:=Zh (put_c left[a] par nx wr q1 hy5 (by omega) HW.out.wk);generalize left[a]=la at g0 CP PS;clear q1 q2;go_wp2_with fail;refine CP.out.mono ?_;rintro e w10 ⟨rfl,y6,v6,rs6,d6,hd6,hl6⟩;have W10:=Zh (HW.out.trans d6);have OR2:=Zh (Wdid.ints HW.out.wk d6 OR.out);have HP6:Hid ((y6.d,rs6.map (·.r))=putsP par nx (left.take (a+1)) (y.d,rs.map (·.r))):=Zh (by rw[hd6,PS.out,←HP.out]);clear d6 hd6 CP g0;go_wp2_with fail;go_roundw
          case rel=>exact⟨a+1,y6,v6,rs6,by omega,by go_num,W10,HP6,by omega,OR2⟩
          case measure=>simp[intOf];omega
         ·obtain rfl:a=j:=by omega
          go_wp2_with fail;go_ret;exact⟨A8,n8,c8,y5,v5,rs5,rfl,by rw[HM.out];exact OR.out,HW.out,by rw[HM.out];exact HP.out,by omega⟩
end P19
namespace P19
open Go.RowKit Kd P4 P5 P7 P14
variable{w w':World}{B g q C:Nat}{y y':Rx}{v v':Value}{rs rs':List RR}{A:Option Addr}{n c:Nat}{ids:List Int}
theorem Wk.not_blk(h:Wk w B g q y v rs){s:Nat}{cur:Array Value}{t:TypeId}(hs:w.heap[s]? = some (.cells cur t (0,0)))(h1:t≠59)(h2:t≠51)(h3:t≠71):¬wfoot g q v s:=by
 rintro(rfl|rfl|e)
 ·exact heap_ne hs h.blk h1 rfl
 ·exact heap_ne hs h.doc.blk h2 rfl
 ·obtain⟨d',hd'⟩:=h.own.ty e;exact heap_ne hs hd' h3 rfl
structure IdsOk(w:World)(g q:Nat)(v:Value)(A:Option Addr)(n:Nat)(ids:List Int):Prop where
 len:ids.length=n
 holds:kI.Holds w w.heap.size A ids
 ap:ids≠[]→∀b o,A=some ⟨b,o,none⟩→¬wfoot g q v b
theorem IdsOk.wdid(h:Wk w B g q y v rs)(k:Wdid w B g q y v y' v' rs' w')(hi:IdsOk w g q v A n ids):IdsOk w' g q v' A n ids:=by
 by_cases he:ids=[]
 ·subst he;exact⟨hi.len,Kind.Holds.nil _ _ _,fun h=>absurd rfl h⟩
 ·have hl:0<ids.length:=List.length_pos_iff.2 he;obtain⟨b,o,rfl,hb,_⟩:=cell_int hi.holds hl;refine⟨hi.len,(hi.holds.keep (fun b' ⟨o',e⟩ hlt=>k.but.block b' hlt (hi.ap he b' o' e))).more k.but.size,fun _ b' o' e hw=>?_⟩;injection e with e;injection e with e1 e2;subst e1;have hn:=hi.ap he b o rfl;rcases hw with e|e|e
  ·exact hn (.inl e)
  ·exact hn (.inr (.inl e))
  ·rcases k.vf b e with e|e
   ·exact hn (.inr (.inr e))
   ·omega
theorem IdsOk.of_own(h:Wk w B g q y v rs)(ho:kI.Own w C (.slice A n c) ids):IdsOk w g q v A n ids:=by
 obtain⟨h1,_,_,_,h5⟩:=own_all' ho;refine⟨h1,h5,fun he b o e=>?_⟩;rcases ho.form with⟨_,e0⟩|⟨g',c',cur,hv,hg,_⟩
 ·exact absurd e0 he
 ·injection hv with e1;rw[e] at e1;injection e1 with e1;injection e1 with e1;subst e1;exact h.ints ho hg
theorem z_small:(⟨#[]⟩:ByteArray).size≤maxLen:=by unfold maxLen;decide
theorem gone_c(i:Int)(w:World)(hwf:WF y.d)(hn:y.n≤100000)(hl:rs.length≤1000000)(h:Wk w B g q y v rs):
 Calls Tryz.prog 44 #[.pointer (some ⟨g,0,none⟩),.agg #[.int .i64 3,.int .i64 i,.int .i64 0,.int .i64 0,.string ⟨#[]⟩,.string ⟨#[]⟩,.string ⟨#[]⟩,.slice none 0 0]] w (WDos w B g q y v rs (recGone i)):=
 wdo_any (recGone i) none 0 0 w hwf hn z_small z_small z_small (argNone w) wf_none (by omega) hl h
end P19
namespace P3
open Go.RowKit
theorem infoA:(Tryz.prog.info? 121).map (fun i=>(i.zero,i.size,i.bytes))=some (some (.agg #[.string ⟨#[]⟩,.string ⟨#[]⟩,.bool false]),3,40):=by kernel_rfl
def cellsA(l:List At):List Value:=l.flatMap fun a=>[.string a.nm,.string a.vl,.bool a.st]
theorem cellsA_len(l:List At):(cellsA l).length=l.length*3:=by
 induction l with
 |nil=>rfl
 |cons a l ih=>simp only[cellsA,List.flatMap_cons,List.length_append,List.length_cons,List.length_nil] at ih⊢;omega
theorem cellsA_append(l m:List At):cellsA (l++m)=cellsA l++cellsA m:=by simp[cellsA]
theorem cellsA_take(l:List At)(k:Nat):cellsA (l.take k)=(cellsA l).take (k*3):=by
 induction l generalizing k with
 |nil=>simp[cellsA]
 |cons a l ih=>
  cases k with
  |zero=>simp[cellsA]
  |succ k=>
   have:=ih k;rw[show(k+1)*3=k*3+3 by omega];simp only[List.take_succ_cons,cellsA,List.flatMap_cons] at this⊢;rw[this];simp
theorem cellsA_at(l:List At)(k:Nat)(h:k<l.length):(cellsA l)[k*3]? = some (.string l[k].nm)∧(cellsA l)[k*3+1]? = some (.string l[k].vl)∧(cellsA l)[k*3+2]? = some (.bool l[k].st):=by
 induction l generalizing k with
 |nil=>simp at h
 |cons a l ih=>
  cases k with
  |zero=>simp[cellsA]
  |succ k=>
   have:=ih k (by simpa using h);rw[show(k+1)*3=k*3+3 by omega];simp only[cellsA,List.flatMap_cons,List.cons_append,List.nil_append,List.getElem_cons_succ] at this⊢;simpa using this
theorem cellsA_one(l:List At):∀u∈cellsA l,u.oneCell'=true:=by
 intro u hu;simp only[cellsA,List.mem_flatMap] at hu;obtain⟨a,_,ha⟩:=hu;simp only[List.mem_cons,List.not_mem_nil,or_false] at ha;rcases ha with rfl|rfl|rfl<;>rfl
def Own(w:World)(base:Nat)(v:Value)(l:List At):Prop:=w.ownsRow base 121 3 v l.length (cellsA l)
section
variable{w w':World}{base:Nat}{v:Value}{l:List At}
theorem Own.nil(w:World)(base:Nat):Own w base (.slice none 0 0) []:=World.ownsRow_nil w base 121 3
theorem Own.alloc(h:Own w base v l)(o:Obj):Own (w.alloc o) base v l:=World.ownsRow.alloc h o
theorem Own.below{B:Nat}(h:Own w base v l)(hb:Below B w w')(hB:w.heap.size≤B):Own w' base v l:=by
 obtain⟨h1,h2⟩:=h;refine⟨h1,?_⟩;rcases h2 with h2|⟨g,cap,cur,hv,hg,hh,r⟩
 ·exact .inl h2
 ·have hlt:g<w.heap.size:=by
   rcases Nat.lt_or_ge g w.heap.size with hlt|hge
   ·exact hlt
   ·rw[Array.getElem?_eq_none hge] at hh;cases hh
  exact .inr ⟨g,cap,cur,hv,hg,(hb.block g (by omega)).trans hh,r⟩
theorem Own.slice(h:Own w base v l):∃A n c,v = .slice A n c∧l.length=n∧n≤c∧c≤maxLen∧(A=Option.none→c=0)∧(∀b o,A=some ⟨b,o,Option.none⟩→base≤b∧b<w.heap.size)∧Holds w w.heap.size A l:=by
 obtain⟨h1,h2⟩:=h;rcases h2 with⟨rfl,hn⟩|⟨g,cap,cur,rfl,hg,hh,hnc,hcm,hcs,ht⟩
 ·refine⟨Option.none,0,0,rfl,hn,by omega,by unfold maxLen;omega,fun _=>rfl,fun _ _ e=>(by cases e),fun k hk=>absurd hk (by omega)⟩
 ·have hlt:g<w.heap.size:=by
   rcases Nat.lt_or_ge g w.heap.size with hlt|hge
   ·exact hlt
   ·rw[Array.getElem?_eq_none hge] at hh;cases hh
  refine⟨_,l.length,cap,rfl,rfl,hnc,hcm,fun e=>(by cases e),fun b o e=>(by injection e with e;injection e with e1;subst e1;exact⟨hg,hlt⟩),fun k hk=>⟨g,0,rfl,hlt,?_⟩⟩
  ·have key:∀(j:Nat) (u:Value),(cellsA l)[j]? = some u→w.cell? ⟨g,j,none⟩=some u:=by
    intro j u hj;rw[cell_of_row w g j _ _ _ hh,←Array.getElem?_toList];rw[←ht,List.getElem?_take] at hj;split at hj
    ·exact hj
    ·cases hj
   obtain⟨k0,k1,k2⟩:=cellsA_at l k hk;rw[Nat.zero_add];exact⟨key _ _ k0,key _ _ k1,key _ _ k2⟩
theorem Own.cut{A:Option Addr}{n c k:Nat}(h:Own w base (.slice A n c) l)(hk:k≤l.length):Own w base (.slice A k c) (l.take k):=by
 obtain⟨h1,h2⟩:=h;have hl:(l.take k).length=k:=(by rw[List.length_take];omega);refine⟨cellsA_len _,?_⟩;rw[hl];rcases h2 with⟨hv,hn⟩|⟨g,cap,cur,hv,hg,hh,hnc,hcm,hcs,ht⟩
 ·simp only[Value.slice.injEq] at hv;obtain⟨rfl,rfl,rfl⟩:=hv;have:k=0:=(by omega);subst this;exact .inl ⟨rfl,rfl⟩
 ·simp only[Value.slice.injEq] at hv;obtain⟨rfl,rfl,rfl⟩:=hv;refine .inr ⟨g,c,cur,rfl,hg,hh,by omega,hcm,hcs,?_⟩;rw[cellsA_take,←ht,List.take_take];congr 1;have:=Nat.mul_le_mul_right 3 hk;omega
end
theorem wp_app{ops:Array Oper}{rest:List Oper}{o:Oper}{a:Act}{Q:Exit→Act→World→Prop}(hgd:o.guard=none)(s x:Operand)
 (ho:o.op = .call {callee:=.builtin .append,args:=#[s,x],argTypes:=#[46,46]})
 {w:World} {base B n c:Nat} {v:Value} {l m:List At} {A:Option Addr} (hs:a.eval s=v) (hown:Own w base v l) (hx:a.eval x = .slice A n c) (hn:m.length=n) (hc:A=none→c=0) (hm:Holds w B A m)
 (hl:l.length+n≤10000000) (hbase:base≤w.heap.size)
 (h:∀v' w',Own w' base v' (l++m)→w.grownBy w' v.ownBlock→(v'.ownBlock=v.ownBlock∨v'.ownBlock=some w.heap.size)→wpList Tryz.prog ops Q rest (a.put o.dst v') w'):wpList Tryz.prog ops Q (o:: rest) a w:=by
 obtain⟨i0,hi,hz0,hz1,hz2⟩:=info_parts infoA;cases A with
 |none=>
  have hm0:m=[]:=by
   cases m with
   |nil=>rfl
   |cons b r=>obtain⟨b,o,hA,_⟩:=hm 0 (by simp);cases hA
  subst hm0;subst hn;rw[hc rfl] at hx;refine wpList_append_own_none hgd s x 46 ho base 121 i0 3 Tryz.underlying46 hi v _ _ hs hown hx ?_;exact h v w (by simpa using hown) (World.grownBy.refl _ _) (.inl rfl)
 |some ad=>
  subst hn;refine wpList_append_own_at w hgd s x 46 ho base 121 i0 _ 3 40 Tryz.underlying46 hi hz0 hz1 hz2 rfl (by decide) v _ _ hs hown ad m.length c (cellsA m) hx (cellsA_len m) ?_ (cellsA_one m) (by unfold maxLen;omega) (by omega) hbase ?_
  ·intro j u hj;have hj3:j<m.length*3:=by
    rw[←cellsA_len];exact(List.getElem?_eq_some_iff.1 hj).1
   obtain⟨b,o,hA,hlt,h0,h1,h2⟩:=hm (j/3) (by omega);obtain⟨k0,k1,k2⟩:=cellsA_at m (j/3) (by omega);injection hA with hA;subst hA;have hadd:(⟨b,o,Option.none⟩:Addr).add j=⟨b,o+j,Option.none⟩:=by
    unfold Addr.add;split
    ·rename_i e;subst e;rfl
    ·rfl
   rw[hadd];have h3:j=j/3*3∨j=j/3*3+1∨j=j/3*3+2:=(by omega);rcases h3 with e|e|e
   ·rw[←e] at k0 h0;rw[h0,←k0,hj]
   ·rw[←e] at k1;rw[show o+j=o+j/3*3+1 by omega,h1,←k1,hj]
   ·rw[←e] at k2;rw[show o+j=o+j/3*3+2 by omega,h2,←k2,hj]
  ·intro v' w' hown' hg _ hat;refine h v' w' ?_ hg hat;unfold Own;rw[List.length_append,cellsA_append];exact hown'
def GivesA(w:World)(l:List At)(e:Ending)(w':World):Prop:=∃v,e = .returned v∧Own w' w.heap.size v l∧Below w.heap.size w w'
theorem those_any(l:List At)(A:Option Addr)(n c:Nat)(s:Bool)(w:World)(hn:l.length=n)(hl:n≤1000000)(H:Holds w w.heap.size A l):
 Calls Tryz.prog 160 #[.slice A n c,.bool s] w (GivesA w (thoseA l s)):=by
 have HH:=Zh H;have HN0:=Zh hn;clear H hn;go_enter Tryz.func160,Tryz.ntmps160;go_wp2_with fail;go_loopw [5,10] (fun v i wr=>∃k:Nat,k≤n∧i = .int .i64 k∧Hid (Below w.heap.size w wr)∧Hid (Own wr w.heap.size v (thoseA (l.take k) s))) (fun _ i _=>n-(intOf i).toNat)
 case atStart=>exact⟨0,by omega,rfl,Zh Ze,Zh (Own.nil _ _)⟩
 case round=>
  obtain⟨k,hk,rfl,HW,HO⟩:=hrel;have hz:w.heap.size≤wr.heap.size:=HW.out.size;by_cases hlt:k<n
  ·have hlt':k<l.length:=(by have:=HN0.out;omega);obtain⟨b,o,rfl,hb,h0,h1,h2⟩:=(HH.out.below HW.out (Zl)) k hlt';cases hs:(l[k].st==s)
   ·have HS:=Zh hs;go_wp2_with fail;go_roundw
    case rel=>exact⟨k+1,by omega,by go_num,Zh (HW.out.alloc (by omega) _),Zh (by rw[thoseA_no hlt' HS.out];exact HO.out.alloc _)⟩
    case measure=>simp[intOf];omega
   ·have HS:=Zh hs;have hle:=thoseA_take_len l s k;have hln:l.length≤1000000:=(by have:=HN0.out;omega);go_wp2_with (at_builtin;refine wp_app rfl _ _ rfl (v:=u5) (l:=thoseA (l.take k) s) (m:=[l[k]]) (base:=w.heap.size) rfl ((HO.out.alloc _).alloc _) rfl rfl (fun e=>by cases e) (Holds.one (Blk.new2 _ _ _)) (by simp;omega) (by simp;omega) ?_;intro v' w1 hown' hgrow _);go_roundw
    case rel=>exact⟨k+1,by omega,by go_num,Zh (((HW.out.alloc (by omega) _).alloc (by simp;omega) _).grown hgrow (by simp;omega) (fun j hj=>(World.ownsRow.lt HO.out j hj).1)),Zh (by rw[thoseA_yes hlt' HS.out];exact hown')⟩
    case measure=>simp[intOf];omega
  ·obtain rfl:k=n:=by omega
   go_wp2_with fail;go_ret;exact⟨_,rfl,by rw[thoseA_all HN0.out] at HO;exact HO.out,HW.out⟩
theorem new_any(l:List At)(A:Option Addr)(n c:Nat)(w:World)(hn:l.length=n)(hl:n≤1000000)(H:Holds w w.heap.size A l):
 Calls Tryz.prog 145 #[.slice A n c] w (GivesA w (newA l)):=by
 have HH:=Zh H;have HN0:=Zh hn;clear H hn;go_enter Tryz.func145,Tryz.ntmps145;go_wp2_with fail;refine(those_any l A n c true _ HN0.out hl HH.out).mono ?_;rintro e w1 ⟨v1,rfl,o1,b1⟩;have O1:=Zh o1;have B1:=Zh b1;clear o1 b1;go_wp2_with fail;refine(those_any l A n c false _ HN0.out hl (HH.out.on B1.out)).mono ?_;rintro e w2 ⟨v2,rfl,o2,b2⟩;obtain⟨A2,n2,c2,rfl,hn2,hc2,hm2,hz2,hb2,h2⟩:=o2.slice;have O1':=Zh (O1.out.below b2 (Zl));have B2:=Zh (B1.out.trans (b2.mono B1.out.size));have HN2:=Zh hn2;have HZ2:=Zh hz2;have H2:=Zh h2;have hs2:n2≤1000000:=(by have:=thoseA_len l false;have:=HN0.out;omega);have hs1:(thoseA l true).length≤1000000:=(by have:=thoseA_len l true;have:=HN0.out;omega);clear o2 b2 hn2 hz2 hb2 h2 hm2 hc2;have hB:w.heap.size≤w2.heap.size:=B2.out.size;go_wp2_with (at_builtin;refine wp_app rfl _ _ rfl (v:=v1) (l:=thoseA l true) (m:=thoseA l false) (base:=w.heap.size) rfl O1'.out rfl HN2.out HZ2.out H2.out (by omega) hB ?_;intro v' w3 hown' hgrow _);go_ret;exact⟨_,rfl,hown',B2.out.grown hgrow hB (fun j hj=>(World.ownsRow.lt O1'.out j hj).1)⟩
def Apart(v:Value)(A:Option Addr):Prop:=∀b o,A=some ⟨b,o,none⟩→some b≠v.ownBlock
theorem apart_holds{w w':World}{o:Obj}{A:Option Addr}{l:List At}{v:Value}(h:Holds w w.heap.size A l)(ha:Apart v A)(hg:(w.alloc o).grownBy w' v.ownBlock):Holds w' w'.heap.size A l:=by
 have h1:=h.on (Ze.alloc (Zl) o);exact(h1.grown hg (Zl) ha).more hg.size
theorem apart_next{w:World}{o:Obj}{A:Option Addr}{l:List At}{v v':Value}{k:Nat}(h:Holds w w.heap.size A l)(hk:k<l.length)(ha:Apart v A)(hat:v'.ownBlock=v.ownBlock∨v'.ownBlock=some (w.alloc o).heap.size):Apart v' A:=by
 intro b off hA;obtain⟨b',o',hA',hlt,_⟩:=h k hk;rcases hat with e|e
 ·rw[e];exact ha b off hA
 ·rw[e];intro e';rw[hA] at hA';injection hA' with e1;injection e1 with e2 _;injection e' with e3;have:(w.alloc o).heap.size=w.heap.size+1:=(by simp);omega
theorem join_done{W:World}{base n5 c5 r:Nat}{A5:Option Addr}{L J:List At}(h:Own W base (.slice A5 n5 c5) L)(hn:L.length=n5)(hr:r=min n5 8)(hJ:J=L.take 8):Own W base (.slice A5 r c5) J:=by
 subst hr;subst hJ;have:=h.cut (k:=min n5 8) (by omega);have e:L.take (min n5 8)=L.take 8:=by
  subst hn;by_cases h8:L.length≤8
  ·rw[Nat.min_eq_left h8,List.take_of_length_le (Zl),List.take_of_length_le h8]
  ·rw[Nat.min_eq_right (by omega)]
 rwa[e] at this
theorem join_full{l m:List At}{k n5:Nat}(hn:(addA (thoseA l true) ((thoseA m false).take k)).length=n5)(h8:8≤n5):joinA l m=(addA (thoseA l true) ((thoseA m false).take k)).take 8:=
 addA_full (by omega)
theorem join_all{l m:List At}{k:Nat}(hn:(thoseA m false).length=k):joinA l m=(addA (thoseA l true) ((thoseA m false).take k)).take 8:=by
 subst hn;simp[joinA]
theorem join_any(l m:List At)(A B:Option Addr)(n n' c d:Nat)(w:World)(hn:l.length=n)(hn':m.length=n')(hl:n≤1000000)(hm:n'≤1000000)(H:Holds w w.heap.size A l)(H2:Holds w w.heap.size B m):
 Calls Tryz.prog 158 #[.slice A n c,.slice B n' d] w (GivesA w (joinA l m)):=by
 have HH:=Zh H;have HH2:=Zh H2;have HN:=Zh hn;have HN':=Zh hn';clear H H2 hn hn';go_enter Tryz.func158,Tryz.ntmps158;go_wp2_with fail;refine(those_any l A n c true _ HN.out hl HH.out).mono ?_;rintro e w1 ⟨v1,rfl,o1,b1⟩;have O1:=Zh o1;have B1:=Zh b1;clear o1 b1;go_wp2_with fail;refine(those_any m B n' d false _ HN'.out hm (HH2.out.on B1.out)).mono ?_;rintro e w2 ⟨v2,rfl,o2,b2⟩;obtain⟨A2,n2,c2,rfl,hn2,hc2,hm2,hz2,hb2,h2⟩:=o2.slice;have O1':=Zh (O1.out.below b2 (Zl));have AP:Hid (Apart v1 A2):=Zh (fun b o hA e=>by
  have e1:=(World.ownsRow.lt O1.out b e.symm).2;have e2:=(hb2 b o hA).1;omega)
 have B2:=Zh (B1.out.trans (b2.mono B1.out.size));have HN2:=Zh hn2;have H2:=Zh h2;have hs2:n2≤1000000:=(by have:=thoseA_len m false;have:=HN'.out;omega);have hs1:(thoseA l true).length≤1000000:=(by have:=thoseA_len l true;have:=HN.out;omega);clear o2 b2 hn2 hz2 hb2 h2 hm2 hc2;have hB:w.heap.size≤w2.heap.size:=B2.out.size;go_wp2_with fail;go_loopw [5,13] (fun v i wr=>∃k:Nat,k≤n2∧i = .int .i64 k∧Hid (Below w.heap.size w wr)∧Hid (Own wr w.heap.size v (addA (thoseA l true) ((thoseA m false).take k)))∧Hid (Holds wr wr.heap.size A2 (thoseA m false))∧Hid (Apart v A2)) (fun _ i _=>n2-(intOf i).toNat)
 case atStart=>exact⟨0,by omega,rfl,B2,O1',H2,AP⟩
 case round=>
  obtain⟨k,hk,rfl,HW,HO,HA2,HAP⟩:=hrel;have hz:w.heap.size≤wr.heap.size:=HW.out.size;obtain⟨A5,n5,c5,rfl,hn5,hc5,hm5,hz5,hb5,h5⟩:=HO.out.slice;have HN5:=Zh hn5;have hs5:n5≤2000000:=(by have:=addA_take_len (thoseA l true) (thoseA m false) k;have:=HN2.out;omega);have HB5:=Zh hb5;have H5:=Zh h5;unfold maxLen at hm5;clear hn5 hz5 hb5 h5;by_cases hlt:k<n2
  ·have hlt':k<(thoseA m false).length:=(by have:=HN2.out;omega);obtain⟨b,o,rfl,hb,h0,h1,h2⟩:=HA2.out k hlt';by_cases h8:8≤n5
   ·go_wp2_with fail
    all_goals
     go_ret;exact⟨_,rfl,join_done (HO.out.alloc _) HN5.out (by omega) (join_full HN5.out h8),HW.out.alloc hz _⟩
   ·have h8':n5<8:=(by omega);cases hh:hasA (addA (thoseA l true) ((thoseA m false).take k)) (thoseA m false)[k].nm
    ·have HS:=Zh hh;clear hh;go_wp2_with fail;refine(has_at (addA (thoseA l true) ((thoseA m false).take k)) A5 n5 c5 _ _ HS.out HN5.out (by omega) (H5.out.on (Zb _ _))).mono ?_;rintro e w3 ⟨rfl,b3⟩;have B3:=Zh b3;clear b3;have B0:=Zh ((Below.refl wr.heap.size wr).alloc (Zl) (.cells #[.string (thoseA m false)[k].nm,.string (thoseA m false)[k].vl,.bool (thoseA m false)[k].st] 121));have K3:=Zh ((Blk.new wr (thoseA m false)[k]).below B3.out (by simp));have c0:=K3.out.c0;have c1:=K3.out.c1;have c2:=K3.out.c2;have hz3:wr.heap.size<w3.heap.size:=K3.out.lt;have O3:=Zh ((HO.out.alloc (.cells #[.string (thoseA m false)[k].nm,.string (thoseA m false)[k].vl,.bool (thoseA m false)[k].st] 121)).below B3.out (Zl));have A3:=Zh ((HA2.out.on B0.out).on B3.out);have W3:=Zh ((HW.out.alloc hz _).trans (B3.out.mono (by simp;omega)));have hz4:w.heap.size≤w3.heap.size:=W3.out.size;go_wp2_with (at_builtin;refine wp_app rfl _ _ rfl (v:=.slice A5 n5 c5) (l:=addA (thoseA l true) ((thoseA m false).take k)) (m:=[(thoseA m false)[k]]) (base:=w.heap.size) rfl (O3.out.alloc _) rfl rfl (fun e=>by cases e) (Holds.one (Blk.new _ _)) (by have:=HN5.out;simp;omega) (by simp;omega) ?_;intro v' w4 hown' hgrow hat);go_roundw
     case rel=>exact⟨k+1,by omega,by go_num,Zh ((W3.out.alloc hz4 _).grown hgrow (by simp;omega) (fun j hj=>(World.ownsRow.lt O3.out j hj).1)),Zh (by rw[addA_take_snoc_no hlt' HS.out];exact hown'),Zh (apart_holds A3.out HAP.out hgrow),Zh (apart_next A3.out hlt' HAP.out hat)⟩
     case measure=>simp[intOf];omega
    ·have HS:=Zh hh;clear hh;go_wp2_with fail;refine(has_at (addA (thoseA l true) ((thoseA m false).take k)) A5 n5 c5 _ _ HS.out HN5.out (by omega) (H5.out.on (Zb _ _))).mono ?_;rintro e w3 ⟨rfl,b3⟩;have B3:=Zh b3;clear b3;go_wp2_with fail;go_roundw
     case rel=>exact⟨k+1,by omega,by go_num,Zh ((HW.out.alloc hz _).trans (B3.out.mono (by simp;omega))),Zh (by rw[addA_take_snoc_yes hlt' HS.out];exact(HO.out.alloc _).below B3.out (Zl)),Zh ((HA2.out.on (Zb _ _)).on B3.out),HAP⟩
     case measure=>simp[intOf];omega
  ·obtain rfl:k=n2:=by omega
   by_cases h8:n5≤8
   ·go_wp2_with fail
    all_goals
     go_ret;exact⟨_,rfl,join_done HO.out HN5.out (by omega) (join_all HN2.out),HW.out⟩
   ·go_wp2_with fail
    all_goals
     go_ret;exact⟨_,rfl,join_done HO.out HN5.out (by omega) (join_all HN2.out),HW.out⟩
theorem equal_any(l m:List At)(A B:Option Addr)(n n' c d:Nat)(w:World)(hn:l.length=n)(hn':m.length=n')(hl:n≤1000000)(hm:n'≤1000000)(H:Holds w w.heap.size A l)(H2:Holds w w.heap.size B m):
 Calls Tryz.prog 163 #[.slice A n c,.slice B n' d] w fun e w'=>e = .returned (.bool (sameA l m))∧Below w.heap.size w w':=by
 have HH:=Zh H;have HH2:=Zh H2;have HN:=Zh hn;have HN':=Zh hn';clear H H2 hn hn';by_cases hlen:n=n'
 ·subst hlen;go_enter Tryz.func163,Tryz.ntmps163;go_wp2_with fail;go_loopw [13] (fun i wr=>∃k:Nat,k≤n∧i = .int .i64 k∧Hid (Below w.heap.size w wr)∧Hid (SameTo l m k)) (fun i _=>n-(intOf i).toNat)
  case atStart=>exact⟨0,by omega,rfl,Zh Ze,Zh (SameTo.zero _ _)⟩
  case round=>
   obtain⟨k,hk,rfl,HW,HS⟩:=hrel;by_cases hlt:k<n
   ·have hlt1:k<l.length:=(by have:=HN.out;omega);have hlt2:k<m.length:=(by have:=HN'.out;omega);obtain⟨b,o,rfl,hb,h0,h1,h2⟩:=(HH.out.below HW.out (Zl)) k hlt1;obtain⟨b',o',rfl,hb',h0',h1',h2'⟩:=(HH2.out.below HW.out (Zl)) k hlt2;have hg:=eqg;cases hat:atB l[k] m[k]
    ·have hq:=neq_at hat;have HAT:=Zh hat;clear hat;go_wp2_with fail;go_quiet (fail);go_wp2_with fail;go_ret;exact⟨ret_bool (sameA_bad hlt1 hlt2 HAT.out).symm,Below_drewN HW.out _⟩
    ·have hq:=neq_at hat;have HAT:=Zh hat;clear hat;go_wp2_with fail;go_quiet (fail);go_wp2_with fail;go_roundw
     case rel=>exact⟨k+1,by omega,by go_num,Zh (Below_drewN HW.out _),Zh (HS.out.next hlt1 hlt2 HAT.out)⟩
     case measure=>simp[intOf];omega
   ·obtain rfl:k=n:=by omega
    go_wp2_with fail;go_ret;exact⟨ret_bool (HS.out.all HN.out HN'.out).symm,HW.out⟩
 ·have he:((n:Int) != (n':Int))=true:=(by simp;omega);have HL:Hid (l.length≠m.length):=Zh (by rw[HN.out,HN'.out];exact hlen);clear hlen;go_enter Tryz.func163,Tryz.ntmps163;go_wp2_with fail;go_ret;exact⟨ret_bool (sameA_len HL.out).symm,Ze⟩
theorem same_any(l m:List At)(A B:Option Addr)(n n' c d:Nat)(w:World)(hn:l.length=n)(hn':m.length=n')(hl:n≤1000000)(hm:n'≤1000000)(H:Holds w w.heap.size A l)(H2:Holds w w.heap.size B m):
 Calls Tryz.prog 159 #[.slice A n c,.slice B n' d] w fun e w'=>e = .returned (.bool (sameA l m))∧Below w.heap.size w w':=by
 have HH:=Zh H;have HH2:=Zh H2;have HN:=Zh hn;have HN':=Zh hn';clear H H2 hn hn';go_enter Tryz.func159,Tryz.ntmps159;go_wp2_with fail;refine(equal_any l m A B n n' c d _ HN.out HN'.out hl hm HH.out HH2.out).mono ?_;rintro e w1 ⟨rfl,b1⟩;have B1:=Zh b1;clear b1;go_wp2_with fail;go_ret;exact⟨rfl,B1.out⟩
theorem same_at(l m:List At)(A B:Option Addr)(n n' c d:Nat)(w:World){r:Bool}(hr:sameA l m=r)(hn:l.length=n)(hn':m.length=n')(hl:n≤1000000)(hm:n'≤1000000)(H:Holds w w.heap.size A l)(H2:Holds w w.heap.size B m):
 Calls Tryz.prog 159 #[.slice A n c,.slice B n' d] w fun e w'=>e = .returned (.bool r)∧Below w.heap.size w w':=by
 subst hr;exact same_any l m A B n n' c d w hn hn' hl hm H H2
end P3
end Go.Proofs.YtaklfomaibchnaaGreat
