/- A part of what the claimed theorem hangs on. No condition but those stated. -/
import Derived.Deep.RegionHeld3
import Derived.Test.YtaklfomaibchnaaGreatM1
import Derived.Test.YtaklfomaibchnaaGreatM5
import Derived.Test.YtaklfomaibchnaaGreatM6
import Derived.Test.YtaklfomaibchnaaGreatM7
import Derived.Test.YtaklfomaibchnaaGreatM8
import Derived.Test.YtaklfomaibchnaaGreatM9
import Derived.Test.YtaklfomaibchnaaGreatM11
import Derived.Test.YtaklfomaibchnaaGreatM12
import Derived.Test.YtaklfomaibchnaaGreatM13
import Derived.Test.YtaklfomaibchnaaGreatM14
set_option linter.unusedVariables false
set_option linter.unusedSimpArgs false
set_option maxRecDepth 100000
set_option maxHeartbeats 40000000
namespace Go.Proofs.YtaklfomaibchnaaGreat
namespace P6
open Go.RowKit Kd P4 P5
variable{B p:Nat}{x:Dx}
def NoNode(w:World)(e:Ending)(w':World):Prop:=e = .returned (.tuple #[.agg #[.int .i64 0,.int .i64 0,.string ⟨#[]⟩,.string ⟨#[]⟩,.string ⟨#[]⟩,.slice none 0 0,.slice none 0 0,.int .i64 0],.bool false])∧Below w.heap.size w w'
theorem pnode_yes(y:Int){k:Nat}{nd:Nd}(w:World)(hk:k<x.rs.length)(hy:x.rs[k].nd.id=y)(hn:x.rs[k].nd=nd)(hal:nd.attrs.length≤1000)(hkl:nd.kids.length≤1000)(h:Dc w B p x):Calls Tryz.prog 164 #[.pointer (some ⟨p,0,none⟩),.int .i64 y] w (Tells w nd):=by
 have H:=Zh h;have HY:=Zh hy;have HN:=Zh hn;clear h hy hn;go_enter Tryz.func164,Tryz.ntmps164;go_wp2_with fail;refine(tell_yes y _ hk HY.out HN.out hal hkl (H.out.alloc _)).mono ?_;rintro e w1 ⟨A,n,c,A2,n2,c2,rfl,a1,o1,b1⟩;have B1:=Zh (((Below.refl _ w).alloc (Zl) (.cells #[.int .i64 0,.int .i64 0,.string ⟨#[]⟩,.string ⟨#[]⟩,.string ⟨#[]⟩,.slice none 0 0,.slice none 0 0,.int .i64 0] 48)).trans (b1.mono (by simp)));have BLK:Hid (w1.heap[w.heap.size]? = some (.cells #[.int .i64 0,.int .i64 0,.string ⟨#[]⟩,.string ⟨#[]⟩,.string ⟨#[]⟩,.slice none 0 0,.slice none 0 0,.int .i64 0] 48 (0,0))):=Zh ((b1.block _ (by simp)).trans (heap_alloc_new w _));have HA1:=Zh a1;have HK1:=Zh o1;have hz4:w.heap.size<w1.heap.size:=heap_lt BLK.out;have r0:w1.cell? ⟨w.heap.size,0,none⟩=some (.int .i64 0):=cell_of_row w1 _ 0 _ _ (0,0) BLK.out;have r1:w1.cell? ⟨w.heap.size,1,none⟩=some (.int .i64 0):=cell_of_row w1 _ 1 _ _ (0,0) BLK.out;have r2:w1.cell? ⟨w.heap.size,2,none⟩=some (.string ⟨#[]⟩):=cell_of_row w1 _ 2 _ _ (0,0) BLK.out;have r3:w1.cell? ⟨w.heap.size,3,none⟩=some (.string ⟨#[]⟩):=cell_of_row w1 _ 3 _ _ (0,0) BLK.out;have r4:w1.cell? ⟨w.heap.size,4,none⟩=some (.string ⟨#[]⟩):=cell_of_row w1 _ 4 _ _ (0,0) BLK.out;have r5:w1.cell? ⟨w.heap.size,5,none⟩=some (.slice none 0 0):=cell_of_row w1 _ 5 _ _ (0,0) BLK.out;have r6:w1.cell? ⟨w.heap.size,6,none⟩=some (.slice none 0 0):=cell_of_row w1 _ 6 _ _ (0,0) BLK.out;have r7:w1.cell? ⟨w.heap.size,7,none⟩=some (.int .i64 0):=cell_of_row w1 _ 7 _ _ (0,0) BLK.out;have rf:∀i,w1.frozen? ⟨w.heap.size,i,none⟩=false:=fun i=>by have hb:=BLK.out;simp[World.frozen?,hb]
 clear a1 o1 b1;go_wp2_with fail;refine bodyPost_ret (v:=.tuple #[.agg #[.int .i64 nd.id,.int .i64 nd.par,.string nd.tag,.string nd.txt,.string nd.key,.slice A n c,.slice A2 n2 c2,.int .i64 nd.note],.bool true]) (by simp[results,Tryz.results164,go_sem,r0,r1,r2,r3,r4,r5,r6,r7,hz4]) rfl ?_;refine tell_end B1.out (D:=(w.alloc (.cells #[.int .i64 0,.int .i64 0,.string ⟨#[]⟩,.string ⟨#[]⟩,.string ⟨#[]⟩,.slice none 0 0,.slice none 0 0,.int .i64 0] 48)).heap.size) (by simp) HA1.out HK1.out ⟨_,BLK.out⟩ ?_;exact setOne (setOne (setOne (setOne (setOne (setOne (setOne (setOne (But.refl _ _))))))))
theorem pnode_no(y:Int)(w:World)(hy:hasL x.l y=false)(h:Dc w B p x):Calls Tryz.prog 164 #[.pointer (some ⟨p,0,none⟩),.int .i64 y] w (NoNode w):=by
 have H:=Zh h;have HY:=Zh hy;clear h hy;go_enter Tryz.func164,Tryz.ntmps164;go_wp2_with fail;refine(tell_no y _ HY.out (H.out.alloc _)).mono ?_;rintro e w1 ⟨rfl,b1⟩;have B1:=Zh (((Below.refl _ w).alloc (Zl) (.cells #[.int .i64 0,.int .i64 0,.string ⟨#[]⟩,.string ⟨#[]⟩,.string ⟨#[]⟩,.slice none 0 0,.slice none 0 0,.int .i64 0] 48)).trans (b1.mono (by simp)));have BLK:Hid (w1.heap[w.heap.size]? = some (.cells #[.int .i64 0,.int .i64 0,.string ⟨#[]⟩,.string ⟨#[]⟩,.string ⟨#[]⟩,.slice none 0 0,.slice none 0 0,.int .i64 0] 48 (0,0))):=Zh ((b1.block _ (by simp)).trans (heap_alloc_new w _));have hz4:w.heap.size<w1.heap.size:=heap_lt BLK.out;have r0:w1.cell? ⟨w.heap.size,0,none⟩=some (.int .i64 0):=cell_of_row w1 _ 0 _ _ (0,0) BLK.out;have r1:w1.cell? ⟨w.heap.size,1,none⟩=some (.int .i64 0):=cell_of_row w1 _ 1 _ _ (0,0) BLK.out;have r2:w1.cell? ⟨w.heap.size,2,none⟩=some (.string ⟨#[]⟩):=cell_of_row w1 _ 2 _ _ (0,0) BLK.out;have r3:w1.cell? ⟨w.heap.size,3,none⟩=some (.string ⟨#[]⟩):=cell_of_row w1 _ 3 _ _ (0,0) BLK.out;have r4:w1.cell? ⟨w.heap.size,4,none⟩=some (.string ⟨#[]⟩):=cell_of_row w1 _ 4 _ _ (0,0) BLK.out;have r5:w1.cell? ⟨w.heap.size,5,none⟩=some (.slice none 0 0):=cell_of_row w1 _ 5 _ _ (0,0) BLK.out;have r6:w1.cell? ⟨w.heap.size,6,none⟩=some (.slice none 0 0):=cell_of_row w1 _ 6 _ _ (0,0) BLK.out;have r7:w1.cell? ⟨w.heap.size,7,none⟩=some (.int .i64 0):=cell_of_row w1 _ 7 _ _ (0,0) BLK.out;have rf:∀i,w1.frozen? ⟨w.heap.size,i,none⟩=false:=fun i=>by have hb:=BLK.out;simp[World.frozen?,hb]
 clear b1;go_wp2_with fail;refine bodyPost_ret (v:=.tuple #[.agg #[.int .i64 0,.int .i64 0,.string ⟨#[]⟩,.string ⟨#[]⟩,.string ⟨#[]⟩,.slice none 0 0,.slice none 0 0,.int .i64 0],.bool false]) (by simp[results,Tryz.results164,go_sem,r0,r1,r2,r3,r4,r5,r6,r7,hz4]) rfl ⟨rfl,one_end B1.out ?_⟩;exact setOne (setOne (setOne (setOne (setOne (setOne (setOne (setOne (But.refl _ _))))))))
theorem index_no(l:List Int)(t:Int)(A:Option Addr)(n c:Nat)(w:World)(hn:l.length=n)(hn2:n≤1000000)(ht:t∉l)(H:kI.Holds w w.heap.size A l):
 Calls Tryz.prog 74 #[.slice A n c,.int .i64 t] w fun e w'=>e = .returned (.int .i64 (-1))∧w=w':=by
 have HH:=Zh H;have HN:=Zh hn;have HT:=Zh ht;clear H hn ht;go_enter Tryz.func74,Tryz.ntmps74;go_wp2_with fail;go_loop [8] (fun i=>∃k:Nat,k≤n∧i = .int .i64 k) (fun i=>n-(intOf i).toNat)
 case atStart=>exact⟨0,by omega,rfl⟩
 case round=>
  obtain⟨k,hk,rfl⟩:=hrel;by_cases hlt:k<n
  ·have hkl:k<l.length:=(by have:=HN.out;omega);obtain⟨b,o,rfl,hb,hc⟩:=cell_int HH.out hkl;have hq:(t==l[k])=false:=beq_eq_false_iff_ne.2 (fun e=>HT.out (e▸List.getElem_mem hkl));go_wp2;go_round
   case rel=>exact⟨k+1,by omega,by go_num⟩
   case measure=>simp[intOf];omega
  ·go_wp2;go_ret;exact⟨rfl,rfl⟩
theorem contains_any(l:List Int)(t:Int)(A:Option Addr)(n c:Nat)(w:World)(hn:l.length=n)(hn2:n≤1000000)(H:kI.Holds w w.heap.size A l):
 Calls Tryz.prog 73 #[.slice A n c,.int .i64 t] w fun e w'=>e = .returned (.bool (decide (t∈l)))∧w=w':=by
 have HH:=Zh H;have HN:=Zh hn;clear H hn;by_cases ht:t∈l
 ·have HT:=Zh ht;have HD:=Zh (decide_eq_true ht);clear ht;go_enter Tryz.func73,Tryz.ntmps73;go_wp2_with fail;refine(index_any l t A n c w HN.out hn2 HT.out HH.out).mono ?_;rintro e w' ⟨rfl,rfl⟩;go_wp2_with fail;go_ret;exact⟨ret_bool HD.out.symm,rfl⟩
 ·have HT:=Zh ht;have HD:=Zh (decide_eq_false ht);clear ht;go_enter Tryz.func73,Tryz.ntmps73;go_wp2_with fail;refine(index_no l t A n c w HN.out hn2 HT.out HH.out).mono ?_;rintro e w' ⟨rfl,rfl⟩;go_wp2_with fail;go_ret;exact⟨ret_bool HD.out.symm,rfl⟩
structure Box(w:World)(C g:Nat)(l:List Nd)(cur:Int):Prop where
 ge:C≤g
 at_:∃nd A n c A2 n2 c2,NdB w g nd A n c A2 n2 c2∧kI.Own w C (.slice A2 n2 c2) nd.kids∧(hasL l cur=true→nd.id=cur∧nd.par=parOf l cur∧nd.kids=kidsOf l cur)
theorem wf_kids(hwf:WF x.d){w:World}(h:Dc w B p x){k:Nat}(hk:k<x.rs.length){i:Int}(hy:x.rs[k].nd.id=i):x.rs[k].nd.id=i∧x.rs[k].nd.par=parOf x.l i∧x.rs[k].nd.kids=kidsOf x.l i∧x.rs[k].nd.attrs.length≤1000∧x.rs[k].nd.kids.length≤1000:=by
 have h1:=tag_at h hk hy;have h2:=nd_kids h hwf hk;exact⟨hy,h1.2.1.symm,h1.2.2.symm,h2.1,h2.2.1⟩
def zNd:Nd:=⟨0,0,⟨#[]⟩,⟨#[]⟩,⟨#[]⟩,[],[],0⟩
def UpRel(w:World)(x:Dx)(i:Int)(N:Nat)(s5 s6 s7:Value)(wr:World):Prop:=∃(g j:Nat) (ok:Bool) (acc:List Int),s6 = .pointer (some ⟨g,0,none⟩)∧s7 = .bool ok∧acc.length=j∧j≤N+1∧Hid (ok=hasL x.l (it (parOf x.l) j i))∧Hid (Box wr w.heap.size g x.l (it (parOf x.l) j i))∧Hid (kI.Own wr w.heap.size s5 acc)∧Hid (aboveL x.l i=acc++up (hasL x.l) (parOf x.l) (N+1-j) (it (parOf x.l) j i))∧Hid (0<j→hasL x.l i=true)∧Hid (Below w.heap.size w wr)
theorem pup_any(i:Int)(w:World)(hwf:WF x.d)(h:Dc w B p x):Calls Tryz.prog 162 #[.pointer (some ⟨p,0,none⟩),.int .i64 i] w (GotInts w (aboveL x.l i)):=by
 have H:=Zh h;have HWF:=Zh hwf;obtain⟨N,hN⟩:∃N,x.rs.length=N:=⟨_,rfl⟩;have HAB:Hid (aboveL x.l i=up (hasL x.l) (parOf x.l) (N+1) i):=Zh (by unfold aboveL;rw[l_len,hN]);have hN2:N≤1000:=(by have:=hwf.len200;rw[show x.d.l=x.l from rfl,l_len] at this;omega);have HST:Hid (∀j,hasL x.l (it (parOf x.l) j i)=true→hasL x.l i=true→j≤N):=Zh (fun j hj hi=>by
  obtain⟨k,hk⟩:=hwf.tr.dep i;have hkl:=hwf.tr.dep_le (L:=idsOf x.l) (fun y hy=>has_ids.1 hy) hi hk;have hkn:k≤N:=(by rw[←hN];simpa[idsOf,Dx.l] using hkl);rcases Nat.lt_or_ge j k with e|e
  ·omega
  ·have h0:=hwf.tr.it_ge hk.1 e;rw[show parOf x.d.l=parOf x.l from rfl] at h0;rw[h0] at hj;have:=hwf.no0;rw[show hasL x.d.l 0=hasL x.l 0 from rfl,hj] at this;cases this)
 clear h hwf hN;have NODE:Hid (∀(W:World) (y:Int),Below w.heap.size w W→Calls Tryz.prog 164 #[.pointer (some ⟨p,0,none⟩),.int .i64 y] W fun e w'=>∃(nd:Nd) (A:Option Addr) (n c:Nat) (A2:Option Addr) (n2 c2:Nat) (ok:Bool),e = .returned (.tuple #[.agg #[.int .i64 nd.id,.int .i64 nd.par,.string nd.tag,.string nd.txt,.string nd.key,.slice A n c,.slice A2 n2 c2,.int .i64 nd.note],.bool ok])∧ok=hasL x.l y∧kI.Own w' W.heap.size (.slice A2 n2 c2) nd.kids∧(hasL x.l y=true→nd.id=y∧nd.par=parOf x.l y∧nd.kids=kidsOf x.l y)∧Below W.heap.size W w'):=Zh (fun W y hb=>by
  have HX:=H.out.below hb;cases hy:hasL x.l y with
  |true=>
   obtain⟨k,hk,e,_⟩:=HX.place hy;obtain⟨q1,q2,q3,q4,q5⟩:=wf_kids HWF.out HX hk e;refine(pnode_yes y W hk e rfl q4 q5 HX).mono ?_;rintro e w' ⟨A,n,c,A2,n2,c2,rfl,_,o,b⟩;exact⟨_,A,n,c,A2,n2,c2,true,rfl,rfl,o,fun _=>⟨q1,q2,q3⟩,b⟩
  |false=>
   refine(pnode_no y W hy HX).mono ?_;rintro e w' ⟨rfl,b⟩;exact⟨zNd,none,0,0,none,0,0,false,rfl,rfl,Kind.Own.nil _ _ _,fun h=>(by cases h),b⟩)
 go_enter Tryz.func162,Tryz.ntmps162;go_wp2_with fail;refine(NODE.out w i Ze).mono ?_;rintro e w1 ⟨nd,A,n,c,A2,n2,c2,ok,rfl,hok,o1,hnd,b1⟩;have BX:Hid (Box (w1.alloc (.cells #[.int .i64 nd.id,.int .i64 nd.par,.string nd.tag,.string nd.txt,.string nd.key,.slice A n c,.slice A2 n2 c2,.int .i64 nd.note] 48)) w.heap.size w1.heap.size x.l i):=Zh ⟨b1.size,nd,A,n,c,A2,n2,c2,NdB.new _ _ _ _ _ _ _ _,o1.alloc _,hnd⟩;have B1:Hid (Below w.heap.size w (w1.alloc (.cells #[.int .i64 nd.id,.int .i64 nd.par,.string nd.tag,.string nd.txt,.string nd.key,.slice A n c,.slice A2 n2 c2,.int .i64 nd.note] 48))):=Zh (b1.alloc b1.size _);have HOK:=Zh hok;clear o1 hnd b1 hok
 go_upto_block 0 with fail
 generalize w1.alloc (.cells #[.int .i64 nd.id,.int .i64 nd.par,.string nd.tag,.string nd.txt,.string nd.key,.slice A n c,.slice A2 n2 c2,.int .i64 nd.note] 48)=W1 at BX B1⊢;generalize w1.heap.size=g1 at BX⊢;go_wp2_with fail;go_loopw [5,6,7] (fun s5 s6 s7 wr=>UpRel w x i N s5 s6 s7 wr) (fun s5 _ _ _=>match s5 with| .slice _ n _=>N+1-n|_=>0)
 case atStart=>exact⟨g1,0,ok,[],rfl,rfl,rfl,by omega,HOK,BX,Zh (Kind.Own.nil _ _ _),Zh (by rw[HAB.out];rfl),Zh (fun h=>absurd h (by omega)),B1⟩
 case round=>
  obtain⟨g,j,ok,acc,rfl,rfl,hacc,hj,HOKJ,HBX,HO,HU,H0,HB⟩:=hrel;have HACC:=Zh hacc;clear hacc;obtain⟨A5,n5,c5,rfl,h5,_⟩:=HO.out.slice;obtain rfl:n5=j:=by rw[←h5];exact HACC.out
  clear h5;cases ok with
  |false=>
   have HE:Hid (aboveL x.l i=acc):=Zh (by rw[HU.out,up_stop HOKJ.out.symm,List.append_nil]);go_wp2_with fail;go_ret;rw[HE.out];exact⟨_,_,_,rfl,HO.out,HB.out⟩
  |true=>
   have hi:hasL x.l i=true:=by
    by_cases e:0<n5
    ·exact H0.out e
    ·obtain rfl:n5=0:=by omega
     exact HOKJ.out.symm
   have hjN:=HST.out n5 HOKJ.out.symm hi;have HI:=Zh hi;have HUP:Hid (aboveL x.l i=(acc++[it (parOf x.l) n5 i])++up (hasL x.l) (parOf x.l) (N+1-(n5+1)) (it (parOf x.l) (n5+1) i)):=Zh (by
    rw[HU.out,show N+1-n5=(N+1-(n5+1))+1 by omega,up_step HOKJ.out.symm,it_succ];simp)
   obtain⟨nd,A,n,c,A2,n2,c2,nb,o2,hnd⟩:=HBX.out.at_;obtain⟨q1,q2,q3⟩:=hnd HOKJ.out.symm;have HGE:=Zh HBX.out.ge;have NB:=Zh nb;have OK2:=Zh o2;have Q1:=Zh q1;have Q2:Hid (nd.par=it (parOf x.l) (n5+1) i):=Zh (by rw[it_succ];exact q2);have z0:=nb.c0;have hzr:=HB.out.size;clear hi nb o2 hnd q1 q2 q3;go_upto_region 6 with(at_builtin;refine kI.wp_app rfl _ _ rfl (v:=.slice A5 n5 c5) (l:=acc) (m:=[nd.id]) (B:=w.heap.size) rfl (HO.out.alloc _) rfl rfl (fun e=>by cases e) (Kind.Holds.lit (heap_alloc_new _ _) rfl) (by have:=HACC.out;simp;omega) (by simp;omega) ?_;intro v' w3 hown hgrow hat;obtain⟨A6,n6,c6,rfl,h6,_,_,_,_⟩:=hown.slice);have HO3:Hid (kI.Own w3 w.heap.size (.slice A6 n6 c6) (acc++[it (parOf x.l) n5 i])):=Zh (by rw[←Q1.out];exact hown);have HN6:Hid (n6=n5+1):=Zh (by rw[←h6,List.length_append,HACC.out];rfl);have hB3:But (fun k=>(Value.slice A5 n5 c5).ownBlock=some k) wr w3:=((But.refl _ wr).alloc _).trans (But.of_grown (S:=fun k=>(Value.slice A5 n5 c5).ownBlock=some k) hgrow (fun g hg _=>hg)) (fun _ _ h=>h);have HB3:Hid (Below w.heap.size w w3):=Zh ((HB.out.alloc hzr _).grown hgrow (by simp;omega) (fun k hk=>(HO.out.lt hk).1));have N3:Hid (NdB w3 g nd A n c A2 n2 c2):=Zh (NB.out.by_ hB3 (fun e=>by obtain⟨d,hd⟩:=HO.out.ty e;exact heap_ne hd NB.out (by decide) rfl));clear hown hgrow hat hB3 h6 z0;have z0:=N3.out.c0;have z1:=N3.out.c1;have z2:=N3.out.c2;have z3:=N3.out.c3;have z4:=N3.out.c4;have z5:=N3.out.c5;have z6:=N3.out.c6;have z7:=N3.out.c7;have N4:Hid (NdB (w3.alloc (.cells #[.int .i64 nd.id,.int .i64 nd.par,.string nd.tag,.string nd.txt,.string nd.key,.slice A n c,.slice A2 n2 c2,.int .i64 nd.note] 48)) w3.heap.size nd A n c A2 n2 c2):=Zh (NdB.new _ _ _ _ _ _ _ _);have B4:Hid (Below w.heap.size w (w3.alloc (.cells #[.int .i64 nd.id,.int .i64 nd.par,.string nd.tag,.string nd.txt,.string nd.key,.slice A n c,.slice A2 n2 c2,.int .i64 nd.note] 48))):=Zh (HB3.out.alloc HB3.out.size _);have O4:=Zh (HO3.out.alloc (.cells #[.int .i64 nd.id,.int .i64 nd.par,.string nd.tag,.string nd.txt,.string nd.key,.slice A n c,.slice A2 n2 c2,.int .i64 nd.note] 48));have G4:Hid (w.heap.size≤w3.heap.size):=Zh HB3.out.size;go_upto_region 4 with fail;generalize w3.alloc (.cells #[.int .i64 nd.id,.int .i64 nd.par,.string nd.tag,.string nd.txt,.string nd.key,.slice A n c,.slice A2 n2 c2,.int .i64 nd.note] 48)=w4 at N4 B4 O4⊢;generalize w3.heap.size=g4 at N4 G4⊢;clear z0 z1 z2 z3 z4 z5 z6 z7 N3 HB3 HO3;have y1:=N4.out.c1;go_wp2_with fail;refine(NODE.out w4 nd.par B4.out).mono ?_;rintro e w5 ⟨nd',A',n',c',A2',n2',c2',ok',rfl,hok',o5,hnd',b5⟩;have N5:=Zh (N4.out.below b5 N4.out.lt);have B5:=Zh (B4.out.trans (b5.mono B4.out.size));have O5:=Zh (O4.out.below b5 (Zl));have HOK5:=Zh hok';have HN5:=Zh hnd';have K5:=Zh o5;have hg5:g4<w4.heap.size:=N4.out.lt;clear hok' hnd' o5 b5 y1;have u0:=N5.out.c0;have f0:=N5.out.frozen 0;have u1:=N5.out.c1;have f1:=N5.out.frozen 1;have u2:=N5.out.c2;have f2:=N5.out.frozen 2;have u3:=N5.out.c3;have f3:=N5.out.frozen 3;have u4:=N5.out.c4;have f4:=N5.out.frozen 4;have u5:=N5.out.c5;have f5:=N5.out.frozen 5;have u6:=N5.out.c6;have f6:=N5.out.frozen 6;have u7:=N5.out.c7;have f7:=N5.out.frozen 7;have N6:Hid (NdB ((((((((w5.setCell ⟨g4,0,none⟩ (.int .i64 nd'.id)).setCell ⟨g4,1,none⟩ (.int .i64 nd'.par)).setCell ⟨g4,2,none⟩ (.string nd'.tag)).setCell ⟨g4,3,none⟩ (.string nd'.txt)).setCell ⟨g4,4,none⟩ (.string nd'.key)).setCell ⟨g4,5,none⟩ (.slice A' n' c')).setCell ⟨g4,6,none⟩ (.slice A2' n2' c2')).setCell ⟨g4,7,none⟩ (.int .i64 nd'.note)) g4 nd' A' n' c' A2' n2' c2'):=Zh (N5.out.set8 (nd':=nd'));have BT6:Hid (But (fun k=>k=g4) w5 ((((((((w5.setCell ⟨g4,0,none⟩ (.int .i64 nd'.id)).setCell ⟨g4,1,none⟩ (.int .i64 nd'.par)).setCell ⟨g4,2,none⟩ (.string nd'.tag)).setCell ⟨g4,3,none⟩ (.string nd'.txt)).setCell ⟨g4,4,none⟩ (.string nd'.key)).setCell ⟨g4,5,none⟩ (.slice A' n' c')).setCell ⟨g4,6,none⟩ (.slice A2' n2' c2')).setCell ⟨g4,7,none⟩ (.int .i64 nd'.note))):=Zh (setOne (setOne (setOne (setOne (setOne (setOne (setOne (setOne (But.refl _ _)))))))))
   go_upto_block 0 with fail
   generalize ((((((((w5.setCell ⟨g4,0,none⟩ (.int .i64 nd'.id)).setCell ⟨g4,1,none⟩ (.int .i64 nd'.par)).setCell ⟨g4,2,none⟩ (.string nd'.tag)).setCell ⟨g4,3,none⟩ (.string nd'.txt)).setCell ⟨g4,4,none⟩ (.string nd'.key)).setCell ⟨g4,5,none⟩ (.slice A' n' c')).setCell ⟨g4,6,none⟩ (.slice A2' n2' c2')).setCell ⟨g4,7,none⟩ (.int .i64 nd'.note))=w6 at N6 BT6⊢;have B6:Hid (Below w.heap.size w w6):=Zh (B5.out.trans (BT6.out.to_below (fun k _ e=>by have:=G4.out;omega) B5.out.size));have O6:Hid (kI.Own w6 w.heap.size (.slice A6 n6 c6) (acc++[it (parOf x.l) n5 i])):=Zh (O5.out.but BT6.out (fun k hk e=>by obtain⟨d,hd⟩:=O5.out.ty hk;exact heap_ne hd (e▸N5.out) (by decide) rfl));have K6:Hid (kI.Own w6 w.heap.size (.slice A2' n2' c2') nd'.kids):=Zh ((K5.out.but BT6.out (fun k hk e=>by obtain⟨d,hd⟩:=K5.out.ty hk;exact heap_ne hd (e▸N5.out) (by decide) rfl)).base_le B4.out.size);clear u0 u1 u2 u3 u4 u5 u6 u7 f0 f1 f2 f3 f4 f5 f6 f7;go_wp2_with fail;go_roundw
   case rel=>exact⟨g4,n5+1,ok',acc++[it (parOf x.l) n5 i],rfl,rfl,by rw[List.length_append,HACC.out];rfl,by omega,Zh (by rw[←Q2.out];exact HOK5.out),Zh ⟨G4.out,nd',A',n',c',A2',n2',c2',N6.out,K6.out,by rw[←Q2.out];exact HN5.out⟩,O6,HUP,Zh (fun _=>HI.out),B6⟩
   case measure=>rw[HN6.out];omega
theorem pinside_any(a b:Int)(w:World)(hwf:WF x.d)(h:Dc w B p x):Calls Tryz.prog 157 #[.pointer (some ⟨p,0,none⟩),.int .i64 a,.int .i64 b] w fun e w'=>e = .returned (.bool (inside x.l a b))∧Below w.heap.size w w':=by
 have H:=Zh h;have HWF:=Zh hwf;have hl:(aboveL x.l a).length≤1000000:=by
  have h1:∀(f:Nat) (i:Int),(up (hasL x.l) (parOf x.l) f i).length≤f:=by
   intro f
   induction f with
   |zero=>intro i;simp[up]
   |succ f ih=>intro i;rw[up];split<;>simp;exact ih _
  have h2:=h1 (x.l.length+1) a;have h3:=hwf.len200;rw[show x.d.l=x.l from rfl] at h3;unfold aboveL;omega
 have HL:=Zh hl;clear h hwf hl;go_enter Tryz.func157,Tryz.ntmps157;go_wp2_with fail;refine(pup_any a w HWF.out H.out).mono ?_;rintro e w1 ⟨A,n,c,rfl,o1,b1⟩;obtain⟨g1,_,_,_,g5⟩:=own_nil_zero o1 rfl;have B1:=Zh b1;have G1:=Zh g1;have G5:=Zh g5;clear o1 b1 g1 g5;go_wp2_with fail;refine(contains_any (aboveL x.l a) b A n c w1 G1.out (by rw[←G1.out];exact HL.out) G5.out).mono ?_;rintro e w' ⟨rfl,rfl⟩;go_wp2_with fail;go_ret;exact⟨rfl,B1.out⟩
variable{B p:Nat}{x:Dx}
variable{B q:Nat}{y:Rx}
end P6
namespace P5
open Go.RowKit Kd P4
variable{B p:Nat}{x:Dx}
def FewM(most:Nat)(w:World)(l:List RE)(e:Ending)(w':World):Prop:=
 ∃f:Int,e = .returned (.int .i64 f)∧(f=0∨f=1∧l.length≤most∧∀r∈l,r.va.n≤20)∧Below w.heap.size w w'
theorem fewM_no{most:Nat}{w w':World}{l:List RE}(hb:Below w.heap.size w w'):FewM most w l (.returned (.int .i64 0)) w':=⟨0,rfl,.inl rfl,hb⟩
theorem fewM_any(most:Nat)(hmost:most≤1000000)(l:List RE)(A:Option Addr)(n c:Nat)(w:World)(hn:l.length=n)(hm:n≤maxLen)(H:kE.Holds w w.heap.size A l)(hd:∀r∈l,DeedOk w r):
 Calls Tryz.prog 5 #[.slice A n c,.int .i64 most] w (FewM most w l):=by
 unfold maxLen at hm;have HH:=Zh H;have HN:=Zh hn;have HD:=Zh hd;clear H hn hd;go_enter Tryz.func5,Tryz.ntmps5;go_wp2_with fail;go_loopw [5] (fun i wr=>∃k:Nat,k≤n∧k≤most∧i = .int .i64 k∧Hid (∀j (h:j<l.length),j<k→l[j].va.n≤20)∧Hid (Below w.heap.size w wr)) (fun i _=>n-(intOf i).toNat)
 case atStart=>exact⟨0,by omega,by omega,rfl,Zh (fun j _ h=>by omega),Zh Ze⟩
 case round=>
  obtain⟨k,hk,hkM,rfl,HS,HW⟩:=hrel;by_cases hlt:k<n
  ·by_cases hM:k<most
   ·have hkl:k<l.length:=(by have:=HN.out;omega);obtain⟨b,o,rfl,hb,g0,g1,g2,g3,g4,g5,g6,g7,g8,g9,g10,g11⟩:=cell_of_deeds (HH.out.on HW.out) hkl;have hdk:=(HD.out _ (List.getElem_mem hkl)).below HW.out;obtain⟨al,a1,a2,a3,a4,a5,a6⟩:=hdk.at_;have hz:=HW.out.size;have HL:Hid (l[k].va.n≤20→∀j (h:j<l.length),j<k+1→l[j].va.n≤20):=Zh (fun h20 j hj hjk=>by
     by_cases e:j=k
     ·subst e;exact h20
     ·exact HS.out j hj (by omega))
    generalize l[k]=d at g0 g1 g2 g3 g4 g5 g6 g7 g8 g9 g10 g11 hdk a1 a2 a3 a4 a5 HL;obtain⟨what,next,op,rid,par,bef,tag,txt,key,⟨vA,vn,vc⟩,id,dn⟩:=d;simp only at g0 g1 g2 g3 g4 g5 g6 g7 g8 g9 g10 g11 a1 a2 a3 a4 a5 HL;have t1:=hdk.tag;have t2:=hdk.txt;have t3:=hdk.key;simp only at t1 t2 t3;unfold maxLen at a3 t1 t2 t3;have A1:=Zh a1;have A5:=Zh a5;have BW:Hid (Below w.heap.size w (wr.alloc (.cells #[.int .i64 op,.int .i64 rid,.int .i64 par,.int .i64 bef,.string tag,.string txt,.string key,.slice vA vn vc] 71))):=Zh (HW.out.alloc hz _);clear hdk a1 a4 a5 a6;by_cases h1:100<tag.size
    ·go_wp2_with fail;go_ret;exact fewM_no BW.out
    ·by_cases h2:100<txt.size
     ·go_wp2_with fail;go_ret;exact fewM_no BW.out
     ·by_cases h3:100<key.size
      ·go_wp2_with fail;go_ret;exact fewM_no BW.out
      ·cases hf:P3.fewA al with
       |false=>
        have HF:Hid (P3.fewN al=0):=Zh (by unfold P3.fewN;rw[hf];rfl);clear hf;go_wp2_with fail;refine(P3.few_any al vA vn vc _ A1.out (by omega) (p3holds (A5.out.on (Zb _ _)))).mono ?_;rintro e w' ⟨rfl,rfl⟩;rw[HF.out];go_wp2_with fail;go_ret;exact fewM_no BW.out
       |true=>
        have HF:Hid (P3.fewN al=1):=Zh (by unfold P3.fewN;rw[hf];rfl);have h20:vn≤20:=(by unfold P3.fewA at hf;simp at hf;have:=A1.out;omega);clear hf;go_wp2_with fail;refine(P3.few_any al vA vn vc _ A1.out (by omega) (p3holds (A5.out.on (Zb _ _)))).mono ?_;rintro e w' ⟨rfl,rfl⟩;rw[HF.out];go_wp2_with fail;go_roundw
        case rel=>exact⟨k+1,by omega,by omega,by go_num,Zh (HL.out h20),BW⟩
        case measure=>simp[intOf];omega
   ·obtain rfl:k=most:=by omega
    go_wp2_with fail;go_ret;exact fewM_no HW.out
  ·obtain rfl:k=n:=by omega
   go_wp2_with fail;go_ret;refine⟨1,rfl,.inr ⟨rfl,by rw[HN.out];exact hkM,fun r hr=>?_⟩,HW.out⟩;obtain⟨j,hj,rfl⟩:=List.mem_iff_getElem.1 hr;exact HS.out j hj (by have:=HN.out;omega)
end P5
namespace P6
open Go.RowKit Kd P4 P5
theorem apply_R(d:D)(r:Rc):(applyD d r).2.R=d.R:=by
 unfold applyD;split
 ·unfold makeD;split<;>(try split)<;>rfl
 ·split
  ·unfold putD;split<;>rfl
  ·split
   ·unfold goneD;split<;>(try split)<;>rfl
   ·split
    ·unfold attrsD;split<;>(try split)<;>(try split)<;>rfl
    ·split
     ·unfold dataD;split<;>(try split)<;>(try split)<;>rfl
     ·rfl
def GrownR(R:Nat)(w:World)(e:Ending)(w':World):Prop:=∃(p q:Nat) (x:Dx) (y:Rx),e = .returned (.tuple #[.pointer (some ⟨p,0,none⟩),.pointer (some ⟨q,0,none⟩)])∧Par w' w.heap.size p q x y∧x.d=y.d∧WF x.d∧x.n≤2000∧x.d.R=R∧Below w.heap.size w w'
def GrRel(w:World)(p q m R:Nat)(i:Value)(wr:World):Prop:=∃(k:Nat) (x:Dx) (y:Rx),k≤m∧i = .int .i64 k∧x.n≤(k:Int)+1∧Hid (x.d.R=R)∧Hid (Par wr w.heap.size p q x y)∧Hid (x.d=y.d)∧Hid (WF x.d)∧Hid (Below w.heap.size w wr)
theorem Rf.base_le'{w:World}{B B' q:Nat}{y:Rx}(h:Rf w B q y)(hB:B'≤B):Rf w B' q y:=⟨h.blk,Nat.le_trans hB h.base,h.own.base_le hB,fun r hr=>⟨(h.nodes r hr).att,(h.nodes r hr).kids.base_le hB⟩⟩
theorem grownR_any(R:Nat)(hR1:1≤R)(hR2:R≤200)(ds:List RE)(A:Option Addr)(m c:Nat)(w:World)(hm:ds.length=m)(hm60:m≤1000)(h20:∀d∈ds,d.va.n≤20)(hwf:∀d∈ds,DeedOk w d)(H:kE.Holds w w.heap.size A ds):
 Calls Tryz.prog 8 #[.int .i64 R,.slice A m c] w (GrownR R w):=by
 have HH:=Zh H;have HM:=Zh hm;have HF:=Zh hwf;have H20:=Zh h20;clear H hm hwf h20;have q4:=nil_eql_nil;have q5:=nil_neq_nil;go_enter Tryz.func8,Tryz.ntmps8;go_wp2_with fail;refine(newDoc_yes R _ hR1 hR2).mono ?_;rintro e w2 ⟨p,x0,rfl,dc0,hd0,b2⟩;have D0:=Zh dc0;have E0:=Zh hd0;have B2:=Zh b2;have W0:Hid (WF x0.d):=Zh (by rw[hd0];exact wf_newD hR1 hR2);have N0:Hid (x0.n=1):=Zh (by
  have:x0.d.n=1:=(by rw[hd0];rfl);exact this)
 clear dc0 hd0 b2;go_wp2_with fail;refine(rnew_any R w2).mono ?_;rintro e w4 ⟨q,y0,rfl,rf4,hy4,b4⟩;have P4':Hid (Par w4 w.heap.size p q x0 y0):=Zh ⟨D0.out.below b4,Rf.base_le' rf4 B2.out.size,fun i hi hr=>by have:=D0.out.lt hi;have:=rf4.ge hr;omega⟩;have E4:Hid (x0.d=y0.d):=Zh (by rw[E0.out,hy4]);have B4:=Zh (B2.out.trans (b4.mono B2.out.size));clear rf4 hy4 b4;go_wp2_with fail;go_loopw [9] (fun i wr=>GrRel w p q m R i wr) (fun i _=>m-(intOf i).toNat)
 case atStart=>exact⟨0,x0,y0,by omega,rfl,by have:=N0.out;omega,Zh (by rw[E0.out];rfl),P4',E4,W0,B4⟩
 case round=>
  obtain⟨k,x,y,hk,rfl,hnk,HRR,HP,HE,HWF,HW⟩:=hrel;by_cases hkm:k<m
  ·have hkl:k<ds.length:=(by have:=HM.out;omega);obtain⟨b0,o0,rfl,hb0,g0,g1,g2,g3,g4,g5,g6,g7,g8,g9,g10,g11⟩:=cell_of_deeds (HH.out.on HW.out) hkl;have hdk:=Zh (HF.out _ (List.getElem_mem hkl));have h20k:ds[k].va.n≤20:=H20.out _ (List.getElem_mem hkl);generalize ds[k]=d at g0 g1 g2 g3 g4 g5 g6 g7 g8 g9 g10 g11 hdk h20k;have hn100:x.n≤100000:=(by omega);go_wp2_with fail;refine(rec_any d wr hn100 HP.out.dc).mono ?_;rintro e w4 ⟨rfl,b4⟩;generalize hrid:(if d.next=true∧d.op=1 then x.n+1 else d.rid)=rid;have B4:=Zh b4;obtain⟨al,a1,a2,a3,a4,a5,a6⟩:=hdk.out.at_;clear b4 hrid g0 g1 g2 g3 g4 g5 g6 g7 g8 g9 g10 g11;have BA:Hid (Below wr.heap.size wr (w4.alloc (.cells #[.int .i64 d.op,.int .i64 rid,.int .i64 d.par,.int .i64 d.bef,.string d.tag,.string d.txt,.string d.key,.slice d.va.A d.va.n d.va.c] 71))):=Zh (B4.out.alloc B4.out.size _);have NR:Hid (RcB (w4.alloc (.cells #[.int .i64 d.op,.int .i64 rid,.int .i64 d.par,.int .i64 d.bef,.string d.tag,.string d.txt,.string d.key,.slice d.va.A d.va.n d.va.c] 71)) w4.heap.size ⟨d.op,rid,d.par,d.bef,d.tag,d.txt,d.key,al⟩ d.va.A d.va.n d.va.c):=Zh (RcB.new w4 ⟨d.op,rid,d.par,d.bef,d.tag,d.txt,d.key,al⟩ d.va.A d.va.n d.va.c);go_upto_region 9 with fail;generalize w4.alloc (.cells #[.int .i64 d.op,.int .i64 rid,.int .i64 d.par,.int .i64 d.bef,.string d.tag,.string d.txt,.string d.key,.slice d.va.A d.va.n d.va.c] 71)=wb at BA NR⊢;generalize w4.heap.size=g at NR⊢;have HPa:=Zh (HP.out.below BA.out);have WAa:=Zh (HW.out.trans (BA.out.mono HW.out.size));have AR:Hid (∀w9,Below w.heap.size w w9→ArgR w9 d.va.A d.va.n d.va.c ⟨d.op,rid,d.par,d.bef,d.tag,d.txt,d.key,al⟩):=Zh (fun w9 hb=>⟨⟨a1,a2,a4,by omega,a6,a5.on hb⟩,hdk.out.tag,hdk.out.txt,hdk.out.key⟩);clear a1 a2 a3 a4 a5 a6 B4 BA;have r0:=NR.out.c0;have r1:=NR.out.c1;have r2:=NR.out.c2;have r3:=NR.out.c3;have r4:=NR.out.c4;have r5:=NR.out.c5;have r6:=NR.out.c6;have r7:=NR.out.c7;simp only at r0 r1 r2 r3 r4 r5 r6 r7;go_wp2_with fail;refine(apply_any ⟨d.op,rid,d.par,d.bef,d.tag,d.txt,d.key,al⟩ d.va.A d.va.n d.va.c wb HWF.out hn100 (AR.out _ WAa.out) HPa.out.dc).mono ?_;rintro e w5 ⟨rfl,x5,d5,hx5⟩;have P5:=Zh (HPa.out.did d5);have NR5:=Zh (NR.out.did HPa.out.dc d5);have HX5:=Zh hx5;have W5:=Zh (WAa.out.trans (d5.to_below HPa.out.dc));generalize errV (applyD x.d ⟨d.op,rid,d.par,d.bef,d.tag,d.txt,d.key,al⟩).1=ev5;clear d5 hx5 r0 r1 r2 r3 r4 r5 r6 r7;have r0:=NR5.out.c0;have r1:=NR5.out.c1;have r2:=NR5.out.c2;have r3:=NR5.out.c3;have r4:=NR5.out.c4;have r5:=NR5.out.c5;have r6:=NR5.out.c6;have r7:=NR5.out.c7;simp only at r0 r1 r2 r3 r4 r5 r6 r7;go_wp2_with fail;refine(rapply_any ⟨d.op,rid,d.par,d.bef,d.tag,d.txt,d.key,al⟩ d.va.A d.va.n d.va.c w5 (by rw[←HE.out];exact HWF.out) (by have h1:=congrArg D.n HE.out;have h2:x.n=y.n:=h1;omega) hdk.out.tag hdk.out.txt hdk.out.key (AR.out _ W5.out).at_ P5.out.rf).mono ?_;rintro e w6 ⟨rfl,y6,d6,hy6⟩;have P6:=Zh (P5.out.rdid d6);have HY6:=Zh hy6;have W6:=Zh (W5.out.trans (d6.to_below P5.out.rf));have hn5:x5.n≤((k+1:Nat):Int)+1:=(by have h1:=congrArg D.n HX5.out;have h2:=(apply_n x.d ⟨d.op,rid,d.par,d.bef,d.tag,d.txt,d.key,al⟩).2;rw[←h1] at h2;have h3:x5.n≤x.n+1:=h2;omega);clear d6 hy6 r0 r1 r2 r3 r4 r5 r6 r7;go_wp2_with fail;go_roundw
   case rel=>exact⟨k+1,x5,y6,by omega,by go_num,hn5,Zh (by rw[HX5.out,apply_R];exact HRR.out),P6,Zh (by rw[HX5.out,HY6.out,HE.out]),Zh (by rw[HX5.out];exact wf_apply HWF.out _),W6⟩
   case measure=>simp[intOf];omega
  ·obtain rfl:k=m:=by omega
   go_wp2_with fail;go_ret2;exact⟨p,q,x,y,rfl,HP.out,HE.out,HWF.out,by omega,HRR.out,HW.out⟩
end P6
namespace P18
open Go.RowKit Kd P4 P5 P11 P12 P13 P14
def NodesC:Prop:=∀(ts:List WV) (A:Option Addr) (n c:Nat) (w:World),Wm kW w A n c ts→wtL (erL ts)≤1000→Calls Tryz.prog 16 #[.slice A n c] w fun e w'=>e = .returned (.int .i64 (cntL (erL ts):Nat))∧Below w.heap.size w w'
end P18
namespace P19
open Go.RowKit Kd P4 P5 P6 P7 P8 P11 P12 P13 P14 P16
theorem wt19{l:List P11.In}(h:checkP l=0):wtL (wantP l)≤120:=by
 have h1:=want_back h;have h2:=wt_back h1.2;rw[h1.1] at h2;have:=(check_first h).1;omega
def eT:TV:=.mk ⟨#[]⟩ ⟨#[]⟩ ⟨#[]⟩ ⟨none,0,0⟩ [] ⟨none,0,0⟩ []
def vT(tg:ByteArray)(g:Nat):TV:=.mk tg ⟨#[]⟩ ⟨#[]⟩ ⟨none,0,0⟩ [] ⟨some ⟨g,0,none⟩,1,1⟩ [eT]
def vP(tg:ByteArray):PT:=.mk tg ⟨#[]⟩ ⟨#[]⟩ [] [.mk ⟨#[]⟩ ⟨#[]⟩ ⟨#[]⟩ [] []]
theorem er_v(tg:ByteArray)(g:Nat):er (vT tg g)=vP tg:=rfl
theorem may_v{tg:ByteArray}(h0:tg.toList.isEmpty=false)(h:mayP (vP tg)=true):noKids tg=false:=by
 unfold vP at h;rw[mayP,if_neg (by rw[h0];decide)] at h;simp only[Bool.and_eq_true,List.isEmpty_cons,Bool.not_false,Bool.and_true,Bool.not_eq_true'] at h;unfold noKids;rw[h.1.2];simp only[Bool.or_false,decide_eq_false_iff_not];intro e;rw[e] at h0;cases h0
theorem may_call{tg:ByteArray}(hs:tg.size≤100)(g:Nat)(w:World)(h:w.heap[g]? = some (.cells #[.string ⟨#[]⟩,.string ⟨#[]⟩,.string ⟨#[]⟩,.slice none 0 0,.slice none 0 0] 56 (0,0))):
 Calls Tryz.prog 17 #[.agg #[.string tg,.string ⟨#[]⟩,.string ⟨#[]⟩,.slice none 0 0,.slice (some ⟨g,0,none⟩) 1 1]] w fun e w'=>e = .returned (.bool (mayP (vP tg)))∧Below w.heap.size w w':=by
 have:=rmay8_any (vT tg g) w (.mk rfl (Zl) (fun _=>rfl) (Kind.Holds.nil _ _ _) rfl (Zl) (fun e=>by cases e) ((Kind.Holds.lit h rfl).more (heap_lt h)) (fun k hk=>by
  rcases List.mem_singleton.1 hk with rfl;exact .mk rfl (Zl) (fun _=>rfl) (Kind.Holds.nil _ _ _) rfl (Zl) (fun _=>rfl) (Kind.Holds.nil _ _ _) (fun k hk=>by cases hk)))
  (by rw[er_v];unfold vP;simp[fewP,fewL,P3.fewA,hs,(by decide:(⟨#[]⟩:ByteArray).size≤100)]) (by rw[er_v];unfold vP;simp[countP,countL])
 rw[er_v] at this;exact this
theorem patches19_any(KC:WalkC)(KO:WOfC)(KN:P18.NodesC)(ds:List RE)(focus parent beh:Int)(ids:List Int)(l:List P11.In)(A:Option Addr)(m c:Nat)(A1:Option Addr)(n1 c1:Nat)(A2:Option Addr)(n2 c2:Nat)(w:World)(hm:ds.length=m)(hmc:m≤c)(hcm:c≤maxLen)(hwf:∀d∈ds,DeedOk w d)(H:kE.Holds w w.heap.size A ds)
 (hn1:ids.length=n1) (hc1:n1≤c1) (hm1:c1≤maxLen) (hz1:A1=none→c1=0) (H1:kI.Holds w w.heap.size A1 ids) (hn2:l.length=n2) (hc2:n2≤c2) (hm2:c2≤maxLen) (H2:kX.Holds w w.heap.size A2 l):
 Calls Tryz.prog 3 #[.slice A m c,.int .i64 focus,.int .i64 parent,.slice A1 n1 c1,.int .i64 beh,.slice A2 n2 c2] w fun e w'=>e = .returned (.bool true)∧Below w.heap.size w w':=by
 have HK:=Zh KC;have HO:=Zh KO;have HNd:=Zh KN;have HH:=Zh H;have HM:=Zh hm;have HF:=Zh hwf;have HH1:=Zh H1;have HN1:=Zh hn1;have HC1:Hid (n1≤c1∧c1≤maxLen∧(A1=none→c1=0)):=Zh ⟨hc1,hm1,hz1⟩;have HH2:=Zh H2;have HN2:=Zh hn2;have HC2:Hid (n2≤c2∧c2≤maxLen):=Zh ⟨hc2,hm2⟩;have hmx:m≤maxLen:=(by omega);have hmx2:n2≤maxLen:=(by omega);have q1:=err_eql_nil;have q2:=err_eql;have q3:=err_neq_nil;have q4:=nil_eql_nil;have q5:=nil_neq_nil;clear H hm hwf H1 hn1 hc1 hm1 hz1 H2 hn2 hc2 hm2 KC KO KN;go_enter Tryz.func3,Tryz.ntmps3;go_wp2_with fail;refine(up19_any HK.out _).mono ?_;rintro e w1 ⟨rfl,b1⟩;have B1:=Zh b1;clear b1;go_wp2_with fail;refine(fewM_any 40 (by omega) ds A m c _ HM.out hmx (HH.out.on B1.out) (fun d hd=>(HF.out d hd).below B1.out)).mono ?_;rintro e w2 ⟨f,rfl,hf,b2⟩;have B2:=Zh (B1.out.trans (b2.mono B1.out.size));clear b2;rcases hf with rfl|⟨rfl,hm40,h20⟩
 ·go_wp2_with fail;go_ret;exact⟨rfl,B2.out⟩
 by_cases h40:40<n1
 ·go_wp2_with fail;go_ret;exact⟨rfl,B2.out⟩
 rw[HM.out] at hm40;have H20:=Zh h20;clear h20;go_wp2_with fail;refine(fewX_any l A2 n2 c2 w2 HN2.out hmx2 (HH2.out.on B2.out)).mono ?_;rintro e w2' ⟨hfw,rfl⟩;rcases hfw with rfl|⟨rfl,hl150,hl300⟩
 ·go_wp2_with fail;go_ret;exact⟨rfl,B2.out⟩
 have HL3:=Zh hl300;have hn150:n2≤150:=(by have:=HN2.out;omega);clear hl150 hl300;go_wp2_with fail;refine(HO.out l A2 n2 c2 w2 (HH2.out.on B2.out) HN2.out HC2.out.1 HC2.out.2 (by omega) HL3.out).mono ?_;rintro e w3 ⟨A3,n3,c3,ts,rfl,hts,wm3,b3⟩;have B3:=Zh (B2.out.trans (b3.mono B2.out.size));have W3:=Zh wm3;have TS:=Zh hts;clear b3 wm3 hts HL3 HO;go_wp2_with fail;refine(grownR_any 200 (by omega) (by omega) ds A m c w3 HM.out (by omega) H20.out (fun d hd=>(HF.out d hd).below B3.out) (HH.out.on B3.out)).mono ?_;rintro e w4 ⟨p,q,x,y,rfl,hp,he,hwf,hn,hR,b4⟩;have HR:=Zh hR;clear hR;have B4:=Zh (B3.out.trans (b4.mono B3.out.size));have W4:=Zh (W3.out.on b4);have P4':=Zh hp;have E4:=Zh he;have WX:=Zh hwf;have hw34:=b4.size;have WF3:Hid (∀t∈ts,WOk kW w3 w3.heap.size t):=Zh W3.out.ok;have WH3:Hid (kW.Holds w3 w3.heap.size A3 ts):=Zh W3.out.holds;have B34:=Zh b4;clear hp he hwf b4 H20 HF HH HM hm40 hmx;have HNE:Hid (∀v:Nat,v≠0→errV (v:Nat) = .iface 43 (.int .i64 (v:Nat))):=Zh (fun v hv=>by unfold errV;rw[if_neg (by omega)]);by_cases hck:checkP l≠0
 ·rw[HNE.out _ hck];go_wp2_with fail;go_ret;exact⟨rfl,B4.out⟩
 replace hck:checkP l=0:=Decidable.not_not.1 hck
 rw[hck] at TS⊢;rw[if_pos rfl] at TS;rw[show errV ((0:Nat):Int) = .nilIface from rfl];have WW:Hid (∀t∈erL ts,WfW t):=Zh (by rw[TS.out];exact(want_back hck).2);have GG:Hid (∀t∈erL ts,GoW t):=Zh (by rw[TS.out];exact fun t ht=>goW_of (P17.good_all hck t ht));have WT:wtL (erL ts)≤120:=(by rw[TS.out];exact wt19 hck);have SZ:szL (erL ts)≤120:=Nat.le_trans (szL_wt _) WT;clear hck HNE TS;obtain⟨cF,hcF⟩:∃cF,(focusD x.d focus).1=cF:=⟨_,rfl⟩;have WY:Hid (WF y.d):=Zh (by rw[←E4.out];exact WX.out);have HCF:=Zh hcF;clear hcF;go_wp2_with fail;refine(setFocus_c (c:=cF) focus w4 HCF.out P4'.out.dc).mono ?_;rintro e w5 ⟨rfl,x5,d5,hx5⟩;have P5':=Zh (P4'.out.did d5);have X5:=Zh hx5;have T5:=Zh (B34.out.trans (d5.to_below P4'.out.dc));clear d5 hx5;generalize errV cF=evF;go_wp2_with fail;refine(rfocus_c (c:=cF) focus w5 (by rw[←E4.out];exact HCF.out) WY.out P5'.out.rf).mono ?_;rintro e w6 ⟨rfl,y6,d6,hy6⟩;have P6':=Zh (P5'.out.rdid d6);have Y6:Hid (x5.d=y6.d):=Zh (by rw[X5.out,hy6,E4.out]);have WX6:Hid (WF x5.d):=Zh (by rw[X5.out];exact wf_focus WX.out focus);have WY6:Hid (WF y6.d):=Zh (by rw[←Y6.out];exact WX6.out);have T6:Hid (Below w3.heap.size w3 w6):=Zh (T5.out.trans (d6.to_below P5'.out.rf));have hn5:x5.n≤2000:=by
  have h1:x5.d.n=x.d.n:=(by rw[X5.out];unfold focusD;split<;>rfl);have h2:x5.n=x.n:=h1;omega
 clear d6 hy6 P5' T5 P4' HCF;go_wp2_with fail;refine(new_any (some ⟨p,0,none⟩) w6).mono ?_;rintro e w7 ⟨rfl,hw7⟩;have b67:Below w6.heap.size w6 w7:=(by rw[hw7];exact Zb _ _);have L7:Hid (Lg w7 w3.heap.size w6.heap.size p (.slice none 0 0) []):=Zh (by rw[hw7];exact Lg.new T6.out.size p);have P7':=Zh (P6'.out.below b67);have T7:=Zh (T6.out.trans (b67.mono T6.out.size));clear hw7 b67 P6' T6;generalize w6.heap.size=g at L7⊢;have LOW:Hid (∀w',But (pfoot p x5 g (.slice none 0 0)) w7 w'→Below w3.heap.size w7 w'):=Zh (fun w' hb=>hb.to_below (fun i _ hi=>by
  rcases hi with e|e
  ·exact P7'.out.dc.ge e
  ·exact L7.out.ge e) T7.out.size)
 have hw3:w.heap.size≤w3.heap.size:=B3.out.size;have CP:=Zh (HK.out.run w7 w3.heap.size g p x5 (.slice none 0 0) [] parent ids A1 n1 c1 beh A3 n3 c3 ts P7'.out.dc WX6.out (wf_may WX6.out) L7.out
  (fun w' hb=>HH1.out.on (B3.out.trans ((T7.out.trans (LOW.out w' hb)).mono hw3)))
  HN1.out HC1.out.1 HC1.out.2.1 HC1.out.2.2 (by omega) (fun w' hb=>W3.out.on (T7.out.trans (LOW.out w' hb))) WW.out (by omega) (by omega) (by simp;omega))
 go_wp2_with fail;refine CP.out.mono ?_;rintro e w8 ⟨code,x8,vd8,rs8,rfl,ld8,hno,hyes⟩;have P8':=Zh (P7.Par.ldid P7'.out L7.out ld8);have L8:=Zh ld8.lg;have T8:=Zh (T7.out.trans (LOW.out w8 ld8.but));have NO:=Zh hno;have YES:=Zh hyes;clear ld8 hno hyes CP LOW L7 P7';have CS:=Zh (stands_any parent ids A1 n1 c1 beh WY6.out P8'.out.rf (HH1.out.on (B3.out.trans (T8.out.mono hw3))) HN1.out (by omega));go_wp2_with fail;refine CS.out.mono ?_;rintro e w9 ⟨rst,rfl,hst,b9⟩;have P9':=Zh (P8'.out.below b9);have L9:=Zh (L8.out.below b9);have T9:=Zh (T8.out.trans (b9.mono T8.out.size));have hyl:y6.rs.length≤1000:=(by have:=WY6.out.len200;rw[show y6.d.l=y6.l from rfl,rl_len] at this;omega);clear b9 P8' L8 T8 CS;cases rst with
 |false=>
  have hns:¬StandsP y6.d.l parent ids beh:=fun h=>by have:=hst.2 h;cases this
  obtain⟨rfl,hx8,hr8⟩:=NO.out (by rw[Y6.out];exact hns);have hl8:rs8.length=0:=(by have:=congrArg List.length hr8;simpa using this);clear NO YES hx8 hr8;rw[empty_code rfl];by_cases hh:hasL y6.l parent=true
  ·obtain⟨k,hk,hy,_⟩:=rplace WY6.out.asc hh;have hk0:¬((k:Nat):Int)<0:=(by omega);go_wp2_with fail;refine(at_yes parent w9 WY6.out.asc hyl hk hy P9'.out.rf).mono ?_;rintro e wz ⟨rfl,rfl⟩;go_wp2_with fail;refine(all_any w9 (by omega) L9.out).mono ?_;rintro e w10 ⟨Az,nz,cz,rsz,rfl,oz,hmz,_,bz⟩;obtain⟨_,_,_,hvz,hlz,_⟩:=own_r oz;injection hvz with e1 e2 e3;subst e1;subst e2;subst e3;obtain rfl:nz=0:=by rw[←hlz,←hl8];have:=congrArg List.length hmz;simpa using this
   have B10:=Zh (B3.out.trans ((T9.out.trans (bz.mono T9.out.size)).mono hw3));go_wp2_with fail;go_ret;exact⟨by first|rfl|simp,B10.out⟩
  ·have hh:hasL y6.l parent=false:=(by cases e:hasL y6.l parent with|true=>exact absurd e hh|false=>rfl);go_wp2_with fail;refine(at_no parent w9 hyl hh P9'.out.rf).mono ?_;rintro e wz ⟨rfl,rfl⟩;by_cases hz:n1=0
   ·subst hz;have hbe:¬beh=0:=fun hb=>hns ((stands_none hh WY6.out).2 ⟨List.length_eq_zero_iff.1 HN1.out,hb⟩)
    go_wp2_with fail;refine(all_any w9 (by omega) L9.out).mono ?_;rintro e w10 ⟨Az,nz,cz,rsz,rfl,oz,hmz,_,bz⟩;obtain⟨_,_,_,hvz,hlz,_⟩:=own_r oz;injection hvz with e1 e2 e3;subst e1;subst e2;subst e3;obtain rfl:nz=0:=by rw[←hlz,←hl8];have:=congrArg List.length hmz;simpa using this
    have B10:=Zh (B3.out.trans ((T9.out.trans (bz.mono T9.out.size)).mono hw3));go_wp2_with fail;go_ret;exact⟨by first|rfl|simp,B10.out⟩
   ·
     go_wp2_with fail;refine(all_any w9 (by omega) L9.out).mono ?_;rintro e w10 ⟨Az,nz,cz,rsz,rfl,oz,hmz,_,bz⟩;obtain⟨_,_,_,hvz,hlz,_⟩:=own_r oz;injection hvz with e1 e2 e3;subst e1;subst e2;subst e3;obtain rfl:nz=0:=by rw[←hlz,←hl8];have:=congrArg List.length hmz;simpa using this
     have B10:=Zh (B3.out.trans ((T9.out.trans (bz.mono T9.out.size)).mono hw3));go_wp2_with fail;go_ret;exact⟨by first|rfl|simp,B10.out⟩
 |true=>
  have hs:=hst.1 rfl;clear NO;obtain⟨ev,hev⟩:∃ev,errV code=ev:=⟨_,rfl⟩;have EV:=Zh hev;rw[hev];clear hev;by_cases hh:hasL y6.l parent=true
  ·obtain⟨k,hk,hy,hx⟩:=rplace WY6.out.asc hh;have hk0:¬((k:Nat):Int)<0:=(by omega);go_wp2_with fail;refine(at_yes parent w9 WY6.out.asc hyl hk hy P9'.out.rf).mono ?_;rintro e wz ⟨rfl,rfl⟩;obtain⟨b,o,cl,Aa,na,ca,Ak,nk,ck,hv,hcl,hb,d0,LL,hva,hvk⟩:=P9'.out.rf.lies hk;obtain⟨nl,hnl⟩:∃nl,y6.rs.length=nl:=⟨_,rfl⟩;have hkn:k<nl:=(by omega);have hl2:nl≤200:=(by have:=WY6.out.len200;rw[show y6.d.l=y6.l from rfl,rl_len] at this;omega);rw[hnl] at d0 hcl;have QA:Hid (∀j,Calls Tryz.prog 14 #[.pointer (some ⟨q,0,none⟩),.int .i64 parent] (w9.drewN j) fun e w'=>e = .returned (.int .i64 k)∧∃m,w'=w9.drewN m):=Zh (fun j=>(at_yes parent _ WY6.out.asc hyl hk hy (P9'.out.rf.drewN j)).mono fun _ _ ⟨he,hw⟩=>⟨he,j,hw.symm⟩);have l2:=LL.c2;obtain⟨tg,htg⟩:∃tg,y6.rs[k].nd.tag=tg:=⟨_,rfl⟩;rw[htg] at l2;have HX:=Zh hx;have HH0:=Zh hh;have HTG:=Zh htg;have HS:=Zh hs;have HNL:=Zh hnl;clear hx htg hs hst LL hv hva hvk hnl hk0 hh;cases ht0:tg.toList.isEmpty with
   |true=>
    go_upto_region 20 with fail;go_quiet ((first|(go_at_call 14;exact QA.out _)));go_wp2_with fail;go_ret;exact⟨by first|rfl|simp,(B3.out.trans (T9.out.mono hw3)).trans (by exact Below_drewN Ze _)⟩
   |false=>
    go_upto_region 20 with fail;go_quiet ((first|(go_at_call 14;exact QA.out _)));go_upto_region 22 with fail;have CN:Hid (∀wz,Below w9.heap.size w9 wz→Calls Tryz.prog 16 #[.slice A3 n3 c3] wz fun e w'=>e = .returned (.int .i64 (cntL (erL ts):Nat))∧Below wz.heap.size wz w'):=Zh (fun wz hz=>HNd.out ts A3 n3 c3 wz (W3.out.on (T9.out.trans (hz.mono T9.out.size))) (by omega));have hwr:IntKind.i64.wrap ((200:Int)-(nl:Nat))=200-(nl:Nat):=(by rw[IntKind.wrap_i64];omega);have SK0:Hid (∀wz,Below w9.heap.size w9 wz→wz.cell? ⟨q,0,none⟩=some (.slice (some ⟨b,o,none⟩) nl cl)):=Zh (fun wz hz=>(hz.cell (P9'.out.rf.lt (.inl rfl))).trans d0);go_cut [127] (fun s wx=>s = .bool (decide ((200:Int)-(nl:Nat)<((cntL (erL ts):Nat):Int)))∧Hid (Below w9.heap.size w9 wx))
    case first=>
     go_region_held3 (fun w'=>w'.cell? ⟨q,0,none⟩=some (.slice (some ⟨b,o,none⟩) nl cl)) (first|go_keep|exact SK) ((first
     |(go_at_call 16;refine(CN.out _ (by first|exact Below_drewN Ze _|exact Below_drewN (Below_drewN Ze _) _)).mono ?_;rintro e wn ⟨rfl,bn⟩;have HB5:Hid (Below w9.heap.size w9 wn):=Zh (by first|exact(Below_drewN Ze _).trans (bn.mono (Zl))|exact(Below_drewN (Below_drewN Ze _) _).trans (bn.mono (Zl)));have SK:=SK0.out wn HB5.out;clear bn)
     |fail))
     all_goals
      go_wp2_with fail;go_meet;exact⟨rfl,HB5⟩
    case rest=>
     obtain⟨rfl,B9⟩:=hcut;obtain⟨wm,rfl⟩:∃wm,wm=wc:=⟨_,rfl⟩;have Pm:=Zh (P9'.out.below B9.out);have Lm:=Zh (L9.out.below B9.out);have Tm:=Zh (T9.out.trans (B9.out.mono T9.out.size));have hts:tg.size≤100:=(by have:=(WY6.out.keyt _ (find_some HX.out).1).2.1;rw[HTG.out] at this;omega);by_cases hgt:(200:Int)-(nl:Nat)<((cntL (erL ts):Nat):Int)
     ·go_wp2_with fail;go_ret;exact⟨by first|rfl|simp,(B3.out.trans (Tm.out.mono hw3))⟩
     have SK1:Hid (∀wz,Below wm.heap.size wm wz→wz.cell? ⟨q,0,none⟩=some (.slice (some ⟨b,o,none⟩) nl cl)∧wz.cell? ⟨b,o+k*8+2,none⟩=some (.string tg)):=Zh (fun wz hz=>
      have hz2:=B9.out.trans (hz.mono B9.out.size)
      ⟨SK0.out wz hz2,(hz2.cell hb).trans l2⟩)
     obtain⟨s0,s2⟩:=SK1.out wm Ze;have AT:Hid (∀wz,Below wm.heap.size wm wz→Calls Tryz.prog 14 #[.pointer (some ⟨q,0,none⟩),.int .i64 parent] wz fun e w'=>e = .returned (.int .i64 k)∧wz=w'):=Zh (fun wz hz=>at_yes parent wz WY6.out.asc hyl hk hy (Pm.out.rf.below hz));have HGT:=Zh hgt;clear CN hwr QA SK0 hgt d0 l2 B9 P9' L9 T9;go_upto_region 24 with fail;go_cut [20] (fun s wx=>s = .bool (mayP (vP tg))∧Hid (Below wm.heap.size wm wx))
     case first=>
      go_region_held3 (fun w'=>w'.cell? ⟨q,0,none⟩=some (.slice (some ⟨b,o,none⟩) nl cl)∧w'.cell? ⟨b,o+k*8+2,none⟩=some (.string tg)) (first|go_keep|exact SK) ((first
      |(go_at_call 14;refine(AT.out _ (by first|exact Ze|exact Below_drewN Ze _|exact Below_drewN (Zb _ _) _|exact Zb _ _)).mono ?_;rintro e w3 ⟨rfl,rfl⟩)
      |(go_at_call 17;refine(may_call hts _ _ (by exact heap_alloc_new _ _)).mono ?_;rintro e wn ⟨rfl,bn⟩;have HB5:Hid (Below wm.heap.size wm wn):=Zh (by first|exact((Zb _ _).drew).trans (bn.mono ((Zb _ _).drew).size)|exact(Below_drewN (Zb _ _) _).trans (bn.mono (Below_drewN (Zb _ _) _).size)|exact(Zb _ _).trans (bn.mono (Zb _ _).size));have SK:=SK1.out wn HB5.out;clear bn)
      |fail))
      all_goals
       go_wp2_with fail;go_meet;exact⟨rfl,HB5⟩
     case rest=>
      obtain⟨rfl,B20⟩:=hcut;obtain⟨wv,rfl⟩:∃wv,wv=wc:=⟨_,rfl⟩;cases hmv:mayP (vP tg) with
      |false=>
       go_wp2_with fail;go_ret;exact⟨by first|rfl|simp,(B3.out.trans ((Tm.out.trans (B20.out.mono Tm.out.size)).mono hw3))⟩
      |true=>
      have hnk:noKids tg=false:=may_v ht0 hmv;have htag:tagOf x5.d.l parent=tg:=by
       rw[Y6.out];unfold tagOf;rw[show find y6.d.l parent=some y6.rs[k].nd from HX.out];exact HTG.out
      have hnl5:x5.d.l.length=nl:=(by rw[Y6.out,show y6.d.l=y6.l from rfl,rl_len];exact HNL.out);have hr5:x5.d.R=200:=(by rw[X5.out];unfold focusD;split<;>exact HR.out);have hok:PatchOk (dL (erL ts)+1) (x5.d,[]) parent ids beh (erL ts):=walk_noerr (s:=(x5.d,[])) WX6.out (wf_may WX6.out) (by rw[Y6.out];exact HS.out) (by rw[Y6.out];exact HH0.out) (by rw[htag];exact hnk) WW.out GG.out (by
       have:=HGT.out;show x5.d.l.length+cntL (erL ts)≤x5.d.R;omega)
      obtain⟨hc0,hpp⟩:=YES.out (by rw[Y6.out];exact HS.out) (by rw[Y6.out];exact HH0.out) hok;have hev:ev = .nilIface:=(by rw[←EV.out,hc0];rfl);subst hev;have HPP:=Zh hpp;have P20:=Zh (Pm.out.below B20.out);have L20:=Zh (Lm.out.below B20.out);have T20:=Zh (Tm.out.trans (B20.out.mono Tm.out.size));clear hpp hok hnk htag hnl5 hr5 hmv YES Pm Lm Tm SK1 AT B20 s0 s2;have XW:Hid ((wv.alloc (.cells #[.pointer (some ⟨q,0,none⟩),.slice none 0 0] 59)).heap[wv.heap.size]? = some (.cells #[.pointer (some ⟨q,0,none⟩),.slice none 0 0] 59 (0,0))):=Zh (heap_alloc_new wv _);have YW:Below wv.heap.size wv (wv.alloc (.cells #[.pointer (some ⟨q,0,none⟩),.slice none 0 0] 59)):=Zb _ _;have P28:=Zh (P20.out.below YW);have L28:=Zh (L20.out.below YW);have T28:=Zh (T20.out.trans (YW.mono T20.out.size));have hgw:w3.heap.size≤wv.heap.size:=T20.out.size;have hqv:q<wv.heap.size:=P20.out.rf.lt (.inl rfl);have hgwl:wv.heap.size<(wv.alloc (.cells #[.pointer (some ⟨q,0,none⟩),.slice none 0 0] 59)).heap.size:=heap_lt XW.out;have LGW:Hid (∀i,lfoot g vd8 i→i<wv.heap.size):=Zh (fun i hi=>L20.out.lt hi);have PGW:Hid (∀i,foot p x8 i→i<wv.heap.size):=Zh (fun i hi=>P20.out.dc.lt hi);clear YW P20 L20 T20;go_upto_region 28 with fail;generalize wv.alloc (.cells #[.pointer (some ⟨q,0,none⟩),.slice none 0 0] 59)=ww at XW P28 L28 T28 hgwl⊢;generalize wv.heap.size=gw at XW hgw hqv hgwl LGW PGW⊢;go_wp2_with fail;refine(as_any ts w3.heap.size ww A3 n3 c3 T28.out.size (WH3.out.below T28.out (Zl)) W3.out.len (fun t ht=>(WF3.out t ht).later T28.out (Zl)) (by omega)).mono ?_;rintro e wz ⟨A4,n4,c4,us,rfl,hus,oQ,mQ,bQ⟩;have hC:w3.heap.size≤wz.heap.size:=Nat.le_trans T28.out.size bQ.size;have HUS:=Zh hus;have W29:Hid (Wk wz w3.heap.size gw q y6 (.slice none 0 0) []):=Zh ⟨(bQ.block gw hgwl).trans XW.out,hgw,P28.out.rf.below bQ,Kind.Own.nil _ _ _,fun a ha=>by cases ha⟩;have P29:=Zh (P28.out.below bQ);have L29:=Zh (L28.out.below bQ);have T29:=Zh (T28.out.trans (bQ.mono T28.out.size));have hqw:q<ww.heap.size:=(by omega);have hq3:w3.heap.size≤q:=P29.out.rf.ge (.inl rfl);have PP:PatchPre wz 0 w3.heap.size gw q y6 (.slice none 0 0) [] parent ids A1 n1 c1 A4 n4 c4 us:=by
       obtain⟨sk1,sk2,sk3,_⟩:=stands_kids WY6.out HS.out;have hy5:y6.n≤2000:=(by have h1:=congrArg D.n Y6.out;have h2:x5.n=y6.n:=h1;omega);exact {
        wk:=W29.out
        wf:=WY6.out
        may:=wf_may WY6.out
        p0:=by have:=(WY6.out.pos HH0.out).1;omega
        kids:=sk1
        nod:=sk2
        few:=sk3
        ids:=⟨HN1.out,HH1.out.on (B3.out.trans (T29.out.mono hw3)),fun he b o e=>by
         obtain⟨b',o',e',hb',_⟩:=cell_int HH1.out (k:=0) (List.length_pos_iff.2 he);rw[e] at e';injection e' with e';injection e' with e' _ _;subst e';rintro(h|h|h)
         ·omega
         ·omega
         ·cases h⟩
        want:=fun w' hb=>by
         have o2:=oQ.but hb (fun i hi hf=>by
          have h1:=(oQ.lt hi).1;rcases hf with h|h|h
          ·omega
          ·omega
          ·cases h)
         obtain⟨A5,n5,c5,hv5,e1,e2,e3,e4,e5⟩:=o2.slice;injection hv5 with v1 v2 v3;subst v1;subst v2;subst v3;exact⟨e1,e5,fun t ht=>((mQ t ht).but hC hb (fun i hi hf=>by
          have h1:=hi.1;rcases hf with h|h|h
          ·omega
          ·omega
          ·cases h) (fun i _ hf=>by
          rcases hf with h|h|h
          ·omega
          ·omega
          ·cases h)).ok (Nat.le_trans hC hb.size)⟩
        small:=sm_all (by rw[hus];exact WW.out) (by rw[hus];exact GG.out)
        nz:=HC1.out.2.2
        cnt:=by rw[hus];omega
        num:=by rw[hus];omega
        len:=by rw[hus];show 0+2000*(szL (erL ts)+1)≤800000;omega}
      have RC:=Zh (rpatch_any us (dL (erL us)) (Zl) 0 w3.heap.size gw q y6 (.slice none 0 0) [] parent ids A1 n1 c1 beh A4 n4 c4 wz PP);clear PP oQ mQ bQ hus P28 L28 T28 XW WH3 WF3;go_wp2_with fail;refine RC.out.mono ?_;rintro e wp ⟨rfl,y',v',rs',wd,hyy⟩;rw[HUS.out,←Y6.out] at hyy;have hxy:=HPP.out.trans hyy.symm;have EXY:Hid (x8.d=y'.d):=Zh (congrArg Prod.fst hxy);have ERS:Hid (rs8.map (·.r)=rs'.map (·.r)):=Zh (congrArg Prod.snd hxy);have P30:Hid (Par wp w3.heap.size p q x8 y'):=Zh ⟨P29.out.dc.but wd.but (fun i hi hf=>by
       have h1:=PGW.out i hi;rcases hf with h|h|h
       ·omega
       ·exact P29.out.ap i hi (.inl h)
       ·cases h) W29.out.noA,wd.wk.doc,fun i hi hr=>by
       rcases wd.ft i hr with h|h
       ·exact P29.out.ap i hi h
       ·have:=P29.out.dc.lt hi;omega⟩
      have L30:Hid (Lg wp w3.heap.size g p vd8 rs8):=Zh (L29.out.but wd.but (fun i hi hf=>by
       have h1:=LGW.out i hi;rcases hf with h|h|h
       ·omega
       ·exact L29.out.notR P29.out.rf hi (.inl h)
       ·cases h) W29.out.noA)
      have T30:=Zh (T29.out.trans (wd.to_below W29.out));have K30:=Zh wd.wk;obtain⟨k1,k2,k3,_⟩:=stands_kids WX6.out (by rw[Y6.out];exact HS.out:StandsP x5.d.l parent ids beh);have hp0:parent≠0:=(by have:=(WY6.out.pos HH0.out).1;omega);have hpl:=patch_len (dL (erL ts)) (s:=(x5.d,[])) beh (erL ts) WX6.out hp0 k1 k2 k3;have hpo:=patch_ok (dL (erL ts)+1) (s:=(x5.d,[])) beh (erL ts) WX6.out hp0 k1 k2;have hpp2:(x8.d,rs8.map (·.r))=patchP (dL (erL ts)+1) (x5.d,[]) parent ids beh (erL ts):=HPP.out;rw[←hpp2] at hpl hpo;have hl8:rs8.length≤1000000:=by
       have h1:=hpl.2;simp only[List.length_map,List.length_nil] at h1;omega
      have hn8:x8.n≤100000:=by
       have h1:=hpl.1;have h2:x8.n≤x5.n+(szL (erL ts):Nat):=h1;omega
      have W8:Hid (WF x8.d):=Zh hpo.1;obtain⟨A7,n7,c7,hv7,hl7,_,_,_,hh7⟩:=own_r wd.wk.own;subst hv7;have HH7:=Zh hh7;have CA:Hid (∀wz,Below wp.heap.size wp wz→Calls Tryz.prog 15 #[.pointer (some ⟨g,0,none⟩)] wz fun e w'=>∃(Az:Option Addr) (nz cz:Nat),e = .returned (.slice Az nz cz)∧Hid (∀wq,Below w'.heap.size w' wq→Calls Tryz.prog 20 #[.slice Az nz cz,.slice A7 n7 c7] wq fun e w''=>e = .returned (.bool true)∧Below wq.heap.size wq w'')∧Below wz.heap.size wz w'):=Zh (fun wz hz=>
       (all_any wz hl8 (L30.out.below hz)).mono fun e w' ⟨Az,nz,cz,rsz,he,oz,hmz,hrz,bz⟩=>by
        obtain⟨_,_,_,hvz,hlz,_,_,_,hhz⟩:=own_r oz;injection hvz with e1 e2 e3;subst e1;subst e2;subst e3;have hmm:rsz.map (·.r)=rs'.map (·.r):=hmz.trans ERS.out;obtain rfl:nz=n7:=by rw[←hlz,←hl7];have:=congrArg List.length hmm;simpa using this
        have hnz:nz≤1000000:=(by have:=congrArg List.length hmz;simp at this;omega);have bw:Below wp.heap.size wp w':=hz.trans (bz.mono hz.size);refine⟨Az,nz,cz,he,Zh (fun wq hq=>rrecs_eq rsz rs' Az A7 nz cz c7 wq hlz hmm hnz (hhz.on hq) (HH7.out.on (bw.trans (hq.mono bw.size))) (fun a ha=>?_) (fun a ha=>?_)),bz⟩
        ·have h1:=(hrz a ha).att.below hq;exact⟨h1.len,(hrz a ha).few,h1.holds⟩
        ·have h1:=(K30.out.recs a ha).att.below (bw.trans (hq.mono bw.size));exact⟨h1.len,h1.holds⟩)
      have CS:Hid (∀wz,Below wp.heap.size wp wz→Calls Tryz.prog 21 #[.pointer (some ⟨p,0,none⟩),.pointer (some ⟨q,0,none⟩)] wz fun e w'=>e = .returned (.int .i64 1)∧Below wz.heap.size wz w'):=Zh (fun wz hz=>
       P5.same_any wz W8.out hn8 EXY.out (P30.out.dc.below hz) (P30.out.rf.below hz))
      have SK2:Hid (∀wz,Below wp.heap.size wp wz→wz.cell? ⟨gw,1,none⟩=some (.slice A7 n7 c7)):=Zh (fun wz hz=>cell_of_row wz gw 1 _ _ (0,0) ((hz.block gw (heap_lt K30.out.blk)).trans K30.out.blk));have s7:=SK2.out wp Ze;clear wd hyy hxy RC P29 L29 T29 W29 hpl hpo hh7 hl7 k1 k2 k3;go_upto_region 29 with fail;go_region_held3 (fun w'=>w'.cell? ⟨gw,1,none⟩=some (.slice A7 n7 c7)) (first|go_keep|exact SK) ((first
      |(go_at_call 15;refine(CA.out _ (by first|exact Ze|exact Below_drewN Ze _|exact Ze.drew)).mono ?_;rintro e wA ⟨AA,nA,cA,rfl,hCR,bA⟩;have HBA:Hid (Below wp.heap.size wp wA):=Zh (by first|exact(Below_drewN Ze _).trans (bA.mono (Zl))|exact(Ze.drew).trans (bA.mono (Zl))|exact bA);have SK:=SK2.out wA HBA.out;clear bA)
      |(go_at_call 20;refine(hCR.out _ (by first|exact Ze|exact Below_drewN Ze _|exact Ze.drew)).mono ?_;rintro e wB ⟨rfl,bB⟩;have HBB:Hid (Below wp.heap.size wp wB):=Zh (by first|exact(Below_drewN HBA.out _).trans (bB.mono HBA.out.size)|exact HBA.out.drew.trans (bB.mono HBA.out.size)|exact HBA.out.trans (bB.mono HBA.out.size));have SK:=SK2.out wB HBB.out;clear bB)
      |(go_at_call 21;refine(CS.out _ (by first|exact HBB.out|exact Below_drewN HBB.out _|exact HBB.out.drew)).mono ?_;rintro e wC ⟨rfl,bC⟩;have HBC:Hid (Below wp.heap.size wp wC):=Zh (by first|exact(Below_drewN HBB.out _).trans (bC.mono HBB.out.size)|exact HBB.out.drew.trans (bC.mono HBB.out.size)|exact HBB.out.trans (bC.mono HBB.out.size));have SK:=SK2.out wC HBC.out;clear bC)
      |fail))
      all_goals
       go_wp2_with fail;go_ret;exact⟨by first|rfl|simp,(B3.out.trans ((T30.out.trans (HBC.out.mono T30.out.size)).mono hw3)).trans (by first|exact Ze|exact Below_drewN Ze _|exact Ze.drew)⟩
  ·have hh:hasL y6.l parent=false:=(by cases e:hasL y6.l parent with|true=>exact absurd e hh|false=>rfl);obtain⟨h1,hbe⟩:=(stands_none hh WY6.out).1 hs;have hz:n1=0:=(by rw[←HN1.out,h1];rfl);clear h1 hs hst EV YES;go_wp2_with fail;refine(at_no parent w9 hyl hh P9'.out.rf).mono ?_;rintro e wz ⟨rfl,rfl⟩;go_wp2_with fail;refine(at_no parent w9 hyl hh P9'.out.rf).mono ?_;rintro e wz ⟨rfl,rfl⟩;subst hz;go_wp2_with fail;go_ret;exact⟨by first|rfl|simp,(B3.out.trans (T9.out.mono hw3))⟩
end P19
end Go.Proofs.YtaklfomaibchnaaGreat
