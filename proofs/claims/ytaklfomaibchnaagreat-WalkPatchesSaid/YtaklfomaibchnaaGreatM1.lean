/- A part of what the claimed theorem hangs on. No condition but those stated. -/
import Derived.WalkKit
import Derived.ProofKit
import Derived.Lib.Hide
import Derived.Deep.RegionHeld3
import Derived.Test.YtaklfomaibchnaaGreatChecked
import Derived.Outline
import Derived.WalkLawsBesides
import Derived.WalkSpells
import Derived.OwnWalk
import Derived.Below
import Derived.Maps.AppendAt
import Derived.Laws.AppendOwnNone
import Derived.Deep.QuietTactic
import Derived.BigQuiet
import Derived.Laws.StructEq
import Derived.Laws.OwnMore
import Derived.Deep.AppendLies
import Derived.Deep.Slices
import Derived.ChangeSame
import Derived.Carry
import Derived.Laws.LoneSync
import Derived.Deep.Cut
set_option linter.unusedVariables false
set_option linter.unusedSimpArgs false
set_option maxRecDepth 100000
set_option maxHeartbeats 40000000
namespace Go.Proofs.YtaklfomaibchnaaGreat
open Go.RowKit
theorem Zb(w:World)(o:Obj):Below w.heap.size w (w.alloc o):=(Below.refl _ _).alloc (Nat.le_refl _) _
theorem Zl{n:Nat}:n≤n:=Nat.le_refl n
theorem Ze{B:Nat}{a:World}:Below B a a:=Below.refl _ _
theorem Zh{p:Prop}(h:p):Hid p:=h
theorem Zs:(∀(a:Act) (o:Option Nat) (v:Value),a.put o v=match o with|some d=>{a with tmps:=a.tmps.setIfInBounds d v}|none=>a)∧(∀(l:List Value) (i:Nat) (v:Value),l.toArray.setIfInBounds i v=(l.set i v).toArray)∧(∀(x v:Value) (l:List Value),(x:: l).set 0 v=v:: l)∧(∀(x v:Value) (l:List Value) (i:Nat),(x:: l).set (i+1) v=x:: l.set i v)∧(∀(l:List Bool) (i:Nat) (v:Bool),l.toArray.setIfInBounds i v=(l.set i v).toArray)∧(∀(x v:Bool) (l:List Bool),(x:: l).set 0 v=v:: l)∧(∀(x v:Bool) (l:List Bool) (i:Nat),(x:: l).set (i+1) v=x:: l.set i v):=
 ⟨fun a o v=>by cases o<;>rfl,fun l i v=>List.setIfInBounds_toArray ..,fun _ _ _=>rfl,fun _ _ _ _=>rfl,fun l i v=>List.setIfInBounds_toArray ..,fun _ _ _=>rfl,fun _ _ _ _=>rfl⟩
theorem Zt(i d:Nat){P:Program}{ops:Array Oper}{Q:Exit→Act→World→Prop}{md:Region.Mode}{S:World→Prop}{oi:Oper}{v:Value}{fuel:Nat}{listed:Array Bool}{a:Act}{w:World}
 {L:Array Bool} {a':Act} (h:wpAnyH P md ops Q S fuel L a' w) (hi:ops[i]? = some oi:=by rfl) (hd:oi.dst=some d:=by rfl) (hs:Region.noSelect ops=true:=by kernel_rfl) (hf:Region.free md ops listed i=true:=by kernel_rfl) (hr:(Region.ready md ops listed).contains i=true:=by kernel_rfl)
 (hQ:∀c a w,Q (.panic c) (a.put (some d) v) w→Q (.panic c) a w:=by exact fun _ _ _ h=>h) (hy:YieldsIf P ops S oi v a:=by exact Or.inl ⟨by rfl,by intro w' hSw;(try dsimp only at hSw);go_simp;try with_reducible rfl⟩) (hS:S w:=by assumption) (eL:listed.setIfInBounds i true=L:=by(try simp only[Zs]);rfl) (ea:a.put (some d) v=a':=by(try simp only[Zs]);rfl):wpAnyH P md ops Q S (fuel+1) listed a w:=
 wpAnyH_take hi hs hf hr (by rw[hd];exact hQ) hy hS (by rw[hd,eL,ea];exact h)
theorem Zn(i:Nat){P:Program}{ops:Array Oper}{Q:Exit→Act→World→Prop}{md:Region.Mode}{S:World→Prop}{oi:Oper}{v:Value}{fuel:Nat}{listed:Array Bool}{a:Act}{w:World}
 {L:Array Bool} {a':Act} (h:wpAnyH P md ops Q S fuel L a' w) (hi:ops[i]? = some oi:=by rfl) (hs:Region.noSelect ops=true:=by kernel_rfl) (hf:Region.free md ops listed i=true:=by kernel_rfl) (hr:(Region.ready md ops listed).contains i=true:=by kernel_rfl)
 (hQ:∀c a w,Q (.panic c) (a.put oi.dst v) w→Q (.panic c) a w:=by exact fun _ _ _ h=>h) (hy:YieldsIf P ops S oi v a:=by exact Or.inl ⟨by rfl,by intro w' hSw;(try dsimp only at hSw);go_simp;try with_reducible rfl⟩) (hS:S w:=by assumption) (eL:listed.setIfInBounds i true=L:=by(try simp only[Zs]);rfl) (ea:a.put oi.dst v=a':=by(try simp only[Zs]);rfl):wpAnyH P md ops Q S (fuel+1) listed a w:=
 wpAnyH_take hi hs hf hr hQ hy hS (by rw[eL,ea];exact h)
theorem Zi(i d:Nat){P:Program}{ops:Array Oper}{Q:Exit→Act→World→Prop}{md:Region.Mode}{S:World→Prop}{oi:Oper}{fuel:Nat}{listed:Array Bool}{a:Act}{w:World}
 {L:Array Bool} {a':Act} (h:wpAnyH P md ops Q S fuel L a' w) (hi:ops[i]? = some oi:=by rfl) (hd:oi.dst=some d:=by rfl) (hs:Region.noSelect ops=true:=by kernel_rfl) (hf:Region.free md ops listed i=true:=by kernel_rfl) (hr:(Region.ready md ops listed).contains i=true:=by kernel_rfl)
 (hQ:∀c a w,Q (.panic c) (a.put (some d) undef) w→Q (.panic c) a w:=by exact fun _ _ _ h=>h) (hy:YieldsIf P ops S oi undef a:=by exact Or.inr ⟨by rfl,rfl⟩) (hS:S w:=by assumption) (eL:listed.setIfInBounds i true=L:=by(try simp only[Zs]);rfl) (ea:a.put (some d) undef=a':=by(try simp only[Zs]);rfl):wpAnyH P md ops Q S (fuel+1) listed a w:=
 wpAnyH_take hi hs hf hr (by rw[hd];exact hQ) hy hS (by rw[hd,eL,ea];exact h)
theorem Zr(rs:List Nat){P:Program}{ops:Array Oper}{Q:Exit→Act→World→Prop}{md:Region.Mode}{S:World→Prop}{fuel:Nat}{listed:Array Bool}{a:Act}{w:World}(h:AllReadyH P md ops Q S fuel listed a w rs)(hr:Region.ready md ops listed=rs:=by kernel_rfl)(hne:rs≠[]:=by simp):wpAnyH P md ops Q S (fuel+1) listed a w:=wpAnyH_ready hr hne h
namespace P1
def letB(c:UInt8):Bool:=decide (97≤(c.toNat:Int))&&decide ((c.toNat:Int)≤122)
def digB(c:UInt8):Bool:=decide (48≤(c.toNat:Int))&&decide ((c.toNat:Int)≤57)
def inB(c:UInt8):Bool:=letB c || digB c || decide ((c.toNat:Int)=45)
def nameB:List UInt8→Bool
 |[]=>false
 |c:: r=>decide (r.length<12)&&letB c&&r.all inB
def okB(c:UInt8):Bool:=decide (32≤(c.toNat:Int))&&decide ((c.toNat:Int)≤126)
def textB(l:List UInt8):Bool:=decide (l.length≤60)&&l.all okB
theorem ret_bool{a b:Bool}(h:a=b):Ending.returned (.bool a) = .returned (.bool b):=by rw[h]
theorem letB_mk{c:UInt8}{p:Prop}[Decidable p](h:p↔(97≤(c.toNat:Int)∧(c.toNat:Int)≤122)):decide p=letB c:=by
 unfold letB;simp[h]
theorem letB_no{c:UInt8}(h:(c.toNat:Int)<97∨122<(c.toNat:Int)):letB c=false:=by
 unfold letB;simp;omega
theorem digB_no{c:UInt8}(h:(c.toNat:Int)<48∨57<(c.toNat:Int)):digB c=false:=by
 unfold digB;simp;omega
theorem inB_let{c:UInt8}(h:letB c=true):inB c=true:=by simp[inB,h]
theorem inB_dig{c:UInt8}(h:digB c=true):inB c=true:=by simp[inB,h]
theorem inB_dash{c:UInt8}(h:((c.toNat:Int) != 45)=false):inB c=true:=by
 have:(c.toNat:Int)=45:=(by simpa using h);simp[inB,this]
theorem inB_no{c:UInt8}(h1:¬letB c=true)(h2:¬digB c=true)(h3:((c.toNat:Int) != 45)=true):inB c=false:=by
 have h:¬(c.toNat:Int)=45:=(by simpa using h3);simp[inB,h1,h2,h]
theorem inB_no'{c:UInt8}(h1:¬letB c=true)(h2:(c.toNat:Int)<48∨57<(c.toNat:Int))(h3:((c.toNat:Int) != 45)=true):inB c=false:=
 inB_no h1 (by rw[digB_no h2];simp) h3
theorem inB_dig'{c:UInt8}(h1:48≤(c.toNat:Int))(h2:(c.toNat:Int)≤57):inB c=true:=
 inB_dig (by simp[digB,h1,h2])
theorem toList_nil{s:ByteArray}(h:s.size=0):s.toList=[]:=by
 rw[ByteArray.toList_eq];apply List.eq_nil_of_length_eq_zero;simpa using h
theorem toList_cons{s:ByteArray}(h:0<s.size):s.toList.isEmpty=false:=by
 rw[ByteArray.toList_eq];cases e:s.data.toList with
 |nil=>
  have:s.data.toList.length=s.size:=(by simp);rw[e] at this;simp at this;omega
 |cons c r=>rfl
def InTo(s:ByteArray)(k:Nat):Prop:=∀j (h:j<s.size),1≤j→j<k→inB s[j]=true
theorem InTo.one(s:ByteArray):InTo s 1:=fun _ _ h1 h2=>absurd h2 (by omega)
theorem InTo.next{s:ByteArray}{k:Nat}(h:InTo s k)(hk:k<s.size)(hi:inB s[k]=true):InTo s (k+1):=by
 intro j hj h1 h2;by_cases e:j=k
 ·subst e;exact hi
 ·exact h j hj h1 (by omega)
theorem at_list(s:ByteArray)(k:Nat)(h:k<s.size):s.data.toList[k]'(by simpa using h)=s[k]:=rfl
theorem nameB_empty{s:ByteArray}(h:s.size=0):nameB s.data.toList=false:=by
 have:s.data.toList=[]:=by
  apply List.eq_nil_of_length_eq_zero;simpa using h
 rw[this];rfl
theorem list_cons(s:ByteArray)(h:0<s.size):∃r,s.data.toList=s[0]:: r∧r.length+1=s.size∧∀j (hj:j<r.length) (hs:j+1<s.size),r[j]=s[j+1]:=by
 cases e:s.data.toList with
 |nil=>
  have:s.data.toList.length=s.size:=(by simp);rw[e] at this;simp at this;omega
 |cons c r=>
  have hl:s.data.toList.length=s.size:=(by simp);have h0:=at_list s 0 h;refine⟨r,?_,?_,?_⟩
  ·rw[←h0];simp[e]
  ·rw[e] at hl;simpa using hl
  ·intro j hj hs;have:=at_list s (j+1) hs;rw[←this];simp[e]
theorem nameB_long{s:ByteArray}(h:12<s.size):nameB s.data.toList=false:=by
 obtain⟨r,e,hl,_⟩:=list_cons s (by omega);rw[e];simp[nameB];omega
theorem nameB_head{s:ByteArray}(h:0<s.size)(h0:letB s[0]=false):nameB s.data.toList=false:=by
 obtain⟨r,e,hl,_⟩:=list_cons s (by omega);rw[e];simp[nameB,h0]
theorem nameB_bad{s:ByteArray}{k:Nat}(h1:1≤k)(h:k<s.size)(h0:inB s[k]=false):nameB s.data.toList=false:=by
 obtain⟨r,e,hl,hr⟩:=list_cons s (by omega);rw[e];have:r.all inB=false:=by
  rw[List.all_eq_false];obtain⟨m,rfl⟩:∃m,k=m+1:=⟨k-1,by omega⟩;exact⟨r[m],List.getElem_mem _,by rw[hr m (by omega) h,h0];simp⟩
 simp only[nameB,this,Bool.and_false]
theorem nameB_ok{s:ByteArray}(h:0<s.size)(h12:s.size≤12)(h0:letB s[0]=true)(ha:InTo s s.size):nameB s.data.toList=true:=by
 obtain⟨r,e,hl,hr⟩:=list_cons s (by omega);rw[e];have:r.all inB=true:=by
  rw[List.all_eq_true];intro x hx;obtain⟨j,hj,rfl⟩:=List.getElem_of_mem hx;rw[hr j hj (by omega)];exact ha (j+1) (by omega) (by omega) (by omega)
 simp[nameB,this,h0];omega
def OkTo(s:ByteArray)(k:Nat):Prop:=∀j (h:j<s.size),j<k→okB s[j]=true
theorem OkTo.zero(s:ByteArray):OkTo s 0:=fun _ _ h2=>absurd h2 (by omega)
theorem OkTo.next{s:ByteArray}{k:Nat}(h:OkTo s k)(hk:k<s.size)(h1:32≤(s[k].toNat:Int))(h2:(s[k].toNat:Int)≤126):OkTo s (k+1):=by
 intro j hj h2;by_cases e:j=k
 ·subst e;unfold okB;simp;omega
 ·exact h j hj (by omega)
theorem textB_ok{s:ByteArray}(h:s.size≤60)(ha:OkTo s s.size):textB s.data.toList=true:=by
 have:s.data.toList.all okB=true:=by
  rw[List.all_eq_true];intro x hx;obtain⟨j,hj,rfl⟩:=List.getElem_of_mem hx;have hj':j<s.size:=(by simpa using hj);exact ha j hj' hj'
 simp only[textB,this,Bool.and_true];simp;exact h
theorem textB_all{s:ByteArray}(ha:OkTo s s.size):textB s.data.toList=decide (s.size≤60):=by
 have:s.data.toList.all okB=true:=by
  rw[List.all_eq_true];intro x hx;obtain⟨j,hj,rfl⟩:=List.getElem_of_mem hx;have hj':j<s.size:=(by simpa using hj);exact ha j hj' hj'
 simp only[textB,this,Bool.and_true];simp
theorem textB_bad{s:ByteArray}{k:Nat}(h:k<s.size)(h0:(s[k].toNat:Int)<32∨126<(s[k].toNat:Int)):textB s.data.toList=false:=by
 have:s.data.toList.all okB=false:=by
  rw[List.all_eq_false];refine⟨s[k],List.getElem_mem (by simpa using h),?_⟩;unfold okB;simp;omega
 simp only[textB,this,Bool.and_false]
theorem textB_long{s:ByteArray}(h:60<s.size):textB s.data.toList=false:=by
 simp[textB];omega
def voidB(l:List UInt8):Bool:=l==[98,114] || l==[104,114] || l==[105,109,103] || l==[105,110,112,117,116]
theorem voidB_at{s:ByteArray}{b:Bool}(h:(s.toList==[98,114] || s.toList==[104,114] || s.toList==[105,109,103] || s.toList==[105,110,112,117,116])=b):b=voidB s.data.toList:=by
 rw[←h,ByteArray.toList_eq];rfl
theorem nameB_cons{c:UInt8}{r:List UInt8}(h:nameB (c:: r)=true):r.length<12∧letB c=true∧r.all inB=true:=by
 simp only[nameB,Bool.and_eq_true,decide_eq_true_eq] at h;exact⟨h.1.1,h.1.2,h.2⟩
end P1
namespace P3
structure At where
 nm:ByteArray
 vl:ByteArray
 st:Bool
def At.none:At:=⟨⟨#[]⟩,⟨#[]⟩,false⟩
def sameN(s:ByteArray)(a:At):Bool:=a.nm.toList==s.toList
def findA(l:List At)(s:ByteArray):Option At:=l.find? (sameN s)
def hasA(l:List At)(s:ByteArray):Bool:=(findA l s).isSome
theorem findA_none{l:List At}{s:ByteArray}{n:Nat}(hn:l.length=n)(h:findA (l.take n) s=none):findA l s=none:=by subst hn;simpa using h
theorem findA_next{l:List At}{s:ByteArray}{k:Nat}(h:findA (l.take k) s=none)(hk:k<l.length)(he:(l[k].nm.toList==s.toList)=false):findA (l.take (k+1)) s=none:=by
 rw[List.take_succ_eq_append_getElem hk,findA,List.find?_append];unfold findA at h;rw[h];simp[sameN,he]
theorem findA_some{l:List At}{s:ByteArray}{k:Nat}(h:findA (l.take k) s=none)(hk:k<l.length)(he:(l[k].nm.toList==s.toList)=true):findA l s=some l[k]:=by
 have e:List.find? (sameN s) (l.take k++(l[k]:: l.drop (k+1)))=some l[k]:=by
  unfold findA at h;rw[List.find?_append,h,List.find?_cons];simp[sameN,he]
 rw[←List.drop_eq_getElem_cons hk,List.take_append_drop] at e;exact e
theorem hasA_iff{l:List At}{s:ByteArray}:hasA l s=true↔∃a∈l,a.nm.toList=s.toList:=by
 unfold hasA findA;rw[List.find?_isSome];simp[sameN]
theorem hasA_iff_no{l:List At}{s:ByteArray}:hasA l s=false↔∀a∈l,a.nm.toList≠s.toList:=by
 rw[←Bool.not_eq_true,hasA_iff];simp
def atB(a b:At):Bool:=a.nm.toList==b.nm.toList&&a.vl.toList==b.vl.toList&&a.st==b.st
def sameA:List At→List At→Bool
 |[],[]=>true
 |a:: l,b:: m=>atB a b&&sameA l m
 |_,_=>false
theorem atB_refl(a:At):atB a a=true:=by simp[atB]
theorem sameA_len{l m:List At}(h:l.length≠m.length):sameA l m=false:=by
 induction l generalizing m with
 |nil=>cases m<;>simp_all [sameA]
 |cons a l ih=>
  cases m with
  |nil=>rfl
  |cons b m=>simp only[sameA,ih (by simpa using h),Bool.and_false]
theorem sameA_bad{l m:List At}{k:Nat}(hk:k<l.length)(hm:k<m.length)(h:atB l[k] m[k]=false):sameA l m=false:=by
 induction l generalizing m k with
 |nil=>simp at hk
 |cons a l ih=>
  cases m with
  |nil=>rfl
  |cons b m=>
   cases k with
   |zero=>simp at h;simp[sameA,h]
   |succ k=>simp at h hk hm;simp[sameA,ih hk hm h]
def SameTo(l m:List At)(k:Nat):Prop:=∀j (h:j<l.length) (h':j<m.length),j<k→atB l[j] m[j]=true
theorem SameTo.zero(l m:List At):SameTo l m 0:=fun _ _ _ h=>absurd h (by omega)
theorem SameTo.next{l m:List At}{k:Nat}(h:SameTo l m k)(hk:k<l.length)(hm:k<m.length)(hb:atB l[k] m[k]=true):SameTo l m (k+1):=by
 intro j hj hj' hlt;by_cases e:j=k
 ·subst e;exact hb
 ·exact h j hj hj' (by omega)
theorem SameTo.all{l m:List At}{k:Nat}(h:SameTo l m k)(hl:l.length=k)(hm:m.length=k):sameA l m=true:=by
 induction l generalizing m k with
 |nil=>
  cases m with
  |nil=>rfl
  |cons b m=>simp at hl hm;omega
 |cons a l ih=>
  cases m with
  |nil=>simp at hl hm;omega
  |cons b m=>
   have h0:=h 0 (by simp) (by simp) (by simp at hl;omega);simp at h0;simp only[sameA,h0,Bool.true_and];refine ih (k:=l.length) (fun j hj hj' _=>?_) rfl (by simp at hl hm;omega);have:=h (j+1) (by simpa using hj) (by simpa using hj') (by simp at hl;omega);simpa using this
def thoseA(l:List At)(s:Bool):List At:=l.filter fun a=>a.st==s
theorem thoseA_yes{l:List At}{s:Bool}{k:Nat}(hk:k<l.length)(h:(l[k].st==s)=true):thoseA (l.take (k+1)) s=thoseA (l.take k) s++[l[k]]:=by
 rw[List.take_succ_eq_append_getElem hk,thoseA,List.filter_append];simp[h,thoseA]
theorem thoseA_no{l:List At}{s:Bool}{k:Nat}(hk:k<l.length)(h:(l[k].st==s)=false):thoseA (l.take (k+1)) s=thoseA (l.take k) s:=by
 rw[List.take_succ_eq_append_getElem hk,thoseA,List.filter_append];simp[h,thoseA]
theorem thoseA_all{l:List At}{s:Bool}{n:Nat}(hn:l.length=n):thoseA (l.take n) s=thoseA l s:=by subst hn;simp
theorem thoseA_len(l:List At)(s:Bool):(thoseA l s).length≤l.length:=List.length_filter_le _ _
theorem thoseA_take_len(l:List At)(s:Bool)(k:Nat):(thoseA (l.take k) s).length≤l.length:=Nat.le_trans (thoseA_len _ _) (by rw[List.length_take];omega)
theorem thoseA_mem{l:List At}{s:Bool}{a:At}:a∈thoseA l s↔a∈l∧a.st=s:=by simp[thoseA]
def addA(laid:List At):List At→List At
 |[]=>laid
 |a:: m=>if hasA laid a.nm then addA laid m else addA (laid++[a]) m
def newA(l:List At):List At:=thoseA l true++thoseA l false
def joinA(old want:List At):List At:=(addA (thoseA old true) (thoseA want false)).take 8
theorem addA_snoc_yes{laid m:List At}{a:At}(h:hasA (addA laid m) a.nm=true):addA laid (m++[a])=addA laid m:=by
 induction m generalizing laid with
 |nil=>simp only[List.nil_append,addA] at h⊢;rw[if_pos h]
 |cons b m ih=>
  simp only[List.cons_append,addA] at h⊢;split
  ·rename_i hb;rw[if_pos hb] at h;exact ih h
  ·rename_i hb;rw[if_neg hb] at h;exact ih h
theorem addA_snoc_no{laid m:List At}{a:At}(h:hasA (addA laid m) a.nm=false):addA laid (m++[a])=addA laid m++[a]:=by
 induction m generalizing laid with
 |nil=>simp only[List.nil_append,addA] at h⊢;rw[if_neg (by simp[h])]
 |cons b m ih=>
  simp only[List.cons_append,addA] at h⊢;split
  ·rename_i hb;rw[if_pos hb] at h;exact ih h
  ·rename_i hb;rw[if_neg hb] at h;exact ih h
theorem addA_pre(laid m:List At):∃r,addA laid m=laid++r∧r.length≤m.length:=by
 induction m generalizing laid with
 |nil=>exact⟨[],by simp[addA],by simp⟩
 |cons b m ih=>
  simp only[addA];split
  ·obtain⟨r,h1,h2⟩:=ih laid;exact⟨r,h1,by simp;omega⟩
  ·obtain⟨r,h1,h2⟩:=ih (laid++[b]);exact⟨b:: r,by rw[h1];simp,by simp;omega⟩
theorem addA_append(laid m r:List At):addA laid (m++r)=addA (addA laid m) r:=by
 induction m generalizing laid with
 |nil=>rfl
 |cons b m ih=>simp only[List.cons_append,addA];split<;>exact ih _
theorem addA_take_snoc_yes{laid m:List At}{k:Nat}(hk:k<m.length)(h:hasA (addA laid (m.take k)) m[k].nm=true):addA laid (m.take (k+1))=addA laid (m.take k):=by
 rw[List.take_succ_eq_append_getElem hk];exact addA_snoc_yes h
theorem addA_take_snoc_no{laid m:List At}{k:Nat}(hk:k<m.length)(h:hasA (addA laid (m.take k)) m[k].nm=false):addA laid (m.take (k+1))=addA laid (m.take k)++[m[k]]:=by
 rw[List.take_succ_eq_append_getElem hk];exact addA_snoc_no h
theorem hasA_take_succ{l:List At}{s:ByteArray}{j:Nat}(hj:j<l.length):hasA (l.take (j+1)) s=(hasA (l.take j) s || (l[j].nm.toList==s.toList)):=by
 unfold hasA findA;rw[List.take_succ_eq_append_getElem hj,List.find?_append];cases (l.take j).find? (sameN s)<;>simp[sameN];split<;>simp_all
theorem radd_yes{S m:List At}{k:Nat}(hk:k<m.length)(h:true=(m[k].st || hasA (addA S (thoseA (m.take k) false)) m[k].nm)):addA S (thoseA (m.take (k+1)) false)=addA S (thoseA (m.take k) false):=by
 cases hs:m[k].st
 ·rw[thoseA_yes hk (by rw[hs];rfl)];rw[hs] at h;exact addA_snoc_yes (by simpa using h.symm)
 ·rw[thoseA_no hk (by rw[hs];rfl)]
theorem radd_no{S m:List At}{k:Nat}(hk:k<m.length)(h:false=(m[k].st || hasA (addA S (thoseA (m.take k) false)) m[k].nm)):addA S (thoseA (m.take (k+1)) false)=addA S (thoseA (m.take k) false)++[m[k]]:=by
 have h':=h.symm;rw[Bool.or_eq_false_iff] at h';rw[thoseA_yes hk (by rw[h'.1];rfl)];exact addA_snoc_no h'.2
theorem addA_full{laid m:List At}{k:Nat}(h:8≤(addA laid (m.take k)).length):(addA laid m).take 8=(addA laid (m.take k)).take 8:=by
 have e:addA laid m=addA (addA laid (m.take k)) (m.drop k):=(by rw[←addA_append,List.take_append_drop]);obtain⟨r,h1,_⟩:=addA_pre (addA laid (m.take k)) (m.drop k);rw[e,h1,List.take_append_of_le_length h]
theorem addA_len(laid m:List At):(addA laid m).length≤laid.length+m.length:=by
 obtain⟨r,h1,h2⟩:=addA_pre laid m;rw[h1,List.length_append];omega
theorem addA_take_len(laid m:List At)(k:Nat):(addA laid (m.take k)).length≤laid.length+m.length:=
 Nat.le_trans (addA_len _ _) (by rw[List.length_take];omega)
theorem radd_len(S m:List At)(k:Nat):(addA S (thoseA (m.take k) false)).length≤S.length+m.length:=
 Nat.le_trans (addA_len _ _) (by have:=thoseA_take_len m false k;omega)
theorem newA_len(l:List At):(newA l).length=l.length:=by
 unfold newA
 induction l with
 |nil=>rfl
 |cons a l ih=>
  rw[List.length_append] at ih⊢;cases hs:a.st<;>simp[thoseA,hs] at ih⊢<;>omega
theorem joinA_len(l m:List At):(joinA l m).length≤8:=by unfold joinA;rw[List.length_take];omega
def goodA(l:List At)(j:Nat):Bool:=
 match l[j]? with
 |some a=>P1.nameB a.nm.data.toList&&P1.textB a.vl.data.toList && !hasA (l.take j) a.nm
 |none=>true
def okA(l:List At):Bool:=(List.range l.length).all (goodA l)
def mayA(l:List At):Bool:=decide (l.length≤8)&&okA l
theorem goodA_at{l:List At}{k:Nat}(hk:k<l.length):goodA l k=(P1.nameB l[k].nm.data.toList&&P1.textB l[k].vl.data.toList && !hasA (l.take k) l[k].nm):=by
 unfold goodA;rw[List.getElem?_eq_getElem hk]
def GoodTo(l:List At)(k:Nat):Prop:=∀j,j<k→goodA l j=true
theorem GoodTo.zero(l:List At):GoodTo l 0:=fun _ h=>absurd h (by omega)
theorem GoodTo.next{l:List At}{k:Nat}(h:GoodTo l k)(hb:goodA l k=true):GoodTo l (k+1):=by
 intro j hj;by_cases e:j=k
 ·subst e;exact hb
 ·exact h j (by omega)
theorem okA_bad{l:List At}{k:Nat}(hk:k<l.length)(h:goodA l k=false):okA l=false:=by
 unfold okA;rw[List.all_eq_false];exact⟨k,List.mem_range.2 hk,by simp[h]⟩
theorem GoodTo.all{l:List At}{k:Nat}(h:GoodTo l k)(hl:l.length=k):okA l=true:=by
 unfold okA;rw[List.all_eq_true];intro j hj;exact h j (by rw[←hl];exact List.mem_range.1 hj)
theorem mayA_bad{l:List At}{k:Nat}(hk:k<l.length)(h:goodA l k=false):mayA l=false:=by
 unfold mayA;rw[okA_bad hk h];simp
theorem mayA_long{l:List At}(h:8<l.length):mayA l=false:=by
 unfold mayA;simp;omega
theorem mayA_ok{l:List At}{k:Nat}(h:GoodTo l k)(hl:l.length=k):mayA l=decide (k≤8):=by
 unfold mayA;rw[h.all hl,hl];simp
theorem mayA_iff{l:List At}:mayA l=true↔l.length≤8∧(∀a∈l,P1.nameB a.nm.data.toList=true∧P1.textB a.vl.data.toList=true)∧l.Pairwise fun a b=>a.nm.toList≠b.nm.toList:=by
 unfold mayA okA;simp only[Bool.and_eq_true,decide_eq_true_eq,List.all_eq_true,List.mem_range];refine and_congr Iff.rfl ⟨fun h=>⟨fun a ha=>?_,?_⟩,fun⟨h1,h2⟩ j hj=>?_⟩
 ·obtain⟨j,hj,rfl⟩:=List.getElem_of_mem ha;have:=h j hj;rw[goodA_at hj] at this;simp only[Bool.and_eq_true] at this;exact⟨this.1.1,this.1.2⟩
 ·rw[List.pairwise_iff_getElem];intro i j hi hj hij;have:=h j hj;rw[goodA_at hj] at this;simp only[Bool.and_eq_true,Bool.not_eq_true'] at this;exact hasA_iff_no.1 this.2 l[i] (by rw[List.mem_take_iff_getElem];exact⟨i,by omega,rfl⟩)
 ·rw[goodA_at hj];simp only[Bool.and_eq_true,Bool.not_eq_true'];refine⟨h1 _ (List.getElem_mem hj),hasA_iff_no.2 fun a ha=>?_⟩;obtain⟨i,hi,rfl⟩:=List.mem_take_iff_getElem.1 ha;exact(List.pairwise_iff_getElem.1 h2) i j (by omega) hj (by omega)
def shortA(a:At):Bool:=decide (a.nm.size≤100)&&decide (a.vl.size≤100)
def fewA(l:List At):Bool:=decide (l.length≤20)&&l.all shortA
end P3
namespace P3
open Go.RowKit
theorem Below_drewN{B:Nat}{a w:World}(h:Below B a w)(n:Nat):Below B a (w.drewN n):=⟨h.os,h.tape,h.output,h.size,h.block⟩
theorem ret_bool{a b:Bool}(h:a=b):Ending.returned (.bool a) = .returned (.bool b):=by rw[h]
def Holds(w:World)(B:Nat)(A:Option Addr)(l:List At):Prop:=
 ∀k (h:k<l.length),∃b o,A=some ⟨b,o,none⟩∧b<B∧w.cell? ⟨b,o+k*3,none⟩=some (.string l[k].nm)∧w.cell? ⟨b,o+k*3+1,none⟩=some (.string l[k].vl)∧w.cell? ⟨b,o+k*3+2,none⟩=some (.bool l[k].st)
theorem Holds.below{w w':World}{B C:Nat}{A:Option Addr}{l:List At}(h:Holds w B A l)(hb:Below C w w')(hBC:B≤C):Holds w' B A l:=by
 intro k hk;obtain⟨b,o,hA,hlt,h0,h1,h2⟩:=h k hk;refine⟨b,o,hA,hlt,?_,?_,?_⟩
 ·rw[hb.cell (by show b<C;omega)];exact h0
 ·rw[hb.cell (by show b<C;omega)];exact h1
 ·rw[hb.cell (by show b<C;omega)];exact h2
theorem Holds.more{w:World}{B B':Nat}{A:Option Addr}{l:List At}(h:Holds w B A l)(hB:B≤B'):Holds w B' A l:=by
 intro k hk;obtain⟨b,o,hA,hlt,h0⟩:=h k hk;exact⟨b,o,hA,by omega,h0⟩
theorem Holds.take{w:World}{B:Nat}{A:Option Addr}{l:List At}(h:Holds w B A l)(n:Nat):Holds w B A (l.take n):=by
 intro k hk;obtain⟨b,o,hA,hlt,h0⟩:=h k (by rw[List.length_take] at hk;omega);exact⟨b,o,hA,hlt,by simpa using h0⟩
theorem Holds.grown{w w':World}{B:Nat}{A:Option Addr}{l:List At}{row:Option Nat}(h:Holds w B A l)(hg:w.grownBy w' row)(hB:B≤w.heap.size)(hr:∀b o,A=some ⟨b,o,none⟩→some b≠row):Holds w' B A l:=by
 intro k hk;obtain⟨b,o,hA,hlt,h0,h1,h2⟩:=h k hk;have key:∀i,w'.cell? ⟨b,i,none⟩=w.cell? ⟨b,i,none⟩:=fun i=>World.cell?_of_block (hg.block b (by omega) (hr b o hA))
 exact⟨b,o,hA,hlt,by rw[key];exact h0,by rw[key];exact h1,by rw[key];exact h2⟩
theorem Holds.one{w:World}{g:Nat}{a:At}(h:w.heap[g]? = some (.cells #[.string a.nm,.string a.vl,.bool a.st] 121 (0,0))):Holds w (g+1) (some ⟨g,0,none⟩) [a]:=by
 intro k hk;have:k=0:=(by simpa using hk);subst this;exact⟨g,0,rfl,by omega,cell_of_row w g 0 _ _ (0,0) h,cell_of_row w g 1 _ _ (0,0) h,cell_of_row w g 2 _ _ (0,0) h⟩
theorem Holds.on{w w':World}{A:Option Addr}{l:List At}(h:Holds w w.heap.size A l)(hb:Below w.heap.size w w'):Holds w' w'.heap.size A l:=(h.below hb (Zl)).more hb.size
def Blk(w:World)(g:Nat)(a:At):Prop:=w.heap[g]? = some (.cells #[.string a.nm,.string a.vl,.bool a.st] 121 (0,0))
section
variable{w w':World}{g:Nat}{a:At}
theorem Blk.lt(h:Blk w g a):g<w.heap.size:=by
 rcases Nat.lt_or_ge g w.heap.size with hlt|hge
 ·exact hlt
 ·unfold Blk at h;rw[Array.getElem?_eq_none hge] at h;cases h
theorem Blk.c0(h:Blk w g a):w.cell? ⟨g,0,none⟩=some (.string a.nm):=cell_of_row w g 0 _ _ (0,0) h
theorem Blk.c1(h:Blk w g a):w.cell? ⟨g,1,none⟩=some (.string a.vl):=cell_of_row w g 1 _ _ (0,0) h
theorem Blk.c2(h:Blk w g a):w.cell? ⟨g,2,none⟩=some (.bool a.st):=cell_of_row w g 2 _ _ (0,0) h
theorem Blk.frozen(h:Blk w g a)(i:Nat):w.frozen? ⟨g,i,none⟩=false:=by
 unfold Blk at h;simp[World.frozen?,h]
theorem Blk.new(w:World)(a:At):Blk (w.alloc (.cells #[.string a.nm,.string a.vl,.bool a.st] 121)) w.heap.size a:=heap_alloc_new w _
theorem Blk.newS(w:World){a:At}{s:Bool}(h:a.st=s):Blk (w.alloc (.cells #[.string a.nm,.string a.vl,.bool s] 121)) w.heap.size a:=by
 subst h;exact Blk.new w a
theorem Blk.new2(w:World)(o:Obj)(a:At):Blk ((w.alloc o).alloc (.cells #[.string a.nm,.string a.vl,.bool a.st] 121)) (w.heap.size+1) a:=by
 have:=Blk.new (w.alloc o) a;simpa using this
theorem Blk.alloc(h:Blk w g a)(o:Obj):Blk (w.alloc o) g a:=(Below.heap_alloc w o g h.lt).trans h
theorem Blk.below{B:Nat}(h:Blk w g a)(hb:Below B w w')(hg:g<B):Blk w' g a:=(hb.block g hg).trans h
end
theorem eqg:Tryz.prog.eqGuardType Tryz.prog.depth 121=false:=by kernel_rfl
theorem heldA:Tryz.prog.stoodInHeld 121=false:=by kernel_rfl
theorem eq_run(a b:At)(d:Nat)(w:World):(Op.equalIn (d+2) 121 (.agg #[.string a.nm,.string a.vl,.bool a.st]) (.agg #[.string b.nm,.string b.vl,.bool b.st])).run Tryz.prog w = .ok (atB a b) w:=by
 rw[run_equalIn_struct w (d+1) 121 _ _ (by unfold Program.fieldsOf;rw[Tryz.underlying121]) heldA];simp[Program.fieldsOf,Tryz.underlying121,Op.eqFields,go_sem,Tryz.underlying9,Tryz.underlying4,part];unfold atB;by_cases h1:a.nm.toList=b.nm.toList<;>by_cases h2:a.vl.toList=b.vl.toList<;>by_cases h3:a.st=b.st<;>simp[h1,h2,h3]
theorem neq_at{a b:At}{r:Bool}(h:atB a b=r)(w:World):(binOp .neq 121 (.agg #[.string a.nm,.string a.vl,.bool a.st]) (.agg #[.string b.nm,.string b.vl,.bool b.st])).run Tryz.prog w = .ok (.bool (!r)) w:=by
 rw[run_neq_struct,eq_run a b 9998 w,h];rfl
theorem ret_find{o o':Option At}(h:o=o'):Ending.returned (.tuple #[.agg #[.string (o.getD At.none).nm,.string (o.getD At.none).vl,.bool (o.getD At.none).st],.bool o.isSome]) = .returned (.tuple #[.agg #[.string (o'.getD At.none).nm,.string (o'.getD At.none).vl,.bool (o'.getD At.none).st],.bool o'.isSome]):=by rw[h]
theorem find_any(l:List At)(A:Option Addr)(n c:Nat)(s:ByteArray)(w:World)(hn:l.length=n)(hl:n≤1000000)(H:Holds w w.heap.size A l):
 Calls Tryz.prog 155 #[.slice A n c,.string s] w fun e w'=>e = .returned (.tuple #[.agg #[.string ((findA l s).getD At.none).nm,.string ((findA l s).getD At.none).vl,.bool ((findA l s).getD At.none).st],.bool (findA l s).isSome])∧Below w.heap.size w w':=by
 have HH:=Zh H;have HN0:=Zh hn;clear H hn;go_enter Tryz.func155,Tryz.ntmps155;go_wp2_with fail;go_loopw [10] (fun i wr=>∃k:Nat,k≤n∧i = .int .i64 k∧Hid (Below w.heap.size w wr)∧Hid (Blk wr w.heap.size At.none)∧Hid (findA (l.take k) s=none)) (fun i _=>n-(intOf i).toNat)
 case atStart=>exact⟨0,by omega,rfl,Zh (Zb _ _),Zh (Blk.new w At.none),Zh (by simp[findA])⟩
 case round=>
  obtain⟨k,hk,rfl,HW,HB,HN⟩:=hrel;have hz:w.heap.size<wr.heap.size:=HB.out.lt;have c0:=HB.out.c0;have c1:=HB.out.c1;have c2:=HB.out.c2;have f0:=HB.out.frozen 0;have f1:=HB.out.frozen 1;have f2:=HB.out.frozen 2;by_cases hlt:k<n
  ·have hlt':k<l.length:=(by have:=HN0.out;omega);obtain⟨b,o,rfl,hb,h0,h1,h2⟩:=(HH.out.below HW.out (Zl)) k hlt';go_wp2_with fail
   ·refine bodyPost_ret (v:=.tuple #[.agg #[.string l[k].nm,.string l[k].vl,.bool l[k].st],.bool true]) (by simp[results,Tryz.results155,go_sem,c0,c1,c2,hz]) rfl ⟨ret_find (o:=some l[k]) (findA_some HN.out hlt' ‹_›).symm,?_⟩;refine Below.alloc (Below.setCell (Below.setCell (Below.setCell HW.out ?_ _) ?_ _) ?_ _) ?_ _<;>first|exact Zl|(simp;omega)
   ·go_roundw
    case rel=>exact⟨k+1,by omega,by go_num,Zh (HW.out.alloc (by omega) _),Zh (HB.out.alloc _),Zh (findA_next HN.out hlt' ‹_›)⟩
    case measure=>simp[intOf];omega
  ·obtain rfl:k=n:=by omega
   have HN2:=Zh (findA_none HN0.out HN.out);go_wp2_with fail;refine bodyPost_ret (v:=.tuple #[.agg #[.string At.none.nm,.string At.none.vl,.bool At.none.st],.bool false]) (by simp[results,Tryz.results155,go_sem,c0,c1,c2,At.none]) rfl ⟨ret_find (o:=none) HN2.out.symm,?_⟩;refine Below.setCell (Below.setCell (Below.setCell HW.out ?_ _) ?_ _) ?_ _<;>exact Zl
theorem has_any(l:List At)(A:Option Addr)(n c:Nat)(s:ByteArray)(w:World)(hn:l.length=n)(hl:n≤1000000)(H:Holds w w.heap.size A l):
 Calls Tryz.prog 130 #[.slice A n c,.string s] w fun e w'=>e = .returned (.bool (hasA l s))∧Below w.heap.size w w':=by
 have HH:=Zh H;have HN0:=Zh hn;clear H hn;go_enter Tryz.func130,Tryz.ntmps130;go_wp2_with fail;refine(find_any l A n c s _ HN0.out hl HH.out).mono ?_;rintro e w1 ⟨rfl,b1⟩;have B1:=Zh b1;clear b1;go_wp2_with fail;go_ret;exact⟨rfl,B1.out.alloc B1.out.size _⟩
theorem has_at(l:List At)(A:Option Addr)(n c:Nat)(s:ByteArray)(w:World){r:Bool}(hr:hasA l s=r)(hn:l.length=n)(hl:n≤1000000)(H:Holds w w.heap.size A l):
 Calls Tryz.prog 130 #[.slice A n c,.string s] w fun e w'=>e = .returned (.bool r)∧Below w.heap.size w w':=by
 subst hr;exact has_any l A n c s w hn hl H
end P3
namespace P1
open Go.RowKit
theorem letter_any(c:UInt8)(w:World):Calls Tryz.prog 150 #[.int .u8 (c.toNat:Int)] w fun e w'=>e = .returned (.bool (letB c))∧w=w':=by
 go_enter Tryz.func150,Tryz.ntmps150;go_wp2_with fail
 all_goals (go_ret;exact⟨ret_bool (by first|(rw[letB_no (by omega)])|exact letB_mk (by omega)),rfl⟩)
theorem rletter_any(c:UInt8)(w:World):Calls Tryz.prog 83 #[.int .u8 (c.toNat:Int)] w fun e w'=>e = .returned (.bool (letB c))∧w=w':=by
 go_enter Tryz.func83,Tryz.ntmps83;go_wp2_with fail
 all_goals (go_ret;exact⟨ret_bool (by first|(rw[letB_no (by omega)])|exact letB_mk (by omega)),rfl⟩)
theorem digit_any(c:UInt8)(w:World):Calls Tryz.prog 151 #[.int .u8 (c.toNat:Int)] w fun e w'=>e = .returned (.bool (digB c))∧w=w':=by
 go_enter Tryz.func151,Tryz.ntmps151;go_wp2_with fail
 all_goals (go_ret;exact⟨ret_bool (by first|(rw[digB_no (by omega)])|(unfold digB;simp;omega)),rfl⟩)
theorem may_any(s:ByteArray)(w:World)(hs:s.size≤maxLen):Calls Tryz.prog 123 #[.string s] w fun e w'=>e = .returned (.bool (nameB s.data.toList))∧w=w':=by
 unfold maxLen at hs;by_cases h0:s.size=0
 ·have hE:s.toList=[]:=toList_nil h0;have hE2:s.toList.isEmpty=true:=(by rw[hE];rfl);go_enter Tryz.func123,Tryz.ntmps123;go_wp2_with fail;go_ret;exact⟨ret_bool (nameB_empty h0).symm,rfl⟩
 ·have h1:0<s.size:=(by omega);have hE2:s.toList.isEmpty=false:=toList_cons h1;have hE3:¬s.toList=[]:=(by intro e;rw[e] at hE2;cases hE2);clear h0;by_cases h12:12<s.size
  ·go_enter Tryz.func123,Tryz.ntmps123;go_wp2_with fail;go_ret;exact⟨ret_bool (nameB_long h12).symm,rfl⟩
  ·go_enter Tryz.func123,Tryz.ntmps123;go_wp2_with fail;refine(letter_any _ _).mono ?_;rintro e w' ⟨rfl,rfl⟩;cases hl:letB s[0]
   ·go_wp2_with fail;go_ret;exact⟨ret_bool (nameB_head h1 hl).symm,rfl⟩
   ·have HL:=Zh hl;go_wp2_with fail;clear hl;go_loop [3] (fun i=>∃k:Nat,1≤k∧k≤s.size∧i = .int .i64 k∧InTo s k) (fun i=>s.size-(intOf i).toNat)
    case atStart=>exact⟨1,by omega,by omega,rfl,InTo.one s⟩
    case round=>
     obtain⟨k,hk1,hk,rfl,hin⟩:=hrel;have HIN:=Zh hin;clear hin;by_cases hlt:k<s.size
     ·go_wp2_with (first|(go_at_call 150;refine(letter_any _ _).mono ?_;rintro e w' ⟨rfl,rfl⟩)|(go_at_call 151;refine(digit_any _ _).mono ?_;rintro e w' ⟨rfl,rfl⟩))
      all_goals first|(go_ret;exact⟨ret_bool (nameB_bad hk1 hlt (inB_no ‹_› ‹_› ‹_›)).symm,rfl⟩)|skip
      all_goals
       go_round
       case rel=>exact⟨k+1,by omega,by omega,by go_num,HIN.out.next hlt (by first|exact inB_let ‹_›|exact inB_dig ‹_›|exact inB_dash ‹_›)⟩
       case measure=>simp[intOf];omega
     ·obtain rfl:k=s.size:=by omega
      go_wp2_with fail;go_ret;exact⟨ret_bool (nameB_ok h1 (by omega) HL.out HIN.out).symm,rfl⟩
theorem rname_any(s:ByteArray)(w:World)(hs:s.size≤maxLen):Calls Tryz.prog 38 #[.string s] w fun e w'=>e = .returned (.bool (nameB s.data.toList))∧w=w':=by
 unfold maxLen at hs;by_cases h0:s.size<1
 ·go_enter Tryz.func38,Tryz.ntmps38;go_wp2_with fail;go_ret;exact⟨ret_bool (nameB_empty (by omega)).symm,rfl⟩
 ·have h1:0<s.size:=(by omega);clear h0;by_cases h12:12<s.size
  ·go_enter Tryz.func38,Tryz.ntmps38;go_wp2_with fail;go_ret;exact⟨ret_bool (nameB_long h12).symm,rfl⟩
  ·go_enter Tryz.func38,Tryz.ntmps38;go_wp2_with fail;go_loop [3] (fun i=>∃k:Nat,0≤k∧k≤s.size∧i = .int .i64 k∧InTo s k∧(0<k→letB s[0]=true)) (fun i=>s.size-(intOf i).toNat)
   case atStart=>exact⟨0,by omega,by omega,rfl,fun _ _ _ h=>absurd h (by omega),fun h=>absurd h (by omega)⟩
   case round=>
    obtain⟨k,hk1,hk,rfl,hin,hl0⟩:=hrel;have HIN:=Zh hin;have HL:=Zh hl0;clear hin hl0;by_cases hlt:k<s.size
    ·by_cases hk0:k=0
     ·subst hk0;go_wp2_with (go_at_call 83;refine(rletter_any _ _).mono ?_;rintro e w' ⟨rfl,rfl⟩)
      all_goals first|(go_ret;exact⟨ret_bool (nameB_head h1 (Bool.eq_false_iff.mpr ‹_›)).symm,rfl⟩)|skip
      go_round
      case rel=>exact⟨1,by omega,by omega,rfl,InTo.one s,fun _=>‹_›⟩
      case measure=>simp[intOf];omega
     ·have hk1:1≤k:=(by omega);have hk2:((k:Int)==0)=false:=(by simpa using hk0);clear hk0;by_cases hd1:(s[k].toNat:Int)<48
      ·cases hd3:((s[k].toNat:Int) != 45)
       all_goals
        go_wp2_with (go_at_call 83;refine(rletter_any _ _).mono ?_;rintro e w' ⟨rfl,rfl⟩)
        all_goals first|(go_ret;exact⟨ret_bool (nameB_bad hk1 hlt (inB_no' ‹_› (by omega) hd3)).symm,rfl⟩)|skip
        all_goals
         go_round
         case rel=>exact⟨k+1,by omega,by omega,by go_num,HIN.out.next hlt (by first|exact inB_let ‹_›|exact inB_dash ‹_›),fun _=>HL.out hk1⟩
         case measure=>simp[intOf];omega
      ·have hd1':48≤(s[k].toNat:Int):=(by omega);by_cases hd2:57<(s[k].toNat:Int)
       ·have hd3:((s[k].toNat:Int) != 45)=true:=(by simp;omega);go_wp2_with (go_at_call 83;refine(rletter_any _ _).mono ?_;rintro e w' ⟨rfl,rfl⟩)
        all_goals first|(go_ret;exact⟨ret_bool (nameB_bad hk1 hlt (inB_no' ‹_› (by omega) hd3)).symm,rfl⟩)|skip
        all_goals
         go_round
         case rel=>exact⟨k+1,by omega,by omega,by go_num,HIN.out.next hlt (inB_let ‹_›),fun _=>HL.out hk1⟩
         case measure=>simp[intOf];omega
       ·go_wp2_with (go_at_call 83;refine(rletter_any _ _).mono ?_;rintro e w' ⟨rfl,rfl⟩)
        all_goals
         go_round
         case rel=>exact⟨k+1,by omega,by omega,by go_num,HIN.out.next hlt (inB_dig' hd1' (by omega)),fun _=>HL.out hk1⟩
         case measure=>simp[intOf];omega
    ·obtain rfl:k=s.size:=by omega
     go_wp2_with fail;go_ret;exact⟨ret_bool (nameB_ok h1 (by omega) (HL.out h1) HIN.out).symm,rfl⟩
theorem text_any(s:ByteArray)(w:World)(hs:s.size≤maxLen):Calls Tryz.prog 108 #[.string s] w fun e w'=>e = .returned (.bool (textB s.data.toList))∧w=w':=by
 unfold maxLen at hs;by_cases h60:60<s.size
 ·go_enter Tryz.func108,Tryz.ntmps108;go_wp2_with fail;go_ret;exact⟨ret_bool (textB_long h60).symm,rfl⟩
 ·go_enter Tryz.func108,Tryz.ntmps108;go_wp2_with fail;go_loop [3] (fun i=>∃k:Nat,0≤k∧k≤s.size∧i = .int .i64 k∧OkTo s k) (fun i=>s.size-(intOf i).toNat)
  case atStart=>exact⟨0,by omega,by omega,rfl,OkTo.zero s⟩
  case round=>
   obtain⟨k,hk1,hk,rfl,hin⟩:=hrel;have HIN:=Zh hin;clear hin;by_cases hlt:k<s.size
   ·by_cases hb:(s[k].toNat:Int)<32
    ·go_wp2_with fail;go_ret;exact⟨ret_bool (textB_bad hlt (.inl hb)).symm,rfl⟩
    ·have hb1:32≤(s[k].toNat:Int):=(by omega);by_cases hb2:126<(s[k].toNat:Int)
     ·go_wp2_with fail;go_ret;exact⟨ret_bool (textB_bad hlt (.inr hb2)).symm,rfl⟩
     ·go_wp2_with fail;go_round
      case rel=>exact⟨k+1,by omega,by omega,by go_num,HIN.out.next hlt hb1 (by omega)⟩
      case measure=>simp[intOf];omega
   ·obtain rfl:k=s.size:=by omega
    go_wp2_with fail;go_ret;exact⟨ret_bool (textB_ok (by omega) HIN.out).symm,rfl⟩
theorem rtext_any(s:ByteArray)(w:World)(hs:s.size≤maxLen):Calls Tryz.prog 37 #[.string s] w fun e w'=>e = .returned (.bool (textB s.data.toList))∧w=w':=by
 unfold maxLen at hs;go_enter Tryz.func37,Tryz.ntmps37;go_wp2_with fail;go_loop [3] (fun i=>∃k:Nat,0≤k∧k≤s.size∧i = .int .i64 k∧OkTo s k) (fun i=>s.size-(intOf i).toNat)
 case atStart=>exact⟨0,by omega,by omega,rfl,OkTo.zero s⟩
 case round=>
  obtain⟨k,hk1,hk,rfl,hin⟩:=hrel;have HIN:=Zh hin;clear hin;by_cases hlt:k<s.size
  ·by_cases hb:(s[k].toNat:Int)<32
   ·go_wp2_with fail;go_ret;exact⟨ret_bool (textB_bad hlt (.inl hb)).symm,rfl⟩
   ·have hb1:32≤(s[k].toNat:Int):=(by omega);by_cases hb2:126<(s[k].toNat:Int)
    ·go_wp2_with fail;go_ret;exact⟨ret_bool (textB_bad hlt (.inr hb2)).symm,rfl⟩
    ·go_wp2_with fail;go_round
     case rel=>exact⟨k+1,by omega,by omega,by go_num,HIN.out.next hlt hb1 (by omega)⟩
     case measure=>simp[intOf];omega
  ·obtain rfl:k=s.size:=by omega
   go_wp2_with fail;go_ret;exact⟨ret_bool (by rw[textB_all HIN.out];exact decide_eq_decide.mpr (by omega)),rfl⟩
end P1
namespace P3
open Go.RowKit
theorem nmay_at(s:ByteArray)(w:World){r:Bool}(h:P1.nameB s.data.toList=r)(hs:s.size≤maxLen):Calls Tryz.prog 123 #[.string s] w fun e w'=>e = .returned (.bool r)∧w=w':=by
 subst h;exact P1.may_any s w hs
theorem ntext_at(s:ByteArray)(w:World){r:Bool}(h:P1.textB s.data.toList=r)(hs:s.size≤maxLen):Calls Tryz.prog 108 #[.string s] w fun e w'=>e = .returned (.bool r)∧w=w':=by
 subst h;exact P1.text_any s w hs
theorem quiet_left{P:Program}{f:FuncId}{args:Array Value}{w:World}{n:Nat}{v:Value}
 (h:Calls P f args (w.drewN n) fun e w'=>e = .returned v∧w.drewN n=w'):Calls P f args (w.drewN n) fun e w'=>e = .returned v∧∃m,w'=w.drewN m:=
 h.mono fun _ _ ⟨he,hm⟩=>⟨he,n,hm.symm⟩
theorem may_below{a w w':World}{B:Nat}{o:Obj}(h:Below B a w)(hB:B≤w.heap.size)(n:Nat)(h2:Below ((w.alloc o).drewN n).heap.size ((w.alloc o).drewN n) w'):Below B a w':=
 (Below_drewN (h.alloc hB o) n).trans (h2.mono (by show B≤(w.alloc o).heap.size;simp;omega))
def Wf(l:List At):Prop:=∀a∈l,a.nm.size≤maxLen∧a.vl.size≤maxLen
theorem Wf.at_{l:List At}(h:Wf l){k:Nat}(hk:k<l.length):l[k].nm.size≤maxLen∧l[k].vl.size≤maxLen:=h _ (List.getElem_mem hk)
theorem may_any(l:List At)(A:Option Addr)(n c:Nat)(w:World)(hn:l.length=n)(hl:n≤1000000)(hnc:n≤c)(hwf:Wf l)(H:Holds w w.heap.size A l):
 Calls Tryz.prog 107 #[.slice A n c] w fun e w'=>e = .returned (.bool (mayA l))∧Below w.heap.size w w':=by
 have HH:=Zh H;have HN:=Zh hn;have HF:=Zh hwf;clear H hn hwf;by_cases h8:8<n
 ·go_enter Tryz.func107,Tryz.ntmps107;go_wp2_with fail;go_ret;exact⟨ret_bool (mayA_long (by have:=HN.out;omega)).symm,Ze⟩
 ·go_enter Tryz.func107,Tryz.ntmps107;go_wp2_with fail;go_loopw [10] (fun i wr=>∃k:Nat,k≤n∧i = .int .i64 k∧Hid (Below w.heap.size w wr)∧Hid (GoodTo l k)) (fun i _=>n-(intOf i).toNat)
  case atStart=>exact⟨0,by omega,rfl,Zh Ze,Zh (GoodTo.zero _)⟩
  case round=>
   obtain⟨k,hk,rfl,HW,HG⟩:=hrel;have hz:w.heap.size≤wr.heap.size:=HW.out.size;by_cases hlt:k<n
   ·have hlt':k<l.length:=(by have:=HN.out;omega);obtain⟨b,o,rfl,hb,h0,h1,h2⟩:=(HH.out.below HW.out (Zl)) k hlt';obtain⟨hs1,hs2⟩:=HF.out.at_ hlt';cases hnm:P1.nameB l[k].nm.data.toList
    ·have HNM:=Zh hnm;clear hnm;go_wp2_with fail;go_quiet ((go_at_call 123;exact quiet_left (nmay_at _ _ HNM.out hs1)));go_wp2_with fail;go_ret;exact⟨ret_bool (mayA_bad hlt' (by rw[goodA_at hlt',HNM.out];rfl)).symm,Below_drewN (HW.out.alloc hz _) _⟩
    ·have HNM:=Zh hnm;clear hnm;cases htx:P1.textB l[k].vl.data.toList
     ·have HTX:=Zh htx;clear htx;go_wp2_with fail;go_quiet ((first|(go_at_call 123;exact quiet_left (nmay_at _ _ HNM.out hs1))|(go_at_call 108;exact quiet_left (ntext_at _ _ HTX.out hs2))));go_wp2_with fail;go_ret;exact⟨ret_bool (mayA_bad hlt' (by rw[goodA_at hlt',HTX.out];simp)).symm,Below_drewN (HW.out.alloc hz _) _⟩
     ·have HTX:=Zh htx;clear htx;cases hh:hasA (l.take k) l[k].nm
      ·have HS:=Zh hh;clear hh;go_wp2_with fail;have K3:=Zh (Blk.new wr l[k]);have i0:(0:Int)≤(k:Int):=(by omega);have i1:(k:Int)≤(c:Int):=(by omega);go_region_held3 (fun w'=>w'.cell? ⟨wr.heap.size,0,none⟩=some (.string l[k].nm)∧w'.cell? ⟨wr.heap.size,1,none⟩=some (.string l[k].vl)) (go_keep) ((first
        |(go_at_call 123;refine(nmay_at _ _ HNM.out hs1).mono ?_;rintro e w' ⟨rfl,rfl⟩)
        |(go_at_call 108;refine(ntext_at _ _ HTX.out hs2).mono ?_;rintro e w' ⟨rfl,rfl⟩)
        |(go_at_call 130;refine(has_at (l.take k) (some ⟨b,o,none⟩) k c _ _ HS.out (by simp;omega) (by omega) (((HH.out.take k).on HW.out).on (by first|exact Below_drewN (Zb _ _) _|exact Below.drew (Zb _ _)))).mono ?_;rintro e w3 ⟨rfl,b3⟩;have KK:Blk w3 wr.heap.size l[k]:=Blk.below (by exact K3.out) b3 (by simp);have k0:=KK.c0;have k1:=KK.c1;have B3:=Zh b3;clear b3)))
       go_wp2_with fail;go_roundw
       case rel=>exact⟨k+1,by omega,by go_num,Zh (may_below HW.out hz _ B3.out),Zh (HG.out.next (by rw[goodA_at hlt',HNM.out,HTX.out,HS.out];rfl))⟩
       case measure=>simp[intOf];omega
      ·have HS:=Zh hh;clear hh;go_wp2_with fail;have K3:=Zh (Blk.new wr l[k]);have i0:(0:Int)≤(k:Int):=(by omega);have i1:(k:Int)≤(c:Int):=(by omega);go_region_held3 (fun w'=>w'.cell? ⟨wr.heap.size,0,none⟩=some (.string l[k].nm)∧w'.cell? ⟨wr.heap.size,1,none⟩=some (.string l[k].vl)) (go_keep) ((first
        |(go_at_call 123;refine(nmay_at _ _ HNM.out hs1).mono ?_;rintro e w' ⟨rfl,rfl⟩)
        |(go_at_call 108;refine(ntext_at _ _ HTX.out hs2).mono ?_;rintro e w' ⟨rfl,rfl⟩)
        |(go_at_call 130;refine(has_at (l.take k) (some ⟨b,o,none⟩) k c _ _ HS.out (by simp;omega) (by omega) (((HH.out.take k).on HW.out).on (by first|exact Below_drewN (Zb _ _) _|exact Below.drew (Zb _ _)))).mono ?_;rintro e w3 ⟨rfl,b3⟩;have KK:Blk w3 wr.heap.size l[k]:=Blk.below (by exact K3.out) b3 (by simp);have k0:=KK.c0;have k1:=KK.c1;have B3:=Zh b3;clear b3)))
       go_wp2_with fail;go_ret;exact⟨ret_bool (mayA_bad hlt' (by rw[goodA_at hlt',HS.out];simp)).symm,may_below HW.out hz _ B3.out⟩
   ·obtain rfl:k=n:=by omega
    go_wp2_with fail;go_ret;exact⟨ret_bool (by rw[mayA_ok HG.out HN.out];simp;omega),HW.out⟩
theorem rname_at(s:ByteArray)(w:World){r:Bool}(h:P1.nameB s.data.toList=r)(hs:s.size≤maxLen):Calls Tryz.prog 38 #[.string s] w fun e w'=>e = .returned (.bool r)∧w=w':=by
 subst h;exact P1.rname_any s w hs
theorem rtext_at(s:ByteArray)(w:World){r:Bool}(h:P1.textB s.data.toList=r)(hs:s.size≤maxLen):Calls Tryz.prog 37 #[.string s] w fun e w'=>e = .returned (.bool r)∧w=w':=by
 subst h;exact P1.rtext_any s w hs
theorem rsame_any(l m:List At)(A B:Option Addr)(n n' c d:Nat)(w:World)(hn:l.length=n)(hn':m.length=n')(hl:n≤1000000)(hm:n'≤1000000)(H:Holds w w.heap.size A l)(H2:Holds w w.heap.size B m):
 Calls Tryz.prog 48 #[.slice A n c,.slice B n' d] w fun e w'=>e = .returned (.bool (sameA l m))∧Below w.heap.size w w':=by
 have HH:=Zh H;have HH2:=Zh H2;have HN:=Zh hn;have HN':=Zh hn';clear H H2 hn hn';by_cases hlen:n=n'
 ·subst hlen;go_enter Tryz.func48,Tryz.ntmps48;go_wp2_with fail;go_loopw [5] (fun i wr=>∃k:Nat,k≤n∧i = .int .i64 k∧Hid (Below w.heap.size w wr)∧Hid (SameTo l m k)) (fun i _=>n-(intOf i).toNat)
  case atStart=>exact⟨0,by omega,rfl,Zh Ze,Zh (SameTo.zero _ _)⟩
  case round=>
   obtain⟨k,hk,rfl,HW,HS⟩:=hrel;by_cases hlt:k<n
   ·have hlt1:k<l.length:=(by have:=HN.out;omega);have hlt2:k<m.length:=(by have:=HN'.out;omega);obtain⟨b,o,rfl,hb,h0,h1,h2⟩:=(HH.out.below HW.out (Zl)) k hlt1;obtain⟨b',o',rfl,hb',h0',h1',h2'⟩:=(HH2.out.below HW.out (Zl)) k hlt2;have hg:=eqg;cases hat:atB l[k] m[k]
    ·have hq:=neq_at hat;have HAT:=Zh hat;clear hat;go_wp2_with fail;go_quiet (fail);go_wp2_with fail;go_ret;exact⟨ret_bool (sameA_bad hlt1 hlt2 HAT.out).symm,Below_drewN HW.out _⟩
    ·have hq:=neq_at hat;have HAT:=Zh hat;clear hat;go_wp2_with fail;go_quiet (fail);go_wp2_with fail;go_roundw
     case rel=>exact⟨k+1,by omega,by go_num,Zh (Below_drewN HW.out _),Zh (HS.out.next hlt1 hlt2 HAT.out)⟩
     case measure=>simp[intOf];omega
   ·obtain rfl:k=n:=by omega
    go_wp2_with fail;go_ret;exact⟨ret_bool (HS.out.all HN.out HN'.out).symm,HW.out⟩
 ·have he:((n:Int) != (n':Int))=true:=(by simp;omega);have HL:Hid (l.length≠m.length):=Zh (by rw[HN.out,HN'.out];exact hlen);clear hlen;go_enter Tryz.func48,Tryz.ntmps48;go_wp2_with fail;go_ret;exact⟨ret_bool (sameA_len HL.out).symm,Ze⟩
theorem hasA_of{l:List At}{s:ByteArray}{j k:Nat}(hj:j<l.length)(hjk:j<k)(he:(l[j].nm.toList==s.toList)=true):hasA (l.take k) s=true:=
 hasA_iff.2 ⟨l[j],List.mem_take_iff_getElem.2 ⟨j,by omega,rfl⟩,by simpa using he⟩
theorem hasA_no{l:List At}{s:ByteArray}(h:findA l s=none):hasA l s=false:=by unfold hasA;rw[h];rfl
theorem rmay_any(l:List At)(A:Option Addr)(n c:Nat)(w:World)(hn:l.length=n)(hl:n≤1000000)(hwf:Wf l)(H:Holds w w.heap.size A l):
 Calls Tryz.prog 39 #[.slice A n c] w fun e w'=>e = .returned (.bool (mayA l))∧Below w.heap.size w w':=by
 have HH:=Zh H;have HN:=Zh hn;have HF:=Zh hwf;clear H hn hwf;go_enter Tryz.func39,Tryz.ntmps39;go_wp2_with fail;go_loopw [3] (fun i wr=>∃k:Nat,k≤n∧i = .int .i64 k∧Hid (Below w.heap.size w wr)∧Hid (GoodTo l k)) (fun i _=>n-(intOf i).toNat)
 case atStart=>exact⟨0,by omega,rfl,Zh Ze,Zh (GoodTo.zero _)⟩
 case round=>
  obtain⟨k,hk,rfl,HW,HG⟩:=hrel;by_cases hlt:k<n
  ·have hlt':k<l.length:=(by have:=HN.out;omega);obtain⟨b,o,hA,hb,h0,h1,h2⟩:=(HH.out.below HW.out (Zl)) k hlt';subst hA;obtain⟨hs1,hs2⟩:=HF.out.at_ hlt';cases hnm:P1.nameB l[k].nm.data.toList
   ·have HNM:=Zh hnm;clear hnm;go_wp2_with fail;refine(rname_at _ _ HNM.out hs1).mono ?_;rintro e w' ⟨rfl,rfl⟩;go_wp2_with fail;refine(P1.rtext_any _ _ hs2).mono ?_;rintro e w' ⟨rfl,rfl⟩;go_wp2_with fail;go_ret;exact⟨ret_bool (mayA_bad hlt' (by rw[goodA_at hlt',HNM.out];rfl)).symm,HW.out⟩
   ·have HNM:=Zh hnm;clear hnm;cases htx:P1.textB l[k].vl.data.toList
    ·have HTX:=Zh htx;clear htx;go_wp2_with fail;refine(rname_at _ _ HNM.out hs1).mono ?_;rintro e w' ⟨rfl,rfl⟩;go_wp2_with fail;refine(rtext_at _ _ HTX.out hs2).mono ?_;rintro e w' ⟨rfl,rfl⟩;go_wp2_with fail;go_ret;exact⟨ret_bool (mayA_bad hlt' (by rw[goodA_at hlt',HTX.out];simp)).symm,HW.out⟩
    ·have HTX:=Zh htx;clear htx;go_wp2_with fail;refine(rname_at _ _ HNM.out hs1).mono ?_;rintro e w' ⟨rfl,rfl⟩;go_wp2_with fail;refine(rtext_at _ _ HTX.out hs2).mono ?_;rintro e w' ⟨rfl,rfl⟩;go_wp2_with fail;obtain⟨wo,rfl⟩:∃wo:World,wo=wr:=⟨_,rfl⟩;go_loopw [6] (fun i wr=>∃j:Nat,j≤k∧i = .int .i64 j∧Hid (Below w.heap.size w wr)∧Hid (findA (l.take j) l[k].nm=none)) (fun i _=>k-(intOf i).toNat)
     case atStart=>exact⟨0,by omega,rfl,HW,Zh (by simp[findA])⟩
     case round=>
      obtain⟨j,hj,rfl,HWi,HFi⟩:=hrel;by_cases hjk:j<k
      ·have hjl:j<l.length:=(by omega);obtain⟨b',o',hA',hb',g0,g1,g2⟩:=(HH.out.below HWi.out (Zl)) j hjl;obtain⟨b'',o'',hA'',hb'',q0,q1,q2⟩:=(HH.out.below HWi.out (Zl)) k hlt';injection hA' with hA';injection hA' with e1 e2;subst e1;subst e2;injection hA'' with hA'';injection hA'' with e1 e2;subst e1;subst e2;cases he:(l[j].nm.toList==l[k].nm.toList)
       ·have HE:=Zh he;go_wp2_with fail;go_quiet (fail);go_wp2_with fail;go_roundw
        case rel=>exact⟨j+1,by omega,by go_num,Zh (Below_drewN HWi.out _),Zh (findA_next HFi.out hjl HE.out)⟩
        case measure=>simp[intOf];omega
       ·have HE:=Zh he;go_wp2_with fail;go_quiet (fail);go_wp2_with fail;go_ret;exact⟨ret_bool (mayA_bad hlt' (by rw[goodA_at hlt',hasA_of hjl hjk HE.out];simp)).symm,Below_drewN HWi.out _⟩
      ·obtain rfl:j=k:=by omega
       go_wp2_with fail;go_roundw
       case rel=>exact⟨j+1,by omega,by go_num,HWi,Zh (HG.out.next (by rw[goodA_at hlt',HNM.out,HTX.out,hasA_no HFi.out];rfl))⟩
       case measure=>simp[intOf];omega
  ·obtain rfl:k=n:=by omega
   go_wp2_with fail;go_ret;exact⟨ret_bool (by rw[mayA_ok HG.out HN.out];exact decide_eq_decide.mpr (by omega)),HW.out⟩
end P3
namespace P1
open Go.RowKit
theorem void_any(s:ByteArray)(w:World):Calls Tryz.prog 102 #[.string s] w fun e w'=>e = .returned (.bool (voidB s.data.toList))∧w=w':=by
 cases h1:(s.toList==[98,114])
 ·cases h2:(s.toList==[104,114])
  ·cases h3:(s.toList==[105,109,103])
   ·cases h4:(s.toList==[105,110,112,117,116])
    all_goals
     go_enter Tryz.func102,Tryz.ntmps102;go_wp2_with fail;go_ret;exact⟨ret_bool (voidB_at (by simp[h1,h2,h3,h4])),rfl⟩
   ·go_enter Tryz.func102,Tryz.ntmps102;go_wp2_with fail
    all_goals (go_ret;exact⟨ret_bool (voidB_at (by simp[h1,h2,h3])),rfl⟩)
  ·go_enter Tryz.func102,Tryz.ntmps102;go_wp2_with fail
   all_goals (go_ret;exact⟨ret_bool (voidB_at (by simp[h1,h2])),rfl⟩)
 ·go_enter Tryz.func102,Tryz.ntmps102;go_wp2_with fail
  all_goals (go_ret;exact⟨ret_bool (voidB_at (by simp[h1])),rfl⟩)
theorem rvoid_any(s:ByteArray)(w:World):Calls Tryz.prog 40 #[.string s] w fun e w'=>e = .returned (.bool (voidB s.data.toList))∧w=w':=by
 cases h1:(s.toList==[98,114])
 ·cases h2:(s.toList==[104,114])
  ·cases h3:(s.toList==[105,109,103])
   ·cases h4:(s.toList==[105,110,112,117,116])
    all_goals
     go_enter Tryz.func40,Tryz.ntmps40;go_wp2_with fail;go_ret;exact⟨ret_bool (voidB_at (by simp[h1,h2,h3,h4])),rfl⟩
   ·go_enter Tryz.func40,Tryz.ntmps40;go_wp2_with fail
    all_goals (go_ret;exact⟨ret_bool (voidB_at (by simp[h1,h2,h3])),rfl⟩)
  ·go_enter Tryz.func40,Tryz.ntmps40;go_wp2_with fail
   all_goals (go_ret;exact⟨ret_bool (voidB_at (by simp[h1,h2])),rfl⟩)
 ·go_enter Tryz.func40,Tryz.ntmps40;go_wp2_with fail
  all_goals (go_ret;exact⟨ret_bool (voidB_at (by simp[h1])),rfl⟩)
end P1
namespace Kd
open Go.RowKit
structure But(S:Nat→Prop)(a w:World):Prop where
 os:w.os=a.os
 tape:w.tape=a.tape
 output:w.output=a.output
 size:a.heap.size≤w.heap.size
 block:∀k,k<a.heap.size→¬S k→w.heap[k]? = a.heap[k]?
section
variable{S T:Nat→Prop}{a w w':World}
theorem But.refl(S:Nat→Prop)(a:World):But S a a:=⟨rfl,rfl,rfl,Zl,fun _ _ _=>rfl⟩
theorem But.trans(h:But S a w)(k:But T w w')(hT:∀i,i<a.heap.size→T i→S i):But S a w':=
 ⟨k.os.trans h.os,k.tape.trans h.tape,k.output.trans h.output,Nat.le_trans h.size k.size,fun i hi hn=>(k.block i (Nat.lt_of_lt_of_le hi h.size) (fun ht=>hn (hT i hi ht))).trans (h.block i hi hn)⟩
theorem But.mono(h:But S a w)(hS:∀i,i<a.heap.size→S i→T i):But T a w:=⟨h.os,h.tape,h.output,h.size,fun i hi hn=>h.block i hi (fun hs=>hn (hS i hi hs))⟩
theorem But.of_below(h:Below a.heap.size a w)(S:Nat→Prop):But S a w:=⟨h.os,h.tape,h.output,h.size,fun i hi _=>h.block i hi⟩
theorem But.of_grown{row:Option Nat}(h:a.grownBy w row)(hr:∀g,row=some g→g<a.heap.size→S g):But S a w:=⟨h.os,h.tape,h.output,h.size,fun i hi hn=>h.block i hi (fun e=>hn (hr i e.symm hi))⟩
theorem But.drewN(h:But S a w)(n:Nat):But S a (w.drewN n):=⟨h.os,h.tape,h.output,h.size,h.block⟩
theorem But.drew(h:But S a w):But S a w.drew:=⟨h.os,h.tape,h.output,h.size,h.block⟩
theorem But.alloc(h:But S a w)(o:Obj):But S a (w.alloc o):=
 ⟨h.os,h.tape,h.output,Nat.le_trans h.size (by simp),fun i hi hn=>(Below.heap_alloc w o i (Nat.lt_of_lt_of_le hi h.size)).trans (h.block i hi hn)⟩
theorem But.setCell(h:But S a w){p:Addr}(hp:p.block<a.heap.size→S p.block)(u:Value):But S a (w.setCell p u):=
 ⟨h.os,h.tape,h.output,by simpa[World.setCell] using h.size,fun i hi hn=>(Below.heap_setCell w p u i (by rintro rfl;exact hn (hp hi))).trans (h.block i hi hn)⟩
theorem But.to_below{B:Nat}(h:But S a w)(hS:∀i,i<a.heap.size→S i→B≤i)(hB:B≤a.heap.size):Below B a w:=
 ⟨h.os,h.tape,h.output,h.size,fun i hi=>h.block i (by omega) (fun hs=>by have:=hS i (by omega) hs;omega)⟩
theorem Below_drewN{B:Nat}(h:Below B a w)(n:Nat):Below B a (w.drewN n):=⟨h.os,h.tape,h.output,h.size,h.block⟩
end
theorem heap_lt{w:World}{g:Nat}{o:Obj}(h:w.heap[g]? = some o):g<w.heap.size:=by
 rcases Nat.lt_or_ge g w.heap.size with hlt|hge
 ·exact hlt
 ·rw[Array.getElem?_eq_none hge] at h;cases h
theorem heap_ne{w:World}{g g':Nat}{t t':TypeId}{c c':Array Value}{f f':Nat×Nat}(h:w.heap[g]? = some (.cells c t f))(h':w.heap[g']? = some (.cells c' t' f'))(hne:t≠t'):g≠g':=by
 rintro rfl;rw[h] at h';injection h' with h';injection h' with _ ht;exact hne ht
theorem heap_up{w:World}{o x:Obj}{g:Nat}(h:w.heap[g]? = some x):(w.alloc o).heap[g]? = some x:=(Below.heap_alloc w o g (heap_lt h)).trans h
theorem heap_set{w:World}{g:Nat}{cur:Array Value}{t:TypeId}{fr:Nat×Nat}(h:w.heap[g]? = some (.cells cur t fr))(o:Nat)(u:Value):(w.setCell ⟨g,o,none⟩ u).heap[g]? = some (.cells (cur.setIfInBounds o u) t fr):=by
 simp[World.setCell,Array.getElem?_modify,h]
theorem heap_setCells(g:Nat):∀(vs:List Value) (o:Nat) (w:World) (cur:Array Value) (t:TypeId) (fr:Nat×Nat),w.heap[g]? = some (.cells cur t fr)→
 ∃cur',(w.setCells g o vs).heap[g]? = some (.cells cur' t fr)∧cur'.size=cur.size∧∀k,k<cur.size→cur'[k]? = if o≤k∧k<o+vs.length then vs[k-o]? else cur[k]?
 |[],o,w,cur,t,fr,h=>⟨cur,h,rfl,fun k _=>by rw[if_neg (by simp only[List.length_nil];omega)]⟩
 |v:: r,o,w,cur,t,fr,h=>by
  obtain⟨cur',h1,h2,h3⟩:=heap_setCells g r (o+1) _ _ _ _ (heap_set h o v);refine⟨cur',h1,by rw[h2,Array.size_setIfInBounds],fun k hk=>?_⟩;rw[h3 k (by rw[Array.size_setIfInBounds];exact hk),List.length_cons];by_cases e:k=o
  ·subst e;rw[if_neg (by omega),if_pos (by omega),Nat.sub_self,Array.getElem?_setIfInBounds_self_of_lt hk];rfl
  ·by_cases hr:o+1≤k∧k<o+1+r.length
   ·rw[if_pos hr,if_pos (by omega),show k-o=k-(o+1)+1 by omega,List.getElem?_cons_succ]
   ·rw[if_neg hr,if_neg (by omega),Array.getElem?_setIfInBounds_ne (Ne.symm e)]
theorem heap_setCells_far(g:Nat){k:Nat}(hk:k≠g):∀(vs:List Value) (o:Nat) (w:World),(w.setCells g o vs).heap[k]? = w.heap[k]?
 |[],_,_=>rfl
 |v:: r,o,w=>by rw[World.setCells,heap_setCells_far g hk r,Below.heap_setCell w _ _ _ hk]
theorem setCells_same(g:Nat):∀(vs:List Value) (o:Nat) (w:World),(w.setCells g o vs).os=w.os∧(w.setCells g o vs).tape=w.tape∧(w.setCells g o vs).output=w.output∧(w.setCells g o vs).heap.size=w.heap.size
 |[],_,_=>⟨rfl,rfl,rfl,rfl⟩
 |v:: r,o,w=>by
  obtain⟨h1,h2,h3,h4⟩:=setCells_same g r (o+1) (w.setCell ⟨g,o,none⟩ v);exact⟨h1,h2,h3,h4.trans (by simp[World.setCell])⟩
theorem But.setCells{S:Nat→Prop}{a w:World}{g:Nat}(h:But S a w)(hg:g<a.heap.size→S g)(o:Nat)(vs:List Value):But S a (w.setCells g o vs):=by
 obtain⟨h1,h2,h3,h4⟩:=setCells_same g vs o w;refine⟨h1.trans h.os,h2.trans h.tape,h3.trans h.output,by rw[h4];exact h.size,fun i hi hn=>?_⟩;rw[heap_setCells_far g (by rintro rfl;exact hn (hg hi))];exact h.block i hi hn
structure Kind(P:Program)(α:Type) where
 t:TypeId
 e:TypeId
 size:Nat
 bytes:Nat
 z:Value
 cs:α→List Value
 ht:P.underlying t=some (.slice e)
 info:∃i,P.info? e=some i∧i.zero=some z∧i.size=size∧i.bytes=bytes
 hzs:z.cells.size=size
 hpos:0<size
 hbb:bytes≤256
 len:∀a,(cs a).length=size
 one:∀a,∀u∈cs a,u.oneCell'=true
section
variable{P:Program}{α:Type}(K:Kind P α)
def Kind.cells(l:List α):List Value:=l.flatMap K.cs
theorem Kind.cells_len(l:List α):(K.cells l).length=l.length*K.size:=by
 induction l with
 |nil=>simp[Kind.cells]
 |cons a l ih=>
  simp only[Kind.cells,List.flatMap_cons,List.length_append,List.length_cons] at ih⊢;rw[ih,K.len,Nat.succ_mul,Nat.add_comm]
theorem Kind.cells_append(l m:List α):K.cells (l++m)=K.cells l++K.cells m:=by simp[Kind.cells]
theorem Kind.cells_take(l:List α)(k:Nat):K.cells (l.take k)=(K.cells l).take (k*K.size):=by
 rcases Nat.lt_or_ge k l.length with h|h
 ·have e:K.cells l=K.cells (l.take k)++K.cells (l.drop k):=(by rw[←Kind.cells_append,List.take_append_drop]);have hl:(K.cells (l.take k)).length=k*K.size:=(by rw[Kind.cells_len,List.length_take,Nat.min_eq_left (by omega)]);rw[e,←hl,List.take_left]
 ·rw[List.take_of_length_le h,List.take_of_length_le];rw[Kind.cells_len];exact Nat.mul_le_mul_right _ h
theorem Kind.cells_drop(l:List α)(k:Nat):K.cells (l.drop k)=(K.cells l).drop (k*K.size):=by
 rcases Nat.lt_or_ge k l.length with h|h
 ·have e:K.cells l=K.cells (l.take k)++K.cells (l.drop k):=(by rw[←Kind.cells_append,List.take_append_drop]);have hl:(K.cells (l.take k)).length=k*K.size:=(by rw[Kind.cells_len,List.length_take,Nat.min_eq_left (by omega)]);rw[e,←hl,List.drop_left]
 ·rw[List.drop_eq_nil_of_le h,List.drop_eq_nil_of_le]
  ·rfl
  ·rw[Kind.cells_len];exact Nat.mul_le_mul_right _ h
theorem Kind.cells_at(l:List α)(k:Nat)(h:k<l.length)(j:Nat)(hj:j<K.size):(K.cells l)[k*K.size+j]? = (K.cs l[k])[j]?:=by
 have e:K.cells (l.drop k)=K.cs l[k]++K.cells (l.drop (k+1)):=by
  show(l.drop k).flatMap K.cs=K.cs l[k]++(l.drop (k+1)).flatMap K.cs;rw[List.drop_eq_getElem_cons h,List.flatMap_cons]
 have:=congrArg (fun x=>x[j]?) e;simp only[Kind.cells_drop,List.getElem?_drop] at this;rw[this,List.getElem?_append_left (by rw[K.len];exact hj)]
theorem Kind.cells_one(l:List α):∀u∈K.cells l,u.oneCell'=true:=by
 intro u hu;obtain⟨a,_,ha⟩:=List.mem_flatMap.1 hu;exact K.one a u ha
def Kind.Holds(w:World)(B:Nat)(A:Option Addr)(l:List α):Prop:=
 ∀j u,(K.cells l)[j]? = some u→∃b o,A=some ⟨b,o,none⟩∧b<B∧w.cell? ⟨b,o+j,none⟩=some u
variable{K}{w w':World}{B:Nat}{A:Option Addr}{l:List α}
theorem Kind.Holds.keep(h:K.Holds w B A l)(hk:∀b,(∃o,A=some ⟨b,o,none⟩)→b<B→w'.heap[b]? = w.heap[b]?):K.Holds w' B A l:=by
 intro j u hj;obtain⟨b,o,rfl,hb,hc⟩:=h j u hj;exact⟨b,o,rfl,hb,(World.cell?_of_block (hk b ⟨o,rfl⟩ hb)).trans hc⟩
theorem Kind.Holds.below{C:Nat}(h:K.Holds w B A l)(hb:Below C w w')(hBC:B≤C):K.Holds w' B A l:=h.keep fun b _ hlt=>hb.block b (by omega)
theorem Kind.Holds.more{B':Nat}(h:K.Holds w B A l)(hB:B≤B'):K.Holds w B' A l:=by
 intro j u hj;obtain⟨b,o,hA,hb,hc⟩:=h j u hj;exact⟨b,o,hA,by omega,hc⟩
theorem Kind.Holds.on(h:K.Holds w w.heap.size A l)(hb:Below w.heap.size w w'):K.Holds w' w'.heap.size A l:=(h.below hb (Zl)).more hb.size
theorem Kind.Holds.drewN(h:K.Holds w B A l)(n:Nat):K.Holds (w.drewN n) B A l:=h
theorem Kind.Holds.nil(w:World)(B:Nat)(A:Option Addr):K.Holds w B A []:=fun j u hj=>by simp[Kind.cells] at hj
theorem Kind.Holds.at(h:K.Holds w B A l){k:Nat}(hk:k<l.length):∃b o,A=some ⟨b,o,none⟩∧b<B∧∀j u,(K.cs l[k])[j]? = some u→w.cell? ⟨b,o+(k*K.size+j),none⟩=some u:=by
 have key:∀j u,(K.cs l[k])[j]? = some u→(K.cells l)[k*K.size+j]? = some u:=fun j u hj=>by
  have:=(List.getElem?_eq_some_iff.1 hj).1;rw[K.len] at this;rw[K.cells_at l k hk j this,hj]
 obtain⟨u0,h0⟩:∃u,(K.cs l[k])[0]? = some u:=⟨(K.cs l[k])[0]'(by rw[K.len];exact K.hpos),List.getElem?_eq_getElem _⟩;obtain⟨b,o,rfl,hb,_⟩:=h _ _ (key 0 u0 h0);refine⟨b,o,rfl,hb,fun j u hj=>?_⟩;obtain⟨b',o',hA,_,hc⟩:=h _ _ (key j u hj);injection hA with hA;injection hA with e1 e2;subst e1;subst e2;exact hc
theorem Kind.Holds.take(h:K.Holds w B A l)(n:Nat):K.Holds w B A (l.take n):=by
 intro j u hj;rw[K.cells_take,List.getElem?_take] at hj;split at hj
 ·exact h j u hj
 ·cases hj
theorem Kind.Holds.drop{b o:Nat}(h:K.Holds w B (some ⟨b,o,none⟩) l)(k:Nat):K.Holds w B (some ⟨b,o+k*K.size,none⟩) (l.drop k):=by
 intro j u hj;rw[K.cells_drop,List.getElem?_drop] at hj;obtain⟨b',o',hA,hb,hc⟩:=h _ _ hj;injection hA with hA;injection hA with e1 e2;subst e1;subst e2;exact⟨b,_,rfl,hb,by rw[Nat.add_assoc];exact hc⟩
theorem Kind.Holds.lit{g:Nat}{t:TypeId}{fr:Nat×Nat}{c:Array Value}(h:w.heap[g]? = some (.cells c t fr))(hc:c.toList=K.cells l):K.Holds w (g+1) (some ⟨g,0,none⟩) l:=by
 intro j u hj;refine⟨g,0,rfl,by omega,?_⟩;rw[Nat.zero_add,cell_of_row w g j c t fr h,←Array.getElem?_toList,hc];exact hj
variable{v:Value}
def Kind.Own(K:Kind P α)(w:World)(B:Nat)(v:Value)(l:List α):Prop:=w.ownsRow B K.e K.size v l.length (K.cells l)
theorem Kind.Own.nil(K:Kind P α)(w:World)(B:Nat):K.Own w B (.slice none 0 0) []:=World.ownsRow_nil w B K.e K.size
theorem Kind.Own.made(K:Kind P α)(w:World)(B:Nat)(hB:B≤w.heap.size):K.Own (w.alloc (.cells #[] K.e)) B (.slice (some ⟨w.heap.size,0,none⟩) 0 0) []:=
 World.ownsRow_made (size:=K.size) w #[] 0 hB (by simp[maxLen]) (by simp)
theorem Kind.Own.lt(h:K.Own w B v l){g:Nat}(hg:v.ownBlock=some g):B≤g∧g<w.heap.size:=World.ownsRow.lt h g hg
theorem Kind.Own.ty(h:K.Own w B v l){g:Nat}(hg:v.ownBlock=some g):∃cur,w.heap[g]? = some (.cells cur K.e (0,0)):=by
 rcases h.2 with⟨rfl,_⟩|⟨g',cap,cur,rfl,_,hh,_⟩
 ·cases hg
 ·have:g'=g:=(by simpa[Value.ownBlock] using hg);subst this;exact⟨cur,hh⟩
theorem Kind.Own.keep(h:K.Own w B v l)(hk:∀g,v.ownBlock=some g→w'.heap[g]? = w.heap[g]?):K.Own w' B v l:=by
 obtain⟨h1,h2⟩:=h;refine⟨h1,?_⟩;rcases h2 with h2|⟨g,cap,cur,hv,hg,hh,r⟩
 ·exact .inl h2
 ·subst hv;exact .inr ⟨g,cap,cur,rfl,hg,(hk g rfl).trans hh,r⟩
theorem Kind.Own.but{S:Nat→Prop}(h:K.Own w B v l)(hb:But S w w')(hS:∀g,v.ownBlock=some g→¬S g):K.Own w' B v l:=
 h.keep fun g hg=>hb.block g (h.lt hg).2 (hS g hg)
theorem Kind.Own.below{C:Nat}(h:K.Own w B v l)(hb:Below C w w')(hC:w.heap.size≤C):K.Own w' B v l:=h.keep fun g hg=>hb.block g (by have:=(h.lt hg).2;omega)
theorem Kind.Own.grown{row:Option Nat}(h:K.Own w B v l)(hg:w.grownBy w' row)(hr:∀g,v.ownBlock=some g→row≠some g):K.Own w' B v l:=h.keep fun g e=>hg.block g (h.lt e).2 (fun c=>hr g e c.symm)
theorem Kind.Own.alloc(h:K.Own w B v l)(o:Obj):K.Own (w.alloc o) B v l:=World.ownsRow.alloc h o
theorem Kind.Own.drewN(h:K.Own w B v l)(n:Nat):K.Own (w.drewN n) B v l:=h
theorem Kind.Own.drew(h:K.Own w B v l):K.Own w.drew B v l:=h
theorem Kind.Own.base_le{B':Nat}(h:K.Own w B v l)(hb:B'≤B):K.Own w B' v l:=by
 obtain⟨h1,h2⟩:=h;refine⟨h1,?_⟩;rcases h2 with h2|⟨g,cap,cur,hv,hg,r⟩
 ·exact .inl h2
 ·exact .inr ⟨g,cap,cur,hv,by omega,r⟩
theorem Kind.Own.form(h:K.Own w B v l):(v = .slice none 0 0∧l=[])∨∃g c cur,v = .slice (some ⟨g,0,none⟩) l.length c∧v.ownBlock=some g∧B≤g∧g<w.heap.size∧w.heap[g]? = some (.cells cur K.e (0,0))∧l.length≤c∧c≤maxLen∧cur.size=c*K.size∧cur.toList.take (l.length*K.size)=K.cells l:=by
 rcases h.2 with⟨rfl,hn⟩|⟨g,cap,cur,rfl,hg,hh,r1,r2,r3,r4⟩
 ·exact .inl ⟨rfl,List.eq_nil_of_length_eq_zero hn⟩
 ·exact .inr ⟨g,cap,cur,rfl,rfl,hg,heap_lt hh,hh,r1,r2,r3,r4⟩
theorem Kind.own_mk{g c n:Nat}{cur:Array Value}(hl:l.length=n)(hg:B≤g)(hh:w.heap[g]? = some (.cells cur K.e (0,0)))(h1:n≤c)(h2:c≤maxLen)(h3:cur.size=c*K.size)(h4:cur.toList.take (n*K.size)=K.cells l):K.Own w B (.slice (some ⟨g,0,none⟩) n c) l:=by
 subst hl;exact⟨K.cells_len l,.inr ⟨g,c,cur,rfl,hg,hh,h1,h2,h3,h4⟩⟩
theorem Kind.Own.slice(h:K.Own w B v l):∃A n c,v = .slice A n c∧l.length=n∧n≤c∧c≤maxLen∧(A=Option.none→c=0)∧K.Holds w w.heap.size A l:=by
 rcases h.form with⟨rfl,rfl⟩|⟨g,c,cur,rfl,_,_,hlt,hh,hnc,hcm,hcs,ht⟩
 ·exact⟨Option.none,0,0,rfl,rfl,by omega,by unfold maxLen;omega,fun _=>rfl,Kind.Holds.nil _ _ _⟩
 ·refine⟨_,l.length,c,rfl,rfl,hnc,hcm,fun e=>(by cases e),fun j u hj=>⟨g,0,rfl,hlt,?_⟩⟩;rw[Nat.zero_add,cell_of_row w g j _ _ _ hh,←Array.getElem?_toList];rw[←ht,List.getElem?_take] at hj;split at hj
  ·exact hj
  ·cases hj
def Apart(v u:Value):Prop:=∀g,v.ownBlock=some g→u.ownBlock≠some g
theorem Apart.symm{v u:Value}(h:Apart v u):Apart u v:=fun g hg e=>h g e hg
theorem Kind.Own.ne_{β:Type}{J:Kind P β}{m:List β}{u:Value}{B':Nat}(h:K.Own w B v l)(h':J.Own w B' u m)(hne:K.e≠J.e):Apart v u:=fun g hg e=>by
 obtain⟨c,h1⟩:=h.ty hg;obtain⟨d,h2⟩:=h'.ty e;exact heap_ne h1 h2 hne rfl
theorem Kind.Own.set_{g n c o:Nat}{m:List α}{u:Value}(h:K.Own w B (.slice (some ⟨g,0,none⟩) n c) l)(hl:l.length=n)(hm:m.length=l.length)(hc:K.cells m=(K.cells l).set o u):K.Own (w.setCell ⟨g,o,none⟩ u) B (.slice (some ⟨g,0,none⟩) n c) m:=by
 rcases h.form with⟨hv,_⟩|⟨g',c',cur,hv,_,hg,hlt,hh,h1,h2,h3,h4⟩
 ·cases hv
 ·injection hv with e1 e2 e3;injection e1 with e1;injection e1 with e1;subst e1;subst e3;refine Kind.own_mk (by omega) hg (heap_set hh o u) (by omega) h2 (by rw[Array.size_setIfInBounds,h3]) ?_;rw[Array.toList_setIfInBounds,List.take_set,←hl,h4,hc]
theorem Kind.run_app(ty:TypeId){n c:Nat}{m:List α}(hown:K.Own w B v l){C:Nat}(hn:m.length=n)(hc:A=none→c=0)(hm:K.Holds w C A m)
 (hl:l.length+n≤1000000000) (hbase:B≤w.heap.size):
 ∃v' w',(Builtin.append_ #[K.t,K.t] ty #[v,.slice A n c]).run P w = .ok v' w'∧K.Own w' B v' (l++m)∧w.grownBy w' v.ownBlock∧(v'.ownBlock=v.ownBlock∨v'.ownBlock=some w.heap.size):=by
 obtain⟨i0,hi,hz0,hz1,hz2⟩:=K.info;have hb:=K.hbb;subst hn;cases A with
 |none=>
  have hm0:m=[]:=by
   cases m with
   |nil=>rfl
   |cons b r=>
    obtain⟨_,_,hA,_⟩:=hm.at (k:=0) (by simp);cases hA
  subst hm0;rw[hc rfl];exact⟨v,w,run_append_owned_none (P:=P) (w:=w) B K.t ty K.e i0 K.size K.ht hi v _ _ hown,by simpa using hown,World.grownBy.refl _ _,.inl rfl⟩
 |some ad=>
  obtain⟨v',w',hr,h2,h3,_,h5⟩:=run_append_own_at (P:=P) w B K.t ty K.e i0 K.z K.size K.bytes K.ht hi hz0 hz1 hz2 K.hzs K.hpos v l.length (K.cells l) hown ad m.length c (K.cells m) (K.cells_len m) (fun j u hj=>by
   obtain⟨b,o,hA,_,hcell⟩:=hm j u hj;injection hA with hA;subst hA;have hadd:(⟨b,o,Option.none⟩:Addr).add j=⟨b,o+j,Option.none⟩:=by
    unfold Addr.add;split
    ·rename_i e;subst e;rfl
    ·rfl
   rw[hadd];exact hcell) (K.cells_one m) (by unfold maxLen;omega) (by have:=Nat.mul_le_mul (Nat.le_of_lt_succ (Nat.lt_succ_of_le hl)) hb;omega) hbase
  refine⟨v',w',hr,?_,h3,h5⟩;unfold Kind.Own;rw[List.length_append,K.cells_append];exact h2
theorem Kind.wp_app_{o:Oper}{a:Act}{Kk:Act→World→Prop}{Q:Exit→Act→World→Prop}(s x:Operand)
 (ho:o.op = .call {callee:=.builtin .append,args:=#[s,x],argTypes:=#[K.t,K.t]})
 {n c:Nat} {m:List α} {C:Nat} (hs:a.eval s=v) (hown:K.Own w B v l) (hx:a.eval x = .slice A n c) (hn:m.length=n) (hc:A=none→c=0) (hm:K.Holds w C A m)
 (hl:l.length+n≤1000000000) (hbase:B≤w.heap.size)
 (h:∀v' w',K.Own w' B v' (l++m)→w.grownBy w' v.ownBlock→(v'.ownBlock=v.ownBlock∨v'.ownBlock=some w.heap.size)→Kk (a.put o.dst v') w'):o.wp P a w Kk Q:=by
 obtain⟨v',w',hr,h2,h3,h4⟩:=K.run_app o.type hown hn hc hm hl hbase;unfold Oper.wp execOp;simp only[ho,resolve,invoke,builtin,Sem.run_bind,Sem.run_pure,Result.andThen_ok,List.map_toArray,List.map_cons,List.map_nil,hs,hx,hr];exact h v' w' h2 h3 h4
theorem Kind.wp_app(K:Kind P α){ops:Array Oper}{rest:List Oper}{o:Oper}{a:Act}{Q:Exit→Act→World→Prop}(hgd:o.guard=none)(s x:Operand)
 (ho:o.op = .call {callee:=.builtin .append,args:=#[s,x],argTypes:=#[K.t,K.t]})
 {n c:Nat} {m:List α} {C:Nat} (hs:a.eval s=v) (hown:K.Own w B v l) (hx:a.eval x = .slice A n c) (hn:m.length=n) (hc:A=none→c=0) (hm:K.Holds w C A m)
 (hl:l.length+n≤1000000000) (hbase:B≤w.heap.size)
 (h:∀v' w',K.Own w' B v' (l++m)→w.grownBy w' v.ownBlock→(v'.ownBlock=v.ownBlock∨v'.ownBlock=some w.heap.size)→wpList P ops Q rest (a.put o.dst v') w'):wpList P ops Q (o:: rest) a w:=
 wpList_plain hgd fun _ hK=>K.wp_app_ s x ho hs hown hx hn hc hm hl hbase fun v' w' h2 h3 h4=>hK _ _ (h v' w' h2 h3 h4)
theorem Kind.step_app(K:Kind P α){ops:Array Oper}{o:Oper}{a:Act}{Kk:Act→World→Prop}{Q:Exit→Act→World→Prop}{E:Prop}(hgd:o.guard=none)(s x:Operand)
 (ho:o.op = .call {callee:=.builtin .append,args:=#[s,x],argTypes:=#[K.t,K.t]})
 {n c:Nat} {m:List α} {C:Nat} (hs:a.eval s=v) (hown:K.Own w B v l) (hx:a.eval x = .slice A n c) (hn:m.length=n) (hc:A=none→c=0) (hm:K.Holds w C A m)
 (hl:l.length+n≤1000000000) (hbase:B≤w.heap.size)
 (h:∀v' w',K.Own w' B v' (l++m)→w.grownBy w' v.ownBlock→(v'.ownBlock=v.ownBlock∨v'.ownBlock=some w.heap.size)→Kk (a.put o.dst v') w'):
 if Region.wanted o (yielded ops a.tmps)=true then Oper.wp P o a w Kk Q else E:=by
 have hw:Region.wanted o (yielded ops a.tmps)=true:=(by simp[Region.wanted,hgd]);rw[if_pos hw];exact K.wp_app_ s x ho hs hown hx hn hc hm hl hbase h
end
end Kd
namespace Kd
open Go.RowKit Go.ChangeShapes Go.WideShapes Go.Deep
theorem spot_none{w:World}{a:Addr}{v:Value}(h:w.cell? a=some v):a.spot=none:=by
 unfold World.cell? at h;split at h
 ·split at h
  ·cases h
  ·rename_i hs;simpa using hs
 ·cases h
theorem Kind.open_{P:Program}{α:Type}(K:Kind P α){H:Type}{enc:TypeId×Value→H}{w:World}{v:Value}{d:DataW H}{p:List MemPlace}{base:Nat}(inh:α)(Wf:α→Prop)
 (hce:P.cellsOf K.e=K.size) (hel:∀fuel cs x,DataW.trod enc P w 0 (fun _=>true) true fuel K.e cs=some x→cs.length=K.size→∃a,cs=K.cs a∧Wf a)
 (hv:Value.okWide P w .any base K.t v) (h:DataW.Trod enc P w 0 (fun _=>true) true K.t v d p):
 ∃A n c l,v = .slice A n c∧l.length=n∧n≤c∧c≤maxLen∧(∀a∈l,Wf a)∧K.Holds w w.heap.size A l:=by
 obtain⟨a,len,cap,rfl⟩:=okWide_slice K.ht hv;obtain⟨fuel,hf⟩:=h;rcases open_slice K.ht hf with⟨hcs,_⟩|⟨ad,len',cap',m,n,D,Pl,hcs,hb,hl,hm,hmm,_,hi⟩
 ·have e:Value.slice a len cap = .slice Option.none 0 0:=(by simpa[Value.cells] using hcs);injection e with e1 e2 e3;subst e1;subst e2;subst e3;exact⟨_,_,_,[],rfl,rfl,by omega,by unfold maxLen;omega,fun _ h=>absurd h (by simp),Kind.Holds.nil _ _ _⟩
 ·have e:Value.slice a len cap = .slice (some ad) len' cap':=(by simpa[Value.cells] using hcs);injection e with e1 e2 e3;subst e1;subst e2;subst e3;have hmc:m=cap:=(by simpa using hmm);subst hmc;have each:∀i,i<len→∃x:α,Wf x∧∀j,j<K.size→w.cell? (ad.add (i*K.size+j))=(K.cs x)[j]?:=by
   intro i hil;obtain⟨cs',h1,h2⟩:=hi i (by omega);rw[hce] at h1;obtain⟨_,hlen,hcell⟩:=World.cells?_some h1;obtain⟨x,rfl,hw⟩:=hel _ _ _ h2 hlen;refine⟨x,hw,fun j hj=>?_⟩;have:=hcell j hj;rwa[add_add] at this
  have hinh:Inhabited α:=⟨inh⟩;obtain⟨f,hfx⟩:=choose_lt each;refine⟨_,_,_,(List.range len).map f,rfl,by simp,hl,hm,fun x hx=>?_,fun j u hj=>?_⟩
  ·obtain⟨i,hi',rfl⟩:=List.mem_map.1 hx;exact(hfx i (List.mem_range.1 hi')).1
  ·have hjl:j<len*K.size:=by
    have:=(List.getElem?_eq_some_iff.1 hj).1;rw[Kind.cells_len] at this;simpa using this
   have hpos:=K.hpos;have hdm:K.size*(j/K.size)+j % K.size=j:=Nat.div_add_mod j K.size;have hmod:j % K.size<K.size:=Nat.mod_lt _ hpos;have hdiv:j/K.size<len:=(by rw[Nat.div_lt_iff_lt_mul hpos];exact hjl);have hje:j/K.size*K.size+j % K.size=j:=(by rw[Nat.mul_comm];exact hdm);have hk:j/K.size<((List.range len).map f).length:=(by simpa using hdiv);have hcell:=(hfx _ hdiv).2 _ hmod;rw[hje] at hcell;have hat:=K.cells_at _ _ hk _ hmod;rw[hje,hj] at hat;have hcu:w.cell? (ad.add j)=some u:=(by rw[hcell,hat];simp);have hsp:ad.spot=Option.none:=by
    have z0:=(hfx 0 (Nat.lt_of_le_of_lt (Nat.zero_le _) hdiv)).2 0 hpos;rw[List.getElem?_eq_getElem (by rw[K.len];exact hpos)] at z0;exact spot_none (a:=ad) (by simpa[Addr.add] using z0)
   obtain⟨b,o,sp⟩:=ad;simp only at hsp;subst hsp;rw[add_plain] at hcu;exact⟨b,o,rfl,block_lt_of_cell hcu,hcu⟩
theorem post_read{H:Type}{enc:TypeId×Value→H}{P:Program}{f:Func}{s:ChangeSpec}{W W':World}{args:Array Value}{v:Value}{ds gs:List (DataW H)}{before:List MemPlace}
 (hW:DataW.Whole enc P f.params.toList s.vars false W args.toList ds gs before)
 (hres:DataW.TrodAll enc P W' W.heap.size (fun _=>false) false f.resultTypes.toList (v.resultList f.resultTypes.size) (s.fn H (ds++gs)).results [])
 (hargs:DataW.TrodAll enc P W' 0 (fun b=>decide (b<W.heap.size)) true f.params.toList args.toList (s.fn H (ds++gs)).args before)
 (hvars:DataW.TrodVars enc P W' (fun b=>decide (b<W.heap.size)) s.vars (s.fn H (ds++gs)).vars [])
 (hb:Below W.heap.size W W'):s.post enc P f false true false false W args v W':=
 ⟨ds,gs,before,[],before,[],hW,hres,hargs,hvars,World.keptBut_mono (fun _ hp=>⟨hp,.inr (.inl hp)⟩) (hb.frame (·∈before)),fun h=>by cases h⟩
end Kd
namespace P4
structure Sl(α:Type) where
 id:Int
 x:α
variable{α:Type}
def posA:List (Sl α)→Int→Nat
 |[],_=>0
 |s:: r,t=>if s.id<t then posA r t+1 else 0
def Asc(n:Int)(l:List (Sl α)):Prop:=l.Pairwise (fun a b=>a.id<b.id)∧∀s∈l,1≤s.id∧s.id≤n
def atB(l:List (Sl α))(k:Nat)(t:Int):Bool:=match l[k]? with
 |some s=>s.id==t
 |none=>false
def hasA(l:List (Sl α))(t:Int):Bool:=atB l (posA l t) t
theorem posA_of:∀(l:List (Sl α)) (t:Int) (i:Nat),i≤l.length→(∀k (h:k<l.length),k<i→l[k].id<t)→(∀k (h:k<l.length),i≤k→t≤l[k].id)→posA l t=i
 |[],t,i,hi,_,_=>by simp at hi;simp[posA,hi]
 |s:: r,t,0,_,_,h2=>by
  have:=h2 0 (by simp) (by omega);simp only[List.getElem_cons_zero] at this;simp only[posA];rw[if_neg (by omega)]
 |s:: r,t,i+1,hi,h1,h2=>by
  have h0:=h1 0 (by simp) (by omega);simp only[List.getElem_cons_zero] at h0;simp only[posA];rw[if_pos h0,posA_of r t i (by simpa using hi) (fun k hk hki=>h1 (k+1) (by simpa using hk) (by omega)) (fun k hk hki=>h2 (k+1) (by simpa using hk) (by omega))]
theorem atB_lt{l:List (Sl α)}{k:Nat}{t:Int}(h:atB l k t=true):k<l.length:=by
 unfold atB at h;split at h
 ·rename_i s hs;exact(List.getElem?_eq_some_iff.1 hs).1
 ·cases h
theorem atB_id{l:List (Sl α)}{k:Nat}{t:Int}(h:atB l k t=true)(hk:k<l.length):l[k].id=t:=by
 unfold atB at h;rw[List.getElem?_eq_getElem hk] at h;simpa using h
theorem atB_at{l:List (Sl α)}{k:Nat}{t:Int}(hk:k<l.length):atB l k t=(l[k].id==t):=by
 unfold atB;rw[List.getElem?_eq_getElem hk]
theorem atB_none{l:List (Sl α)}{k:Nat}{t:Int}(hk:l.length≤k):atB l k t=false:=by
 unfold atB;rw[List.getElem?_eq_none hk]
theorem asc_lt{n:Int}{l:List (Sl α)}(h:Asc n l){i j:Nat}(hi:i<l.length)(hj:j<l.length)(hij:i<j):l[i].id<l[j].id:=
 List.pairwise_iff_getElem.1 h.1 i j hi hj hij
theorem posA_at{n:Int}{l:List (Sl α)}(h:Asc n l){k:Nat}(hk:k<l.length):posA l l[k].id=k:=by
 refine posA_of l _ k (by omega) (fun i hi hik=>asc_lt h hi hk hik) (fun i hi hki=>?_);rcases Nat.lt_or_eq_of_le hki with hlt|rfl
 ·have:=asc_lt h hk hi hlt;omega
 ·exact Int.le_refl _
theorem hasA_at{n:Int}{l:List (Sl α)}(h:Asc n l){k:Nat}(hk:k<l.length):hasA l l[k].id=true:=by
 unfold hasA;rw[posA_at h hk,atB_at hk];simp
theorem hasA_mem{l:List (Sl α)}{t:Int}(h:hasA l t=true):∃s∈l,s.id=t:=by
 have hk:=atB_lt h;exact⟨l[posA l t],List.getElem_mem _,atB_id h hk⟩
theorem hasA_iff{n:Int}{l:List (Sl α)}(h:Asc n l)(t:Int):hasA l t=true↔∃s∈l,s.id=t:=by
 refine⟨hasA_mem,?_⟩;rintro⟨s,hs,rfl⟩;obtain⟨k,hk,rfl⟩:=List.mem_iff_getElem.1 hs;exact hasA_at h hk
theorem asc_nil:Asc 0 ([]:List (Sl α)):=⟨List.Pairwise.nil,fun _ h=>absurd h (by simp)⟩
theorem asc_put{n:Int}{l:List (Sl α)}(h:Asc n l)(hn:0≤n)(x:α):Asc (n+1) (l++[⟨n+1,x⟩]):=by
 refine⟨List.pairwise_append.2 ⟨h.1,by simp,fun a ha b hb=>?_⟩,fun s hs=>?_⟩
 ·simp only[List.mem_singleton] at hb;subst hb;have:=h.2 a ha;show a.id<n+1;omega
 ·simp only[List.mem_append,List.mem_singleton] at hs;rcases hs with hs|rfl
  ·have:=h.2 s hs;omega
  ·show 1≤n+1∧n+1≤n+1;omega
theorem asc_drop{n:Int}{l:List (Sl α)}(h:Asc n l)(k:Nat):Asc n (l.eraseIdx k):=
 ⟨h.1.sublist (List.eraseIdx_sublist _ _),fun s hs=>h.2 s ((List.eraseIdx_sublist _ _).subset hs)⟩
theorem eraseIdx_eq{β:Type}(l:List β)(k:Nat):l.eraseIdx k=l.take k++l.drop (k+1):=List.eraseIdx_eq_take_drop_succ l k
end P4
namespace P4
open Go.RowKit Kd
theorem infoI:(Tryz.prog.info? 3).map (fun i=>(i.zero,i.size,i.bytes))=some (some (.int .i64 0),1,8):=by kernel_rfl
theorem info_ex{P:Program}{e:TypeId}{z:Value}{size bytes:Nat}(h:(P.info? e).map (fun i=>(i.zero,i.size,i.bytes))=some (some z,size,bytes)):∃i,P.info? e=some i∧i.zero=some z∧i.size=size∧i.bytes=bytes:=by
 obtain⟨i,h1,h2,h3,h4⟩:=info_parts h;exact⟨i,h1,h2,h3,h4⟩
def kI:Kind Tryz.prog Int where
 t:=23
 e:=3
 size:=1
 bytes:=8
 z:=.int .i64 0
 cs:=fun a=>[.int .i64 a]
 ht:=Tryz.underlying23
 info:=info_ex infoI
 hzs:=rfl
 hpos:=by decide
 hbb:=by decide
 len:=fun _=>rfl
 one:=fun a u hu=>by simp at hu;subst hu;rfl
theorem ret_int{a b:Int}(h:a=b):Ending.returned (.int .i64 a) = .returned (.int .i64 b):=by rw[h]
theorem ret_bool{a b:Bool}(h:a=b):Ending.returned (.bool a) = .returned (.bool b):=by rw[h]
def cmpA(a b:Int):Int:=if a<b then -1 else if b<a then 1 else 0
theorem compare_any(a b:Int)(w:World):Calls Tryz.prog 133 #[.int .i64 a,.int .i64 b] w fun e w'=>e = .returned (.int .i64 (cmpA a b))∧w=w':=by
 have hn:∀(x:Int) (w:World),Calls Tryz.prog 156 #[.int .i64 x] w fun e w'=>e = .returned (.bool false)∧w=w':=by
  intro x w;go_enter Tryz.func156,Tryz.ntmps156;go_wp2;go_ret;exact⟨ret_bool (by simp),rfl⟩
 have HN:=Zh hn;clear hn;by_cases h1:a<b
 ·have h2:¬b<a:=(by omega);go_enter Tryz.func133,Tryz.ntmps133;go_wp2_with fail;refine(HN.out _ _).mono ?_;rintro e w' ⟨rfl,rfl⟩;go_wp2_with fail;refine(HN.out _ _).mono ?_;rintro e w' ⟨rfl,rfl⟩;go_wp2;go_ret;exact⟨ret_int (by unfold cmpA;rw[if_pos (by omega)]),rfl⟩
 ·by_cases h2:b<a
  ·go_enter Tryz.func133,Tryz.ntmps133;go_wp2_with fail;refine(HN.out _ _).mono ?_;rintro e w' ⟨rfl,rfl⟩;go_wp2_with fail;refine(HN.out _ _).mono ?_;rintro e w' ⟨rfl,rfl⟩;go_wp2;go_ret;exact⟨ret_int (by unfold cmpA;rw[if_neg (by omega),if_pos (by omega)]),rfl⟩
  ·go_enter Tryz.func133,Tryz.ntmps133;go_wp2_with fail;refine(HN.out _ _).mono ?_;rintro e w' ⟨rfl,rfl⟩;go_wp2_with fail;refine(HN.out _ _).mono ?_;rintro e w' ⟨rfl,rfl⟩;go_wp2;go_ret;exact⟨ret_int (by unfold cmpA;rw[if_neg (by omega),if_neg (by omega)]),rfl⟩
theorem cmp_zero(a b:Int):(a==b)=(cmpA a b==0):=by
 unfold cmpA;by_cases h1:a<b
 ·rw[if_pos h1,beq_eq_false_iff_ne.2 (by omega)];rfl
 ·by_cases h2:b<a
  ·rw[if_neg h1,if_pos h2,beq_eq_false_iff_ne.2 (by omega)];rfl
  ·rw[if_neg h1,if_neg h2,beq_iff_eq.2 (by omega)];rfl
theorem ret_two{p a:Nat}{x y:Bool}(h:p=a)(h2:x=y):Ending.returned (.tuple #[.int .i64 a,.bool y]) = .returned (.tuple #[.int .i64 p,.bool x]):=by rw[h,h2]
theorem below_at{α:Type}{N:Int}{l:List (Sl α)}(h:Asc N l){j:Nat}(hj:j<l.length){t:Int}(ht:l[j].id<t){k:Nat}(hk:k<l.length)(hkj:k≤j):l[k].id<t:=by
 rcases Nat.lt_or_eq_of_le hkj with hlt|rfl
 ·have:=asc_lt h hk hj hlt;omega
 ·exact ht
theorem above_at{α:Type}{N:Int}{l:List (Sl α)}(h:Asc N l){j:Nat}(hj:j<l.length){t:Int}(ht:t≤l[j].id){k:Nat}(hk:k<l.length)(hkj:j≤k):t≤l[k].id:=by
 rcases Nat.lt_or_eq_of_le hkj with hlt|rfl
 ·have:=asc_lt h hj hk hlt;omega
 ·exact ht
def Arm(p:Nat)(v:Value)(k:Nat):Prop:=k=p∨v.ownBlock=some k
theorem load_any(b o:Nat)(x:Int)(w:World)(hc:w.cell? ⟨b,o,none⟩=some (.int .i64 x)):
 Calls Tryz.prog 121 #[.pointer (some ⟨b,o,none⟩)] w fun e w'=>e = .returned (.int .i64 x)∧w=w':=by
 have hl:=run_call_load (P:=Tryz.prog) (f:=148) Tryz.func148 (by kernel_rfl) (by kernel_rfl) (by kernel_rfl) .i64 rfl hc;go_enter Tryz.func121,Tryz.ntmps121;go_wp2;go_ret;exact⟨rfl,rfl⟩
theorem add_any(b o:Nat)(x:Int)(w:World)(hx:0≤x)(hx2:x≤1000000)(hc:w.cell? ⟨b,o,none⟩=some (.int .i64 x))(hf:w.frozen? ⟨b,o,none⟩=false):
 Calls Tryz.prog 122 #[.pointer (some ⟨b,o,none⟩),.int .i64 1] w fun e w'=>e = .returned (.int .i64 (x+1))∧w.setCell ⟨b,o,none⟩ (.int .i64 (x+1))=w':=by
 have hl:=run_call_add (P:=Tryz.prog) (f:=149) Tryz.func149 (by kernel_rfl) (by kernel_rfl) (by kernel_rfl) .i64 rfl (y:=1) (s:=x+1) hc hf (by simp[go_sem,IntKind.wrap_i64];omega);go_enter Tryz.func122,Tryz.ntmps122;go_wp2;go_ret;exact⟨rfl,rfl⟩
theorem infoSP:(Tryz.prog.info? 179).map (fun i=>(i.zero,i.size,i.bytes))=some (some (.agg #[.int .i64 0,.pointer none]),2,16):=by kernel_rfl
theorem infoA:(Tryz.prog.info? 121).map (fun i=>(i.zero,i.size,i.bytes))=some (some (.agg #[.string ⟨#[]⟩,.string ⟨#[]⟩,.bool false]),3,40):=by kernel_rfl
theorem infoN:(Tryz.prog.info? 48).map (fun i=>(i.zero,i.size,i.bytes))=some (some (.agg #[.int .i64 0,.int .i64 0,.string ⟨#[]⟩,.string ⟨#[]⟩,.string ⟨#[]⟩,.slice none 0 0,.slice none 0 0,.int .i64 0]),8,120):=by kernel_rfl
theorem infoE:(Tryz.prog.info? 73).map (fun i=>(i.zero,i.size,i.bytes))=some (some (.agg #[.int .i64 0,.bool false,.int .i64 0,.int .i64 0,.int .i64 0,.int .i64 0,.string ⟨#[]⟩,.string ⟨#[]⟩,.string ⟨#[]⟩,.slice none 0 0,.int .i64 0,.int .i64 0]),12,136):=by kernel_rfl
def kSP:Kind Tryz.prog (Sl Nat) where
 t:=163
 e:=179
 size:=2
 bytes:=16
 z:=.agg #[.int .i64 0,.pointer none]
 cs:=fun a=>[.int .i64 a.id,.pointer (some ⟨a.x,0,none⟩)]
 ht:=Tryz.underlying163
 info:=info_ex infoSP
 hzs:=rfl
 hpos:=by decide
 hbb:=by decide
 len:=fun _=>rfl
 one:=fun a u hu=>by simp at hu;rcases hu with rfl|rfl<;>rfl
def kA:Kind Tryz.prog P3.At where
 t:=46
 e:=121
 size:=3
 bytes:=40
 z:=.agg #[.string ⟨#[]⟩,.string ⟨#[]⟩,.bool false]
 cs:=fun a=>[.string a.nm,.string a.vl,.bool a.st]
 ht:=Tryz.underlying46
 info:=info_ex infoA
 hzs:=rfl
 hpos:=by decide
 hbb:=by decide
 len:=fun _=>rfl
 one:=fun a u hu=>by simp at hu;rcases hu with rfl|rfl|rfl<;>rfl
structure Sv where
 A:Option Addr
 n:Nat
 c:Nat
def Sv.val(s:Sv):Value:=.slice s.A s.n s.c
structure RN where
 id:Int
 par:Int
 tag:ByteArray
 txt:ByteArray
 key:ByteArray
 va:Sv
 vk:Sv
 note:Int
def RN.cells(a:RN):List Value:=[.int .i64 a.id,.int .i64 a.par,.string a.tag,.string a.txt,.string a.key,a.va.val,a.vk.val,.int .i64 a.note]
structure RE where
 what:Int
 next:Bool
 op:Int
 rid:Int
 par:Int
 bef:Int
 tag:ByteArray
 txt:ByteArray
 key:ByteArray
 va:Sv
 id:Int
 n:Int
def RE.cells(a:RE):List Value:=[.int .i64 a.what,.bool a.next,.int .i64 a.op,.int .i64 a.rid,.int .i64 a.par,.int .i64 a.bef,.string a.tag,.string a.txt,.string a.key,a.va.val,.int .i64 a.id,.int .i64 a.n]
def kN:Kind Tryz.prog RN where
 t:=49
 e:=48
 size:=8
 bytes:=120
 z:=.agg #[.int .i64 0,.int .i64 0,.string ⟨#[]⟩,.string ⟨#[]⟩,.string ⟨#[]⟩,.slice none 0 0,.slice none 0 0,.int .i64 0]
 cs:=RN.cells
 ht:=Tryz.underlying49
 info:=info_ex infoN
 hzs:=rfl
 hpos:=by decide
 hbb:=by decide
 len:=fun _=>rfl
 one:=fun a u hu=>by simp[RN.cells,Sv.val] at hu;rcases hu with rfl|rfl|rfl|rfl|rfl|rfl|rfl|rfl<;>rfl
def kE:Kind Tryz.prog RE where
 t:=22
 e:=73
 size:=12
 bytes:=136
 z:=.agg #[.int .i64 0,.bool false,.int .i64 0,.int .i64 0,.int .i64 0,.int .i64 0,.string ⟨#[]⟩,.string ⟨#[]⟩,.string ⟨#[]⟩,.slice none 0 0,.int .i64 0,.int .i64 0]
 cs:=RE.cells
 ht:=Tryz.underlying22
 info:=info_ex infoE
 hzs:=rfl
 hpos:=by decide
 hbb:=by decide
 len:=fun _=>rfl
 one:=fun a u hu=>by simp[RE.cells,Sv.val] at hu;rcases hu with rfl|rfl|rfl|rfl|rfl|rfl|rfl|rfl|rfl|rfl|rfl|rfl<;>rfl
end P4
namespace P11
open Go.RowKit Kd P4
structure In where
 op:Int
 a:ByteArray
 b:ByteArray
def mayI(i:In):Bool:=
 if i.op=1 then P1.nameB i.a.data.toList && !P1.voidB i.a.data.toList&&P1.textB i.b.data.toList
 else if i.op=3 then P1.voidB i.a.data.toList&&P1.textB i.b.data.toList
 else if i.op=4 then P1.textB i.a.data.toList&&i.b.toList.isEmpty
 else if i.op=5∨i.op=6 then P1.nameB i.a.data.toList&&P1.textB i.b.data.toList
 else if i.op=2∨i.op=7∨i.op=8 then i.a.toList.isEmpty&&i.b.toList.isEmpty
 else false
theorem infoX:(Tryz.prog.info? 76).map (fun i=>(i.zero,i.size,i.bytes))=some (some (.agg #[.int .i64 0,.string ⟨#[]⟩,.string ⟨#[]⟩]),3,40):=by kernel_rfl
def In.cells(i:In):List Value:=[.int .i64 i.op,.string i.a,.string i.b]
def kX:Kind Tryz.prog In where
 t:=24
 e:=76
 size:=3
 bytes:=40
 z:=.agg #[.int .i64 0,.string ⟨#[]⟩,.string ⟨#[]⟩]
 cs:=In.cells
 ht:=Tryz.underlying24
 info:=info_ex infoX
 hzs:=rfl
 hpos:=by decide
 hbb:=by decide
 len:=fun _=>rfl
 one:=fun a u hu=>by simp[In.cells] at hu;rcases hu with rfl|rfl|rfl<;>rfl
theorem cell_of_ins{w:World}{B:Nat}{A:Option Addr}{l:List In}(h:kX.Holds w B A l){k:Nat}(hk:k<l.length):
 ∃b o,A=some ⟨b,o,none⟩∧b<B∧w.cell? ⟨b,o+k*3,none⟩=some (.int .i64 l[k].op)∧w.cell? ⟨b,o+k*3+1,none⟩=some (.string l[k].a)∧w.cell? ⟨b,o+k*3+2,none⟩=some (.string l[k].b):=by
 obtain⟨b,o,rfl,hb,hc⟩:=h.at hk;exact⟨b,o,rfl,hb,hc 0 _ rfl,hc 1 _ rfl,hc 2 _ rfl⟩
def XB(w:World)(s:Nat)(i:In):Prop:=w.heap[s]? = some (.cells #[.int .i64 i.op,.string i.a,.string i.b] 76 (0,0))
section
variable{w w':World}{s C:Nat}{i:In}
theorem XB.new(w:World)(i:In):XB (w.alloc (.cells #[.int .i64 i.op,.string i.a,.string i.b] 76)) w.heap.size i:=heap_alloc_new w _
theorem XB.lt(h:XB w s i):s<w.heap.size:=heap_lt h
theorem XB.below(h:XB w s i)(hb:Below C w w')(hC:s<C):XB w' s i:=(hb.block s hC).trans h
theorem XB.c0(h:XB w s i):w.cell? ⟨s,0,none⟩=some (.int .i64 i.op):=cell_of_row w s 0 _ _ (0,0) h
theorem XB.c1(h:XB w s i):w.cell? ⟨s,1,none⟩=some (.string i.a):=cell_of_row w s 1 _ _ (0,0) h
theorem XB.c2(h:XB w s i):w.cell? ⟨s,2,none⟩=some (.string i.b):=cell_of_row w s 2 _ _ (0,0) h
end
theorem int_eq{a b:Int}(h:a=b):(a==b)=true:=by simp[h]
theorem int_ne{a b:Int}(h:¬a=b):(a==b)=false:=by simpa using h
end P11
namespace P11
open Go.RowKit Go.ChangeShapes Go.WideShapes Go.Deep Kd P4
theorem cellsX:Tryz.prog.cellsOf 76=3:=by kernel_rfl
theorem cellsS:Tryz.prog.cellsOf 9=1:=by kernel_rfl
theorem cellsI:Tryz.prog.cellsOf 3=1:=by kernel_rfl
theorem laidOut:laidOutB Tryz.prog=true:=by kernel_rfl
theorem open_ins_cells{H:Type}{enc:TypeId×Value→H}{w:World}(fuel:Nat)(cs:List Value)(x:DataW H×List MemPlace)(hx:DataW.trod enc Tryz.prog w 0 (fun _=>true) true fuel 76 cs=some x)(hlen:cs.length=3):
 ∃a:In,cs=a.cells∧(a.a.size≤maxLen∧a.b.size≤maxLen):=by
 obtain⟨xs,k,hk,hxy,_,hxl,hg⟩:=DataW.trod_struct Tryz.underlying76 hx
 match cs,hlen with
 |[v0,v1,v2],_=>
  have g0:=hg 0 _ rfl;have g1:=hg 1 _ rfl;have g2:=hg 2 _ rfl;simp[cellsS,cellsI] at g0 g1 g2;have x0:xs[0]? = some (xs[0]'(by rw[hxl];decide)):=List.getElem?_eq_getElem _;have x1:xs[1]? = some (xs[1]'(by rw[hxl];decide)):=List.getElem?_eq_getElem _;have x2:xs[2]? = some (xs[2]'(by rw[hxl];decide)):=List.getElem?_eq_getElem _;rw[x0] at g0;rw[x1] at g1;rw[x2] at g2;obtain⟨s0,hs0,_⟩:=DataW.trod_int Tryz.underlying3 g0;obtain⟨s1,hs1,_,hz1⟩:=DataW.trod_string Tryz.underlying9 g1;obtain⟨s2,hs2,_,hz2⟩:=DataW.trod_string Tryz.underlying9 g2;injection hs0 with hs0 _;injection hs1 with hs1 _;injection hs2 with hs2 _;subst hs0;subst hs1;subst hs2;exact⟨⟨s0,s1,s2⟩,rfl,hz1,hz2⟩
end P11
end Go.Proofs.YtaklfomaibchnaaGreat
