/- A part of the proof. No condition. -/
import Derived.Deep.MidRow
import Derived.Deep.DeepCutAuto
import Derived.Deep.CutBlock
import Derived.Test.YtimfajmknmlajaaGreatDoorM1
set_option linter.unusedVariables false
set_option linter.unusedSimpArgs false
set_option maxRecDepth 100000
set_option maxHeartbeats 40000000
namespace Go.Proofs.YtimfajmknmlajaaGreatDoor
open Tryz
namespace P5
open Go.RowKit Kd P4
variable{B p:Nat}{x:Dx}
theorem iJ(t:qA){r:Bool}(w:World)(h:P1.dC t.data.toList=r):jA 129 #[bA t] w fun e w'=>e= .returned (.bool r)/\w=w':=by
 subst h;exact P1.eN t w
theorem IQ(a b:Int){r:Bool}(w:World)(hr:inside x.l a b=r)(hwf:WF x.d)(ha:nA x.l a=true)(hb:nA x.l b=true)(h:Dc w B p x):jA 214 #[lA p,aA a,aA b] w fun e w'=>e= .returned (.bool r)/\fA w w':=by
 subst hr;exact Qg a b w hwf ha hb h
theorem Rq(i q b:Int)(w:World)(hi:nA x.l i=false)(h:Dc w B p x):jA 190 #[lA p,aA i,aA q,aA b] w fun e w'=>e= .returned (.iface 29 (aA 2))/\fA w w':=by
 have c:=Zh (Below.refl w.heap.size w);have d:=Zh h;have f:=Zh hi;clear h hi;go_enter func190,ntmps190;go_wp2_with fail;refine(FC i w f d).mono ?_;rintro e j ⟨rfl,a⟩;have g:=Zh (c.trans (a.mono c.size));have k:=Zh (d.below a);clear a;go_wp2_with fail;go_ret;exact⟨rfl,g⟩
theorem Sq(i q b:Int)(w:World)(hi:nA x.l i=true)(hp:nA x.l q=false)(h:Dc w B p x):jA 190 #[lA p,aA i,aA q,aA b] w fun e w'=>e= .returned (.iface 29 (aA 2))/\fA w w':=by
 have c:=Zh (Below.refl w.heap.size w);have d:=Zh h;have j:=Zh hi;have k:=Zh hp;clear h hi hp;go_enter func190,ntmps190;go_wp2_with fail;refine(FC i w j d).mono ?_;rintro e l ⟨rfl,a⟩;have f:=Zh (c.trans (a.mono c.size));have g:=Zh (d.below a);clear a;go_wp2_with fail;refine(FC q l k g).mono ?_;rintro e n ⟨rfl,a⟩;have m:=Zh (f.trans (a.mono f.size));have o:=Zh (g.below a);clear a;go_wp2_with fail;go_ret;exact⟨rfl,m⟩
theorem Tq(i q b:Int)(w:World)(hi:nA x.l i=true)(hp:nA x.l q=true)(hq:(b != 0)=true)(hb:nA x.l b=false)(h:Dc w B p x):jA 190 #[lA p,aA i,aA q,aA b] w fun e w'=>e= .returned (.iface 29 (aA 2))/\fA w w':=by
 have c:=Zh (Below.refl w.heap.size w);have d:=Zh h;have l:=Zh hi;have m:=Zh hp;have n:=Zh hb;clear h hi hp hb;go_enter func190,ntmps190;go_wp2_with fail;refine(FC i w l d).mono ?_;rintro e o ⟨rfl,a⟩;have f:=Zh (c.trans (a.mono c.size));have g:=Zh (d.below a);clear a;go_wp2_with fail;refine(FC q o m g).mono ?_;rintro e r ⟨rfl,a⟩;have j:=Zh (f.trans (a.mono f.size));have k:=Zh (g.below a);clear a;go_wp2_with fail;refine(FC b r n k).mono ?_;rintro e t ⟨rfl,a⟩;have s:=Zh (j.trans (a.mono j.size));have u:=Zh (k.below a);clear a;go_wp2_with fail;go_ret;exact⟨rfl,s⟩
theorem Uq(i q b:Int)(w:World)(hi:nA x.l i=true)(hp:nA x.l q=true)(hq:(b != 0)=false)(h1:(i==1)=true)(h:Dc w B p x):jA 190 #[lA p,aA i,aA q,aA b] w fun e w'=>e= .returned (.iface 29 (aA 4))/\fA w w':=by
 have c:=Zh (Below.refl w.heap.size w);have d:=Zh h;have j:=Zh hi;have k:=Zh hp;clear h hi hp;go_enter func190,ntmps190;go_wp2_with fail;refine(FC i w j d).mono ?_;rintro e l ⟨rfl,a⟩;have f:=Zh (c.trans (a.mono c.size));have g:=Zh (d.below a);clear a;go_wp2_with fail;refine(FC q l k g).mono ?_;rintro e n ⟨rfl,a⟩;have m:=Zh (f.trans (a.mono f.size));have o:=Zh (g.below a);clear a;go_wp2_with fail;go_ret;exact⟨rfl,m⟩
theorem Vq(i q b:Int)(w:World)(hi:nA x.l i=true)(hp:nA x.l q=true)(hq:(b != 0)=true)(hb:nA x.l b=true)(h1:(i==1)=true)(h:Dc w B p x):jA 190 #[lA p,aA i,aA q,aA b] w fun e w'=>e= .returned (.iface 29 (aA 4))/\fA w w':=by
 have c:=Zh (Below.refl w.heap.size w);have d:=Zh h;have l:=Zh hi;have m:=Zh hp;have n:=Zh hb;clear h hi hp hb;go_enter func190,ntmps190;go_wp2_with fail;refine(FC i w l d).mono ?_;rintro e o ⟨rfl,a⟩;have f:=Zh (c.trans (a.mono c.size));have g:=Zh (d.below a);clear a;go_wp2_with fail;refine(FC q o m g).mono ?_;rintro e r ⟨rfl,a⟩;have j:=Zh (f.trans (a.mono f.size));have k:=Zh (g.below a);clear a;go_wp2_with fail;refine(FC b r n k).mono ?_;rintro e t ⟨rfl,a⟩;have s:=Zh (j.trans (a.mono j.size));have u:=Zh (k.below a);clear a;go_wp2_with fail;go_ret;exact⟨rfl,s⟩
theorem Am(i q b:Int)(w:World)(hi:nA x.l i=true)(hp:nA x.l q=true)(hq:(b != 0)=false)(h1:(i==1)=false)(ht:(RA x.l q).toList.isEmpty=true)(h:Dc w B p x):jA 190 #[lA p,aA i,aA q,aA b] w fun e w'=>e= .returned (.iface 29 (aA 3))/\fA w w':=by
 have o:=Zh (Below.refl w.heap.size w);have r:=Zh h;obtain⟨m,k,d,_⟩:=h.place hp;obtain⟨tg,f⟩:=DA (x.rs[m].nd.tag);have c:tg=RA x.l q:=(by rw[(sF h k d).1,f]);obtain⟨bm,g⟩:=DA (x.rs[m].b);rw[<-c] at ht;have y:=Zh hi;have z:=Zh hp;have l:=Zh d;have n:=Zh f;have j:=Zh g;clear h hi hp d f c g;go_enter func190,ntmps190;go_wp2_with fail;refine(FC i w y r).mono ?_;rintro e A ⟨rfl,a⟩;have s:=Zh (o.trans (a.mono o.size));have t:=Zh (r.below a);clear a;go_wp2_with fail;refine(FC q A z t).mono ?_;rintro e C ⟨rfl,a⟩;have u:=Zh (s.trans (a.mono s.size));have v:=Zh (t.below a);clear a;go_wp2_with fail;refine(lG q C k l j v).mono ?_;rintro e D ⟨rfl,a⟩;have E:=Zh (u.trans (a.mono u.size));have F:=Zh (v.below a);have G:D.cell? (cA bm 2)=some (bA tg):=(by have:=(F.nd k).c2;rwa[j.out,n.out] at this);clear a;go_wp2_with fail;go_ret;exact⟨rfl,E⟩
theorem Cm(i q b:Int)(w:World)(hi:nA x.l i=true)(hp:nA x.l q=true)(hq:(b != 0)=true)(hb:nA x.l b=true)(h1:(i==1)=false)(ht:(RA x.l q).toList.isEmpty=true)(h:Dc w B p x):jA 190 #[lA p,aA i,aA q,aA b] w fun e w'=>e= .returned (.iface 29 (aA 3))/\fA w w':=by
 have o:=Zh (Below.refl w.heap.size w);have r:=Zh h;obtain⟨m,k,d,_⟩:=h.place hp;obtain⟨tg,f⟩:=DA (x.rs[m].nd.tag);have c:tg=RA x.l q:=(by rw[(sF h k d).1,f]);obtain⟨bm,g⟩:=DA (x.rs[m].b);rw[<-c] at ht;have A:=Zh hi;have C:=Zh hp;have D:=Zh hb;have l:=Zh d;have n:=Zh f;have j:=Zh g;clear h hi hp hb d f c g;go_enter func190,ntmps190;go_wp2_with fail;refine(FC i w A r).mono ?_;rintro e E ⟨rfl,a⟩;have s:=Zh (o.trans (a.mono o.size));have t:=Zh (r.below a);clear a;go_wp2_with fail;refine(FC q E C t).mono ?_;rintro e F ⟨rfl,a⟩;have u:=Zh (s.trans (a.mono s.size));have v:=Zh (t.below a);clear a;go_wp2_with fail;refine(FC b F D v).mono ?_;rintro e G ⟨rfl,a⟩;have y:=Zh (u.trans (a.mono u.size));have z:=Zh (v.below a);clear a;go_wp2_with fail;refine(lG q G k l j z).mono ?_;rintro e H ⟨rfl,a⟩;have I:=Zh (y.trans (a.mono y.size));have J:=Zh (z.below a);have K:H.cell? (cA bm 2)=some (bA tg):=(by have:=(J.nd k).c2;rwa[j.out,n.out] at this);clear a;go_wp2_with fail;go_ret;exact⟨rfl,I⟩
theorem Dm(i q b:Int)(w:World)(hi:nA x.l i=true)(hp:nA x.l q=true)(hq:(b != 0)=false)(h1:(i==1)=false)(ht:(RA x.l q).toList.isEmpty=false)(hv:P1.dC (RA x.l q).data.toList=true)(h:Dc w B p x):jA 190 #[lA p,aA i,aA q,aA b] w fun e w'=>e= .returned (.iface 29 (aA 3))/\fA w w':=by
 have o:=Zh (Below.refl w.heap.size w);have r:=Zh h;obtain⟨m,k,d,_⟩:=h.place hp;obtain⟨tg,f⟩:=DA (x.rs[m].nd.tag);have a:tg=RA x.l q:=(by rw[(sF h k d).1,f]);obtain⟨bm,g⟩:=DA (x.rs[m].b);rw[<-a] at ht;rw[<-a] at hv;have z:=Zh hi;have A:=Zh hp;have l:=Zh d;have n:=Zh f;have j:=Zh g;have C:=Zh hv;clear h hi hp d f a g hv;go_enter func190,ntmps190;go_wp2_with fail;refine(FC i w z r).mono ?_;rintro e D ⟨rfl,c⟩;have s:=Zh (o.trans (c.mono o.size));have t:=Zh (r.below c);clear c;go_wp2_with fail;refine(FC q D A t).mono ?_;rintro e E ⟨rfl,c⟩;have u:=Zh (s.trans (c.mono s.size));have v:=Zh (t.below c);clear c;go_wp2_with fail;refine(lG q E k l j v).mono ?_;rintro e y ⟨rfl,c⟩;have F:=Zh (u.trans (c.mono u.size));have G:=Zh (v.below c);have H:y.cell? (cA bm 2)=some (bA tg):=(by have:=(G.nd k).c2;rwa[j.out,n.out] at this);clear c;go_wp2_with fail;refine PA (iJ tg y C) ?_;go_wp2_with fail;go_ret;exact⟨rfl,F⟩
theorem Em(i q b:Int)(w:World)(hi:nA x.l i=true)(hp:nA x.l q=true)(hq:(b != 0)=true)(hb:nA x.l b=true)(h1:(i==1)=false)(ht:(RA x.l q).toList.isEmpty=false)(hv:P1.dC (RA x.l q).data.toList=true)(h:Dc w B p x):jA 190 #[lA p,aA i,aA q,aA b] w fun e w'=>e= .returned (.iface 29 (aA 3))/\fA w w':=by
 have o:=Zh (Below.refl w.heap.size w);have r:=Zh h;obtain⟨m,k,d,_⟩:=h.place hp;obtain⟨tg,f⟩:=DA (x.rs[m].nd.tag);have c:tg=RA x.l q:=(by rw[(sF h k d).1,f]);obtain⟨bm,g⟩:=DA (x.rs[m].b);rw[<-c] at ht;rw[<-c] at hv;have C:=Zh hi;have D:=Zh hp;have E:=Zh hb;have l:=Zh d;have n:=Zh f;have j:=Zh g;have F:=Zh hv;clear h hi hp hb d f c g hv;go_enter func190,ntmps190;go_wp2_with fail;refine(FC i w C r).mono ?_;rintro e G ⟨rfl,a⟩;have s:=Zh (o.trans (a.mono o.size));have t:=Zh (r.below a);clear a;go_wp2_with fail;refine(FC q G D t).mono ?_;rintro e H ⟨rfl,a⟩;have u:=Zh (s.trans (a.mono s.size));have v:=Zh (t.below a);clear a;go_wp2_with fail;refine(FC b H E v).mono ?_;rintro e I ⟨rfl,a⟩;have y:=Zh (u.trans (a.mono u.size));have z:=Zh (v.below a);clear a;go_wp2_with fail;refine(lG q I k l j z).mono ?_;rintro e A ⟨rfl,a⟩;have J:=Zh (y.trans (a.mono y.size));have K:=Zh (z.below a);have L:A.cell? (cA bm 2)=some (bA tg):=(by have:=(K.nd k).c2;rwa[j.out,n.out] at this);clear a;go_wp2_with fail;refine PA (iJ tg A F) ?_;go_wp2_with fail;go_ret;exact⟨rfl,J⟩
theorem Fm(i q b:Int)(w:World)(hi:nA x.l i=true)(hp:nA x.l q=true)(hq:(b != 0)=true)(hb:nA x.l b=true)(h1:(i==1)=false)(ht:(RA x.l q).toList.isEmpty=false)(hv:P1.dC (RA x.l q).data.toList=false)(hbi:(b==i)=true)(h:Dc w B p x):jA 190 #[lA p,aA i,aA q,aA b] w fun e w'=>e= .returned (.iface 29 (aA 1))/\fA w w':=by
 have o:=Zh (Below.refl w.heap.size w);have r:=Zh h;obtain⟨m,k,d,_⟩:=h.place hp;obtain⟨tg,f⟩:=DA (x.rs[m].nd.tag);have c:tg=RA x.l q:=(by rw[(sF h k d).1,f]);obtain⟨bm,g⟩:=DA (x.rs[m].b);rw[<-c] at ht;rw[<-c] at hv;have C:=Zh hi;have D:=Zh hp;have E:=Zh hb;have l:=Zh d;have n:=Zh f;have j:=Zh g;have F:=Zh hv;clear h hi hp hb d f c g hv;go_enter func190,ntmps190;go_wp2_with fail;refine(FC i w C r).mono ?_;rintro e G ⟨rfl,a⟩;have s:=Zh (o.trans (a.mono o.size));have t:=Zh (r.below a);clear a;go_wp2_with fail;refine(FC q G D t).mono ?_;rintro e H ⟨rfl,a⟩;have u:=Zh (s.trans (a.mono s.size));have v:=Zh (t.below a);clear a;go_wp2_with fail;refine(FC b H E v).mono ?_;rintro e I ⟨rfl,a⟩;have y:=Zh (u.trans (a.mono u.size));have z:=Zh (v.below a);clear a;go_wp2_with fail;refine(lG q I k l j z).mono ?_;rintro e A ⟨rfl,a⟩;have J:=Zh (y.trans (a.mono y.size));have K:=Zh (z.below a);have L:A.cell? (cA bm 2)=some (bA tg):=(by have:=(K.nd k).c2;rwa[j.out,n.out] at this);clear a;go_wp2_with fail;refine PA (iJ tg A F) ?_;go_wp2_with fail;go_ret;exact⟨rfl,J⟩
theorem Gm(i q b:Int)(w:World)(hi:nA x.l i=true)(hp:nA x.l q=true)(hq:(b != 0)=true)(hb:nA x.l b=true)(h1:(i==1)=false)(ht:(RA x.l q).toList.isEmpty=false)(hv:P1.dC (RA x.l q).data.toList=false)(hbi:(b==i)=false)(rI:(EA x.l b != q)=true)(h:Dc w B p x):jA 190 #[lA p,aA i,aA q,aA b] w fun e w'=>e= .returned (.iface 29 (aA 1))/\fA w w':=by
 have D:=Zh (Below.refl w.heap.size w);have E:=Zh h;obtain⟨m,s,d,_⟩:=h.place hp;obtain⟨tg,f⟩:=DA (x.rs[m].nd.tag);have c:tg=RA x.l q:=(by rw[(sF h s d).1,f]);obtain⟨bm,l⟩:=DA (x.rs[m].b);rw[<-c] at ht;rw[<-c] at hv;obtain⟨j,t,g,_⟩:=h.place hb;obtain⟨pb,k⟩:=DA (x.rs[j].nd.par);rw[(sF h t g).2.1,k] at rI;obtain⟨bj,n⟩:=DA (x.rs[j].b);have M:=Zh hi;have N:=Zh hp;have O:=Zh hb;have u:=Zh d;have v:=Zh f;have o:=Zh l;have P:=Zh hv;have y:=Zh g;have z:=Zh k;have r:=Zh n;clear h hi hp hb d f c l hv g k n;go_enter func190,ntmps190;go_wp2_with fail;refine(FC i w M E).mono ?_;rintro e Q ⟨rfl,a⟩;have F:=Zh (D.trans (a.mono D.size));have G:=Zh (E.below a);clear a;go_wp2_with fail;refine(FC q Q N G).mono ?_;rintro e R ⟨rfl,a⟩;have H:=Zh (F.trans (a.mono F.size));have I:=Zh (G.below a);clear a;go_wp2_with fail;refine(FC b R O I).mono ?_;rintro e S ⟨rfl,a⟩;have J:=Zh (H.trans (a.mono H.size));have K:=Zh (I.below a);clear a;go_wp2_with fail;refine(lG q S s u o K).mono ?_;rintro e A ⟨rfl,a⟩;have L:=Zh (J.trans (a.mono J.size));have C:=Zh (K.below a);have W:A.cell? (cA bm 2)=some (bA tg):=(by have:=(C.nd s).c2;rwa[o.out,v.out] at this);clear a;go_wp2_with fail;refine PA (iJ tg A P) ?_;go_wp2_with fail;refine(lG b A t y r C).mono ?_;rintro e T ⟨rfl,a⟩;have U:=Zh (L.trans (a.mono L.size));have V:=Zh (C.below a);have X:T.cell? (cA bj 1)=some (aA pb):=(by have:=(V.nd t).c1;rwa[r.out,z.out] at this);clear a;go_wp2_with fail;go_ret;exact⟨rfl,U⟩
theorem Wq(i q b:Int)(w:World)(hi:nA x.l i=true)(hp:nA x.l q=true)(hq:(b != 0)=false)(h1:(i==1)=false)(ht:(RA x.l q).toList.isEmpty=false)(hv:P1.dC (RA x.l q).data.toList=false)(hwf:WF x.d)(hin:inside x.l q i=true)(h:Dc w B p x):jA 190 #[lA p,aA i,aA q,aA b] w fun e w'=>e= .returned (.iface 29 (aA 5))/\fA w w':=by
 have u:=Zh (Below.refl w.heap.size w);have v:=Zh h;obtain⟨m,k,d,_⟩:=h.place hp;obtain⟨tg,f⟩:=DA (x.rs[m].nd.tag);have c:tg=RA x.l q:=(by rw[(sF h k d).1,f]);obtain⟨bm,g⟩:=DA (x.rs[m].b);rw[<-c] at ht;rw[<-c] at hv;have y:=Zh hi;have z:=Zh hp;have l:=Zh d;have n:=Zh f;have j:=Zh g;have G:=Zh hv;have o:=Zh hwf;have r:=Zh hin;clear h hi hp d f c g hv hwf hin;go_enter func190,ntmps190;go_wp2_with fail;refine(FC i w y v).mono ?_;rintro e H ⟨rfl,a⟩;have A:=Zh (u.trans (a.mono u.size));have C:=Zh (v.below a);clear a;go_wp2_with fail;refine(FC q H z C).mono ?_;rintro e I ⟨rfl,a⟩;have D:=Zh (A.trans (a.mono A.size));have E:=Zh (C.below a);clear a;go_wp2_with fail;refine(lG q I k l j E).mono ?_;rintro e s ⟨rfl,a⟩;have F:=Zh (D.trans (a.mono D.size));have t:=Zh (E.below a);have K:s.cell? (cA bm 2)=some (bA tg):=(by have:=(t.nd k).c2;rwa[j.out,n.out] at this);clear a;go_wp2_with fail;refine PA (iJ tg s G) ?_;go_wp2_with fail;refine(IQ q i s r o z y t).mono ?_;rintro e L ⟨rfl,a⟩;have J:=Zh (F.trans (a.mono F.size));have M:=Zh (t.below a);clear a;go_wp2_with fail;go_ret;exact⟨rfl,J⟩
theorem Xq(i q b:Int)(w:World)(hi:nA x.l i=true)(hp:nA x.l q=true)(hq:(b != 0)=true)(hb:nA x.l b=true)(hbi:(b==i)=false)(rI:(EA x.l b != q)=false)(h1:(i==1)=false)(ht:(RA x.l q).toList.isEmpty=false)(hv:P1.dC (RA x.l q).data.toList=false)(hwf:WF x.d)(hin:inside x.l q i=true)(h:Dc w B p x):jA 190 #[lA p,aA i,aA q,aA b] w fun e w'=>e= .returned (.iface 29 (aA 5))/\fA w w':=by
 have G:=Zh (Below.refl w.heap.size w);have H:=Zh h;obtain⟨m,s,d,_⟩:=h.place hp;obtain⟨tg,f⟩:=DA (x.rs[m].nd.tag);have c:tg=RA x.l q:=(by rw[(sF h s d).1,f]);obtain⟨bm,l⟩:=DA (x.rs[m].b);rw[<-c] at ht;rw[<-c] at hv;obtain⟨j,t,g,_⟩:=h.place hb;obtain⟨pb,k⟩:=DA (x.rs[j].nd.par);rw[(sF h t g).2.1,k] at rI;obtain⟨bj,n⟩:=DA (x.rs[j].b);have I:=Zh hi;have J:=Zh hp;have T:=Zh hb;have u:=Zh g;have v:=Zh k;have o:=Zh n;have y:=Zh d;have z:=Zh f;have r:=Zh l;have U:=Zh hv;have A:=Zh hwf;have C:=Zh hin;clear h hi hp hb g k n d f c l hv hwf hin;go_enter func190,ntmps190;go_wp2_with fail;refine(FC i w I H).mono ?_;rintro e V ⟨rfl,a⟩;have K:=Zh (G.trans (a.mono G.size));have L:=Zh (H.below a);clear a;go_wp2_with fail;refine(FC q V J L).mono ?_;rintro e W ⟨rfl,a⟩;have M:=Zh (K.trans (a.mono K.size));have N:=Zh (L.below a);clear a;go_wp2_with fail;refine(FC b W T N).mono ?_;rintro e X ⟨rfl,a⟩;have O:=Zh (M.trans (a.mono M.size));have P:=Zh (N.below a);clear a;go_wp2_with fail;refine(lG q X s y r P).mono ?_;rintro e D ⟨rfl,a⟩;have Q:=Zh (O.trans (a.mono O.size));have E:=Zh (P.below a);have Z:D.cell? (cA bm 2)=some (bA tg):=(by have:=(E.nd s).c2;rwa[r.out,z.out] at this);clear a;go_wp2_with fail;refine PA (iJ tg D U) ?_;go_wp2_with fail;refine(lG b D t u o E).mono ?_;rintro e R ⟨rfl,a⟩;have S:=Zh (Q.trans (a.mono Q.size));have F:=Zh (E.below a);have d1:R.cell? (cA bj 1)=some (aA pb):=(by have:=(F.nd t).c1;rwa[o.out,v.out] at this);clear a;go_wp2_with fail;refine(IQ q i R C A J I F).mono ?_;rintro e w6 ⟨rfl,a⟩;have Y:=Zh (S.trans (a.mono S.size));have H6:=Zh (F.below a);clear a;go_wp2_with fail;go_ret;exact⟨rfl,Y⟩
variable{B p:Nat}{x:Dx}
theorem Yq(i:Int)(l:List Int):l.take l.length++i:: l.drop l.length=RG i 0 l:=by
 unfold RG;rw[if_pos rfl];simp
theorem zc:∀{l:List Int} {b:Int} (i:Int),b∈l->l.Nodup->b≠0->l.take (SD l b)++i:: l.drop (SD l b)=RG i b l
 |[],_,_,h,_,_=>absurd h FA
 |a:: r,b,i,h,hn,h0=>by
  obtain⟨h1,h2⟩:=List.nodup_cons.1 hn;unfold RG;rw[if_neg h0,List.flatMap_cons];by_cases e:b=a
  ·subst e;have:r.flatMap (fun c=>if c=b then[i,c] else[c])=r:=by
    have:∀m:List Int,b∉m->m.flatMap (fun c=>if c=b then[i,c] else[c])=m:=by
     intro m
     induction m with
     |nil=>intro _;rfl
     |cons c m ih=>
      intro hm;simp only[List.mem_cons,not_or] at hm;rw[List.flatMap_cons,if_neg (Ne.symm hm.1),ih hm.2];rfl
    exact this r h1
   rw[this];simp[SD]
  ·have ih:=zc i ((List.mem_cons.1 h).resolve_left e) h2 h0;unfold RG at ih;rw[if_neg h0] at ih;rw[if_neg (Ne.symm e),<-ih];simp[SD,e]
theorem La{w w7:World}{y:Dx}{m:Nat}{q:Int}(h:Dc w B p y)(hm:m<y.rs.length)(hym:y.rs[m].nd.id=q){f:List Int->List Int}{A7:vA}{n7 c7:Nat}
 (hb:iA (fun g=>y.rs[m].vk.val.ownBlock=some g) w w7) (ho:kI.Own w7 B (.slice A7 n7 c7) (f y.rs[m].nd.kids)) (hv:∀g,(Value.slice A7 n7 c7).ownBlock=some g->y.rs[m].vk.val.ownBlock=some g\/w.heap.size<=g):
 ∃rs2:List Rw,aC w B p y {y with rs:=rs2} (w7.setCell ⟨y.rs[m].b,6,none⟩ (.slice A7 n7 c7))/\rs2.map (·.nd)=mB y.l q (YC f)/\rs2.map pB=y.rs.map pB:=by
 obtain⟨c,a⟩:∃c:Rw,c=⟨y.rs[m].b,y.rs[m].va,⟨A7,n7,c7⟩,YC f y.rs[m].nd⟩:=⟨_,rfl⟩;have e:=h.Wc hm (r:=c) (f:=f) (w':=w7) (by rw[a]) (by rw[a]) (by rw[a]) hb (by rw[a];exact ho) (fun g i=>hv g (by rw[a] at i;exact i));have d:c.vk.val= .slice A7 n7 c7:=(by rw[a];rfl);rw[d] at e;have j:=JP h hm (r:=c) (f:=YC f) (by rw[a]);rw[hym] at j;exact⟨(y.put m c).rs,e,j,hU (x:=y) hm (r:=c) (by rw[a]) (by rw[a];rfl)⟩
theorem Ma{w:World}{y:Dx}{k:Nat}{i:Int}(q:Int)(h:Dc w B p y)(hk:k<y.rs.length)(hy:y.rs[k].nd.id=i):
 ∃rs3:List Rw,aC w B p y {y with rs:=rs3} (w.setCell ⟨y.rs[k].b,1,none⟩ (aA q))/\rs3.map (·.nd)=mB y.l i (VD q):=by
 have a:=h.LP hk (r:=⟨y.rs[k].b,y.rs[k].va,y.rs[k].vk,VD q y.rs[k].nd⟩) rfl rfl rfl rfl (h.nd hk).mC (i:=1) (u:=aA q) rfl;have e:=JP h hk (r:=⟨y.rs[k].b,y.rs[k].va,y.rs[k].vk,VD q y.rs[k].nd⟩) (f:=VD q) rfl;rw[hy] at e;exact⟨_,a,e⟩
theorem jZ{w:World}{y:Dx}{m:Nat}{q:Int}(h:Dc w B p y)(hm:m<y.rs.length)(hy:y.rs[m].nd.id=q):xA y.l q=y.rs[m].nd.kids:=(sF h hm hy).2.2
theorem dr(i q b:Int)(w:World)(hi:nA x.l i=true)(hp:nA x.l q=true)(hq:(b != 0)=false)(h1:(i==1)=false)(ht:(RA x.l q).toList.isEmpty=false)(hv:P1.dC (RA x.l q).data.toList=false)(hwf:WF x.d)(hin:inside x.l q i=false)(hok:SI x.l i q b)(h:Dc w B p x):jA 190 #[lA p,aA i,aA q,aA b] w (Made w B p x .nilIface {x.d with l:=SA x.l i q b}):=by
 have B0:=Zh (Below.refl w.heap.size w);have H0:=Zh h;have PK:=Zh hok;obtain⟨m,hm,E,_⟩:=h.place hp;obtain⟨tg,F⟩:=DA (x.rs[m].nd.tag);have t:tg=RA x.l q:=(by rw[(sF h hm E).1,F]);obtain⟨bm,N⟩:=DA (x.rs[m].b);rw[<-t] at ht;rw[<-t] at hv;obtain⟨k,hk,O,_⟩:=h.place hi;obtain⟨bk,P⟩:=DA (x.rs[k].b);have G:Tr (fun y=>nA x.l y=true) (EA x.l) (xA x.l):=hwf.tr;have Q:=Zh (PJ (i:=i) G);have BF:=Zh (cU G hok);have hR:x.rs.length<=200:=(by have h1:=h.ar.len;have h2:=h.ar.room;rw[List.length_map] at h1;omega);have HI:=Zh hi;have HP:=Zh hp;have R:=Zh E;have a6:=Zh F;have H:=Zh N;have HV:=Zh hv;have S:=Zh hwf;have a7:=Zh hin;have a8:=Zh O;have a9:=Zh P;clear h hi hp E F t N hv hwf hin O P hok G;go_enter func190,ntmps190;go_wp2_with fail;refine(FC i w HI H0).mono ?_;rintro e w1 ⟨rfl,j⟩;have B1:=Zh (B0.trans (j.mono B0.size));have H1:=Zh (H0.below j);clear j;go_wp2_with fail;refine(FC q w1 HP H1).mono ?_;rintro e w2 ⟨rfl,j⟩;have B2:=Zh (B1.trans (j.mono B1.size));have H2:=Zh (H1.below j);clear j;go_wp2_with fail;refine(lG q w2 hm R H H2).mono ?_;rintro e w3 ⟨rfl,j⟩;have B3:=Zh (B2.trans (j.mono B2.size));have H3:=Zh (H2.below j);have d2:w3.cell? (cA bm 2)=some (bA tg):=(by have:=(H3.nd hm).c2;rwa[H.out,a6.out] at this);clear j;go_wp2_with fail;refine PA (iJ tg w3 HV) ?_;go_wp2_with fail;refine(IQ q i w3 a7 S HP HI H3).mono ?_;rintro e w4 ⟨rfl,j⟩;have B4:=Zh (B3.trans (j.mono B3.size));have H4:=Zh (H3.below j);clear j;go_wp2_with fail;refine(iU i w4 S HI H4).mono ?_;rintro e s ⟨rfl,a,u,I,o⟩;have DL:=Zh ((aC.SF H0 B4).trans u);have L1:=Zh I;have L2:=Zh o;have HX:=Zh u.dc;obtain⟨f,T,U⟩:=gR o hm;have V:=Zh (T.trans R);have r:=Zh (U.trans H);have EK:Hid (xA (UA x.l i) q=a[m].nd.kids):=Zh (by rw[<-I];exact jZ u.dc f V);have ND:Hid (a[m].nd.kids.Nodup):=Zh (by rw[<-EK.out];exact Q.AD q);have aa:a[m].nd.kids.length<=1000000:=by
  have h1:=eI a[m].nd.kids (MA (UA x.l i)) ND (fun c hc=>zE.1 (Q.aB q c (by rw[EK.out];exact hc)).2.1);rw[xL] at h1;simp only[MA,List.length_map,Dx.l] at h1;omega
 obtain⟨⟨M,C,J⟩,K⟩:∃v,a[m].vk=v:=⟨_,rfl⟩;have OW:Hid (kI.Own s B (.slice M C J) a[m].nd.kids):=Zh (by have:=(u.dc.nd f).kids;rw[K] at this;exact this);have V6:Hid (a[m].vk.val= .slice M C J):=Zh (by rw[K];rfl);obtain⟨g1,g2,g3,g4,g5⟩:=UE OW rfl;have X:=Zh g1;have af:=Zh g5;have d6:s.cell? (cA bm 6)=some (.slice M C J):=(by have:=(u.dc.nd f).c6;rwa[r.out,V6.out] at this);have ag:B<=s.heap.size:=(by have h1:=u.dc.base;have h2:=u.dc.lt (.inl rfl:fC p {x with rs:=a} p);omega);have ah:C<=1000000:=dA;have ab:bm<s.heap.size:=(by have:=(u.dc.nd f).lt;rwa[r.out] at this);clear u I o T U K g1 g2 g3 g4 g5 d2;go_wp2_with fail;have b0:b=0:=(by simpa using hq);have ac:=Zh b0;clear b0;refine(iY a[m].nd.kids i C (B:=B) (vb:=s.heap.size) (v:=.slice M C J) (s.alloc (.cells #[aA i] 3)) (by rw[X.out];exact Zl) aa jB (OW.alloc _) (heap_alloc_new s _) (fun e=>by have:=(OW.lt e).2;omega)).mono ?_;rintro e L ⟨A7,n7,c7,rfl,o7,b7,Y⟩;have O7:Hid (kI.Own L B (.slice A7 n7 c7) (RG i b a[m].nd.kids)):=Zh (by have:=Yq i a[m].nd.kids;rw[X.out] at this;rw[ac.out];rw[this] at o7;exact o7);have B7:Hid (iA (fun g=>a[m].vk.val.ownBlock=some g) s L):=Zh (by rw[V6.out];exact iA.trans (iA.alloc (iA.refl (fun g=>(Value.slice M C J).ownBlock=some g) s) _) b7 (fun _ _ h=>h));have V7:Hid (∀g,(Value.slice A7 n7 c7).ownBlock=some g->a[m].vk.val.ownBlock=some g\/s.heap.size<=g):=Zh (by intro g hg;rw[V6.out];rcases Y g hg with e|e;(exact .inl e);(simp at e;exact .inr dA));have k7:L.heap[bm]? = s.heap[bm]?:=B7.block _ ab (fun e=>by
  obtain⟨d,hd⟩:=(HX.nd f).kids.ty e;have:=(HX.nd f).zA;rw[r.out] at this;exact WA hd this pA rfl)
 have e6:L.cell? (cA bm 6)=some (.slice M C J):=(World.cell?_of_block k7).trans d6;have f6:L.frozen? (cA bm 6)=false:=(by have h1:=(HX.nd f).zA;rw[r.out] at h1;have hb:=k7.trans h1;simp[World.frozen?,hb]);clear o7 b7 Y d6 k7;go_wp2_with fail;obtain⟨n,Z,o,a0⟩:=La HX f V B7 O7 V7;have ai:Hid (a[m].b=bm):=r;have D2:Hid (aC s B p {x with rs:=a} {x with rs:=n} (L.setCell (cA bm 6) (.slice A7 n7 c7))):=Zh (by rw[<-r.out];exact Z);have L3:Hid (n.map (·.nd)=mB (UA x.l i) q (YC (RG i b))):=Zh (by rw[<-L1.out];exact o);obtain⟨z,a1,a2⟩:=gR (a0.trans L2) hk;have a3:=Zh (a1.trans a8);have A:=Zh (a2.trans a9);clear Z o a0 a1 a2 e6 f6;generalize L.setCell (cA bm 6) (.slice A7 n7 c7)=W at D2|-;refine(lG (x:={x with rs:=n}) i W z a3 A D2.dc).mono ?_;rintro e w8 ⟨rfl,b8⟩;have D8:=Zh (D2.below b8);have H8:=Zh (D2.dc.below b8);obtain⟨pv,a4⟩:=DA (n[k].nd.par);have d1:w8.cell? (cA bk 1)=some (aA pv):=(by have:=(H8.nd z).c1;rw[A.out,a4] at this;exact this);have f1:w8.frozen? (cA bk 1)=false:=(by have:=(H8.nd z).frozen 1;rw[A.out] at this;exact this);clear b8 a4;go_wp2_with fail;go_ret;obtain⟨ad,a5,ae⟩:=Ma q H8 z a3;rw[A.out] at a5;refine⟨rfl,_,(DL.trans D8).trans a5,?_⟩;show D.mk (ad.map (·.nd)) x.n x.R x.nB=D.mk (SA x.l i q b) x.n x.R x.nB;rw[ae];show D.mk (mB (n.map (·.nd)) i (VD q)) _ _ _=_;rw[L3.out];rfl
theorem ir(i q b:Int)(w:World)(hi:nA x.l i=true)(hp:nA x.l q=true)(hq:(b != 0)=true)(hb:nA x.l b=true)(hbi:(b==i)=false)(rI:(EA x.l b != q)=false)(h1:(i==1)=false)(ht:(RA x.l q).toList.isEmpty=false)(hv:P1.dC (RA x.l q).data.toList=false)(hwf:WF x.d)(hin:inside x.l q i=false)(hok:SI x.l i q b)(h:Dc w B p x):jA 190 #[lA p,aA i,aA q,aA b] w (Made w B p x .nilIface {x.d with l:=SA x.l i q b}):=by
 have B0:=Zh (Below.refl w.heap.size w);have H0:=Zh h;have PK:=Zh hok;obtain⟨m,hm,G,_⟩:=h.place hp;obtain⟨tg,H⟩:=DA (x.rs[m].nd.tag);have u:tg=RA x.l q:=(by rw[(sF h hm G).1,H]);obtain⟨bm,Q⟩:=DA (x.rs[m].b);rw[<-u] at ht;rw[<-u] at hv;obtain⟨j,hj,I,_⟩:=h.place hb;obtain⟨pb,J⟩:=DA (x.rs[j].nd.par);rw[(sF h hj I).2.1,J] at rI;obtain⟨bj,R⟩:=DA (x.rs[j].b);obtain⟨k,hk,S,_⟩:=h.place hi;obtain⟨bk,T⟩:=DA (x.rs[k].b);have K:Tr (fun y=>nA x.l y=true) (EA x.l) (xA x.l):=hwf.tr;have U:=Zh (PJ (i:=i) K);have BF:=Zh (cU K hok);have hR:x.rs.length<=200:=(by have h1:=h.ar.len;have h2:=h.ar.room;rw[List.length_map] at h1;omega);have HI:=Zh hi;have HP:=Zh hp;have HB:=Zh hb;have ab:=Zh I;have ac:=Zh J;have V:=Zh R;have X:=Zh G;have ad:=Zh H;have L:=Zh Q;have HV:=Zh hv;have Y:=Zh hwf;have ae:=Zh hin;have af:=Zh S;have ag:=Zh T;clear h hi hp G H u Q hv hwf hin S T hok K hb I J R;go_enter func190,ntmps190;go_wp2_with fail;refine(FC i w HI H0).mono ?_;rintro e w1 ⟨rfl,f⟩;have B1:=Zh (B0.trans (f.mono B0.size));have H1:=Zh (H0.below f);clear f;go_wp2_with fail;refine(FC q w1 HP H1).mono ?_;rintro e w2 ⟨rfl,f⟩;have B2:=Zh (B1.trans (f.mono B1.size));have H2:=Zh (H1.below f);clear f;go_wp2_with fail;refine(FC b w2 HB H2).mono ?_;rintro e w3 ⟨rfl,f⟩;have B3:=Zh (B2.trans (f.mono B2.size));have H3:=Zh (H2.below f);clear f;go_wp2_with fail;refine(lG q w3 hm X L H3).mono ?_;rintro e w4 ⟨rfl,f⟩;have B4:=Zh (B3.trans (f.mono B3.size));have H4:=Zh (H3.below f);have d2:w4.cell? (cA bm 2)=some (bA tg):=(by have:=(H4.nd hm).c2;rwa[L.out,ad.out] at this);clear f;go_wp2_with fail;refine PA (iJ tg w4 HV) ?_;go_wp2_with fail;refine(lG b w4 hj ab V H4).mono ?_;rintro e w5 ⟨rfl,f⟩;have B5:=Zh (B4.trans (f.mono B4.size));have H5:=Zh (H4.below f);have d1:w5.cell? (cA bj 1)=some (aA pb):=(by have:=(H5.nd hj).c1;rwa[V.out,ac.out] at this);clear f;go_wp2_with fail;refine(IQ q i w5 ae Y HP HI H5).mono ?_;rintro e w6 ⟨rfl,f⟩;have B6:=Zh (B5.trans (f.mono B5.size));have H6:=Zh (H5.below f);clear f;go_wp2_with fail;refine(iU i w6 Y HI H6).mono ?_;rintro e r ⟨rfl,a,z,M,s⟩;have DL:=Zh ((aC.SF H0 B6).trans z);have L1:=Zh M;have L2:=Zh s;have HX:=Zh z.dc;obtain⟨n,Z,a0⟩:=gR s hm;have a1:=Zh (Z.trans X);have t:=Zh (a0.trans L);have EK:Hid (xA (UA x.l i) q=a[m].nd.kids):=Zh (by rw[<-M];exact jZ z.dc n a1);have ND:Hid (a[m].nd.kids.Nodup):=Zh (by rw[<-EK.out];exact U.AD q);have ah:a[m].nd.kids.length<=1000000:=by
  have h1:=eI a[m].nd.kids (MA (UA x.l i)) ND (fun c hc=>zE.1 (U.aB q c (by rw[EK.out];exact hc)).2.1);rw[xL] at h1;simp only[MA,List.length_map,Dx.l] at h1;omega
 obtain⟨⟨N,E,F⟩,O⟩:∃v,a[m].vk=v:=⟨_,rfl⟩;have OW:Hid (kI.Own r B (.slice N E F) a[m].nd.kids):=Zh (by have:=(z.dc.nd n).kids;rw[O] at this;exact this);have V6:Hid (a[m].vk.val= .slice N E F):=Zh (by rw[O];rfl);obtain⟨g1,g2,g3,g4,g5⟩:=UE OW rfl;have ai:=Zh g1;have aj:=Zh g5;have d6:r.cell? (cA bm 6)=some (.slice N E F):=(by have:=(z.dc.nd n).c6;rwa[t.out,V6.out] at this);have ao:B<=r.heap.size:=(by have h1:=z.dc.base;have h2:=z.dc.lt (.inl rfl:fC p {x with rs:=a} p);omega);have ak:E<=1000000:=dA;have al:bm<r.heap.size:=(by have:=(z.dc.nd n).lt;rwa[t.out] at this);clear z M s Z a0 O g1 g2 g3 g4 g5 d2 d1;go_wp2_with fail;have a2:Hid (b∈a[m].nd.kids):=Zh (by rw[<-EK.out];exact BF.resolve_left (by simpa using hq));refine PA (WM a[m].nd.kids b N E F r ai ak a2 aj) ?_;have BZ:Hid (b≠0):=Zh (by simpa using hq);go_wp2_with fail;refine(iY a[m].nd.kids i (SD a[m].nd.kids b) (B:=B) (vb:=r.heap.size) (v:=.slice N E F) (r.alloc (.cells #[aA i] 3)) (Nq _ _) ah jB (OW.alloc _) (heap_alloc_new r _) (fun e=>by have:=(OW.lt e).2;omega)).mono ?_;rintro e P ⟨A7,n7,c7,rfl,o7,b7,a3⟩;have O7:Hid (kI.Own P B (.slice A7 n7 c7) (RG i b a[m].nd.kids)):=Zh (by rw[zc i a2.out ND.out BZ.out] at o7;exact o7);have B7:Hid (iA (fun g=>a[m].vk.val.ownBlock=some g) r P):=Zh (by rw[V6.out];exact iA.trans (iA.alloc (iA.refl (fun g=>(Value.slice N E F).ownBlock=some g) r) _) b7 (fun _ _ h=>h));have V7:Hid (∀g,(Value.slice A7 n7 c7).ownBlock=some g->a[m].vk.val.ownBlock=some g\/r.heap.size<=g):=Zh (by intro g hg;rw[V6.out];rcases a3 g hg with e|e;(exact .inl e);(simp at e;exact .inr dA));have k7:P.heap[bm]? = r.heap[bm]?:=B7.block _ al (fun e=>by
  obtain⟨d,hd⟩:=(HX.nd n).kids.ty e;have:=(HX.nd n).zA;rw[t.out] at this;exact WA hd this pA rfl)
 have e6:P.cell? (cA bm 6)=some (.slice N E F):=(World.cell?_of_block k7).trans d6;have f6:P.frozen? (cA bm 6)=false:=(by have h1:=(HX.nd n).zA;rw[t.out] at h1;have hb:=k7.trans h1;simp[World.frozen?,hb]);clear o7 b7 a3 d6 k7;go_wp2_with fail;obtain⟨o,a4,s,a5⟩:=La HX n a1 B7 O7 V7;have ap:Hid (a[m].b=bm):=t;have D2:Hid (aC r B p {x with rs:=a} {x with rs:=o} (P.setCell (cA bm 6) (.slice A7 n7 c7))):=Zh (by rw[<-t.out];exact a4);have L3:Hid (o.map (·.nd)=mB (UA x.l i) q (YC (RG i b))):=Zh (by rw[<-L1.out];exact s);obtain⟨A,a6,a7⟩:=gR (a5.trans L2) hk;have a8:=Zh (a6.trans af);have C:=Zh (a7.trans ag);clear a4 s a5 a6 a7 e6 f6;generalize P.setCell (cA bm 6) (.slice A7 n7 c7)=W at D2|-;refine(lG (x:={x with rs:=o}) i W A a8 C D2.dc).mono ?_;rintro e w8 ⟨rfl,b8⟩;have D8:=Zh (D2.below b8);have H8:=Zh (D2.dc.below b8);obtain⟨pv,a9⟩:=DA (o[k].nd.par);have d1:w8.cell? (cA bk 1)=some (aA pv):=(by have:=(H8.nd A).c1;rw[C.out,a9] at this;exact this);have f1:w8.frozen? (cA bk 1)=false:=(by have:=(H8.nd A).frozen 1;rw[C.out] at this;exact this);clear b8 a9;go_wp2_with fail;go_ret;obtain⟨am,aa,an⟩:=Ma q H8 A a8;rw[C.out] at aa;refine⟨rfl,_,(DL.trans D8).trans aa,?_⟩;show D.mk (am.map (·.nd)) x.n x.R x.nB=D.mk (SA x.l i q b) x.n x.R x.nB;rw[an];show D.mk (mB (o.map (·.nd)) i (VD q)) _ _ _=_;rw[L3.out];rfl
theorem bM(i q b:Int)(w:World)(hwf:WF x.d)(h:Dc w B p x):jA 190 #[lA p,aA i,aA q,aA b] w (Made w B p x (QA (YD x.d i q b).1) (YD x.d i q b).2):=by
 have E:∀c:Int,c≠0->fE x.l i q b=c->∀e w',e=Ending.returned (.iface 29 (aA c))/\fA w w'->Made w B p x (QA (YD x.d i q b).1) (YD x.d i q b).2 e w':=by
  rintro c A d e w' ⟨rfl,f⟩;have t:YD x.d i q b=(c,x.d):=(by unfold YD;rw[if_neg (by rw[show x.d.l=x.l from rfl,d];exact A),show x.d.l=x.l from rfl,d]);rw[t];exact Made.same h f (by unfold QA;rw[if_neg A]) rfl
 cases hi:nA x.l i with
 |false=>exact(Rq i q b w hi h).mono (E 2 pA (by unfold fE;rw[if_pos (.inl hi)]))
 |true=>
 cases hp:nA x.l q with
 |false=>exact(Sq i q b w hi hp h).mono (E 2 pA (by unfold fE;rw[if_pos (.inr (.inl hp))]))
 |true=>
 have u:b≠0->nA x.l b=false->fE x.l i q b=2:=fun C f=>by unfold fE;rw[if_pos (.inr (.inr ⟨C,f⟩))]
 by_cases g:b≠0/\nA x.l b=false
 ·exact(Tq i q b w hi hp (by simpa using g.1) g.2 h).mono (E 2 pA (u g.1 g.2))
 have o:¬(nA x.l i=false\/nA x.l q=false\/b≠0/\nA x.l b=false):=(by rw[hi,hp];simpa using g);have j:b=0\/b≠0/\nA x.l b=true:=by
  by_cases e:b=0
  ·exact .inl e
  ·exact .inr ⟨e,by simpa[e] using g⟩
 by_cases k:i=1
 ·have d:fE x.l i q b=4:=(by unfold fE;rw[if_neg o,if_pos k]);rcases j with e|⟨e,f⟩
  ·exact(Uq i q b w hi hp (by simpa using e) (by simpa using k) h).mono (E 4 pA d)
  ·exact(Vq i q b w hi hp (by simpa using e) f (by simpa using k) h).mono (E 4 pA d)
 have a:(i==1)=false:=(by simpa using k);cases ht:(RA x.l q).toList.isEmpty with
 |true=>
  have d:fE x.l i q b=3:=(by unfold fE qC;rw[if_neg o,if_neg k,if_pos (by rw[List.isEmpty_iff] at ht;simp[ht])]);rcases j with e|⟨e,f⟩
  ·exact(Am i q b w hi hp (by simpa using e) a ht h).mono (E 3 pA d)
  ·exact(Cm i q b w hi hp (by simpa using e) f a ht h).mono (E 3 pA d)
 |false=>
 have v:¬(RA x.l q).toList=[]:=(by rw[<-List.isEmpty_iff,ht];simp);cases hv:P1.dC (RA x.l q).data.toList with
 |true=>
  have d:fE x.l i q b=3:=(by unfold fE qC;rw[if_neg o,if_neg k,if_pos (by rw[hv];simp)]);rcases j with e|⟨e,f⟩
  ·exact(Dm i q b w hi hp (by simpa using e) a ht hv h).mono (E 3 pA d)
  ·exact(Em i q b w hi hp (by simpa using e) f a ht hv h).mono (E 3 pA d)
 |false=>
 have y:qC (RA x.l q)=false:=(by unfold qC;rw[hv];simpa using v);have z:¬qC (RA x.l q)=true:=(by rw[y];simp);by_cases m:b≠0/\(EA x.l b≠q\/b=i)
 ·have d:fE x.l i q b=1:=(by unfold fE;rw[if_neg o,if_neg k,if_neg z,if_pos m]);obtain⟨e,f⟩:=j.resolve_left m.1;by_cases n:b=i
  ·exact(Fm i q b w hi hp (by simpa using e) f a ht hv (by simpa using n) h).mono (E 1 pA d)
  ·exact(Gm i q b w hi hp (by simpa using e) f a ht hv (by simpa using n) (by simpa using m.2.resolve_right n) h).mono (E 1 pA d)
 have r:b=0\/b≠0/\nA x.l b=true/\(b==i)=false/\(EA x.l b != q)=false:=by
  rcases j with e|⟨e,f⟩
  ·exact .inl e
  ·refine .inr ⟨e,f,?_,?_⟩
   ·simp only[not_and,not_or] at m;simpa using (m e).2
   ·simp only[not_and,not_or] at m;simpa using (m e).1
 cases hin:inside x.l q i with
 |true=>
  have d:fE x.l i q b=5:=(by unfold fE;rw[if_neg o,if_neg k,if_neg z,if_neg m,if_pos hin]);rcases r with e|⟨e,f,e2,e3⟩
  ·exact(Wq i q b w hi hp (by simpa using e) a ht hv hwf hin h).mono (E 5 pA d)
  ·exact(Xq i q b w hi hp (by simpa using e) f e2 e3 a ht hv hwf hin h).mono (E 5 pA d)
 |false=>
 have d:fE x.l i q b=0:=(by unfold fE;rw[if_neg o,if_neg k,if_neg z,if_neg m,if_neg (by rw[hin];simp)]);have s:=SM d;have t:YD x.d i q b=(0,{x.d with l:=SA x.l i q b}):=if_pos (show fE x.d.l i q b=0 from d);rw[t];rcases r with e|⟨e,f,e2,e3⟩
 ·exact dr i q b w hi hp (by simpa using e) a ht hv hwf hin s h
 ·exact ir i q b w hi hp (by simpa using e) f e2 e3 a ht hv hwf hin s h
variable{B p:Nat}{x:Dx}
theorem yD{w:World}{o:Obj}{g:Nat}(h:g=w.heap.size):(w.alloc o).heap[g]? = some o:=by subst h;exact heap_alloc_new w o
theorem heap_drew{w:World}{o:Obj}{g:Nat}(h:w.heap[g]? = some o):w.drew.heap[g]? = some o:=h
theorem jr{w w2 w3:World}{g:Nat}{v' vi':Value}{tag txt key:qA}(h:Dc w B p x)
 (hb2:iA (cE x.a x.v) w w2) (hg:w2.heap[g]? = some (.cells #[aA (x.n+1),aA 0,bA tag,bA txt,bA key,tA,tA,aA 0] 53 (0,0))) (hgw:B<=g) (hfr:∀k,fC p x k->k≠g) (hgl:¬cE x.a x.v g)
 (ar:YB w2 B x.a x.R (x.n+1) v' (x.rs.map pB++[⟨x.n+1,g⟩])) (hv:∀k,v'.ownBlock=some k->x.v.ownBlock=some k\/w.heap.size<=k)
 (hb3:iA (fun k=>x.vi.ownBlock=some k) w2 w3) (hids:kI.Own w3 B vi' (MA x.l++[x.n+1])) (hvi:∀k,vi'.ownBlock=some k->x.vi.ownBlock=some k\/w2.heap.size<=k):
 ∃x',Dc (w3.setCell (cA p 1) vi') B p x'/\iA (fC p x) w (w3.setCell (cA p 1) vi')/\(∀k,fC p x' k->fC p x k\/k=g\/w.heap.size<=k)/\x'.d = {x.d with l:=x.d.l++[IB (x.n+1) tag txt key],n:=x.n+1}:=by
 have C:¬cE x.a x.v p:=by
  rintro(e|e)
  ·exact WA h.zA h.ar.zA pA e
  ·obtain⟨d,i⟩:=h.ar.own.ty e;exact WA h.zA i pA rfl
 have o:∀k,x.vi.ownBlock=some k->¬cE x.a x.v k:=fun k b=>by
  obtain⟨d,i⟩:=h.ids.ty b;exact h.ar.other i pA pA
 have j:w2.heap[p]? = _:=(hb2.block p (JA h.zA) C).trans h.zA;have t:x.vi.ownBlock≠some p:=fun e=>by
  obtain⟨d,i⟩:=h.ids.ty e;exact WA i h.zA pA rfl
 have u:w3.heap[p]? = _:=(hb3.block p (JA j) t).trans j;have v:iA (fun k=>cE x.a x.v k\/x.vi.ownBlock=some k) w w3:=(hb2.mono fun _ _ h=> .inl h).trans hb3 fun _ _ h=> .inr h
 have m:iA (fun k=>k=p\/cE x.a x.v k\/x.vi.ownBlock=some k) w (w3.setCell (cA p 1) vi'):=iA.setCell (v.mono fun _ _ h=> .inr h) (fun _=> .inl rfl) _;have I:∀k,(k=p\/cE x.a x.v k\/x.vi.ownBlock=some k)->fC p x k:=by
  rintro k (e|(e|e)|e)
  ·exact .inl e
  ·exact .inr (.inl e)
  ·exact .inr (.inr (.inl e))
  ·exact .inr (.inr (.inr (.inl e)))
 have J:w.heap.size<=w2.heap.size:=hb2.size;have E:g≠p:=WA hg j pA;have y:x.vi.ownBlock≠some g:=fun e=>hfr g (.inr (.inr (.inr (.inl e)))) rfl
 have F:(w3.setCell (cA p 1) vi').heap[g]? = some (.cells #[aA (x.n+1),aA 0,bA tag,bA txt,bA key,tA,tA,aA 0] 53 (0,0)):=(Below.heap_setCell _ _ _ _ E).trans ((hb3.block g (JA hg) y).trans hg);have G:wD (w3.setCell (cA p 1) vi') B ⟨g,⟨none,0,0⟩,⟨none,0,0⟩,IB (x.n+1) tag txt key⟩:=⟨F,hgw,ZB.fK _,Kind.Own.nil _ _ _⟩;have L:∀r∈x.rs,wD (w3.setCell (cA p 1) vi') B r:=by
  intro r a;have q:=h.nodes r a;refine q.VB (m.block _ q.lt ?_) (fun k b=>?_) (q.mC.but m (fun k c f b=>h.QE k c f (I k b)))
  ·rintro(e|e|e)
   ·exact WA q.zA (e▸h.zA) pA rfl
   ·exact h.ar.other q.zA pA pA e
   ·obtain⟨d,i⟩:=h.ids.ty e;exact WA q.zA i pA rfl
  ·obtain⟨c,H⟩:=q.kids.ty b;refine m.block _ (JA H) ?_;rintro(e|e|e)
   ·exact WA H (e▸h.zA) pA rfl
   ·exact h.ar.other H pA pA e
   ·exact h.WH r a k e b
 refine⟨⟨x.a,v',vi',x.R,x.n+1,x.nB,x.rs++[⟨g,⟨none,0,0⟩,⟨none,0,0⟩,IB (x.n+1) tag txt key⟩]⟩,⟨?_,h.base,?_,?_,?_,?_,?_⟩,m.mono fun k _ b=>I k b,?_,?_⟩
 ·exact heap_set u 1 _
 ·show YB _ _ _ _ _ _ ((x.rs++[_]).map pB);rw[List.map_append];have z:iA (fun k=>k=p\/x.vi.ownBlock=some k) w2 (w3.setCell (cA p 1) vi'):=iA.setCell (hb3.mono fun _ _ h=> .inr h) (fun _=> .inl rfl) _;refine ar.but z ?_ (fun k b=>?_)
  ·rintro(e|e)
   ·exact WA h.ar.zA h.zA pA e
   ·exact o _ e (.inl rfl)
  ·obtain⟨d,i⟩:=ar.own.ty b;rintro(rfl|e)
   ·exact WA i j pA rfl
   ·obtain⟨M,A⟩:=h.ids.ty e;exact WA i ((hb2.block k (JA A) (o k e)).trans A) pA rfl
 ·show kI.Own _ B vi' (MA ((x.rs++[_]).map Rw.nd));have e:MA ((x.rs++[(⟨g,⟨none,0,0⟩,⟨none,0,0⟩,IB (x.n+1) tag txt key⟩:Rw)]).map Rw.nd)=MA x.l++[x.n+1]:=(by simp[MA,Dx.l,IB]);rw[e];refine hids.VB fun k b=>Below.heap_setCell _ _ _ _ ?_
  rintro rfl;obtain⟨d,i⟩:=hids.ty b;exact WA i u pA rfl
 ·intro r a;rcases List.mem_append.1 a with a|a
  ·exact L r a
  ·rw[List.mem_singleton] at a;subst a;exact G
 ·intro r a;rcases List.mem_append.1 a with a|a
  ·intro k b e;rcases hvi k b with e2|e2
   ·exact h.WH r a k e2 e
   ·have:=((h.nodes r a).kids.lt e).2;omega
  ·rw[List.mem_singleton] at a;subst a;intro k _ e;cases e
 ·refine List.pairwise_append.2 ⟨h.pw,List.pairwise_singleton _ _,fun r a s K=>?_⟩;rw[List.mem_singleton] at K;subst K;exact⟨fun e=>hfr r.b (.inr (.inr (.inr (.inr ⟨r,a,.inl rfl⟩)))) e,fun k _ e=>by cases e⟩
 ·intro k b;rcases b with e|e|e|e|⟨r,a,e⟩
  ·exact .inl (.inl e)
  ·exact .inl (.inr (.inl e))
  ·rcases hv k e with e2|e2
   ·exact .inl (.inr (.inr (.inl e2)))
   ·exact .inr (.inr e2)
  ·rcases hvi k e with e2|e2
   ·exact .inl (.inr (.inr (.inr (.inl e2))))
   ·exact .inr (.inr dA)
  ·rcases List.mem_append.1 a with a|a
   ·exact .inl (.inr (.inr (.inr (.inr ⟨r,a,e⟩))))
   ·rw[List.mem_singleton] at a;subst a;rcases e with e|e
    ·exact .inr (.inl e)
    ·cases e
 ·show D.mk ((x.rs++[_]).map Rw.nd) _ _ _=D.mk _ _ _ _;rw[List.map_append];rfl
theorem Hm(i:Int)(tag txt key:qA)(w:World)(hn:x.n<=100000)(hl:x.rs.length=x.R)(h:Dc w B p x):jA 46 #[lA p,.agg #[aA i,aA 0,bA tag,bA txt,bA key,tA,tA,aA 0]] w fun e w'=>e= .returned (.iface 29 (aA 6))/\fA w w':=by
 have l:=qF;have H:=Zh h;have d:=Zh hl;have m:=h.c0;have f:=h.lt (.inl rfl:fC p x p);have g:=Zh (h.alloc (.cells #[aA i,aA 0,bA tag,bA txt,bA key,tA,tA,aA 0] 53));clear h hl;go_enter func46,ntmps46;go_wp2_with fail;refine PA (iI _ hn rfl g) ?_;go_wp2_with fail;have a:fA w (w.alloc (.cells #[aA (x.n+1),aA 0,bA tag,bA txt,bA key,tA,tA,aA 0] 53)):=Zb _ _;have b:=Zh a;have j:=Zh (H.below a);clear a;refine(xi w.heap.size _ (by simp[d.out]) j.ar).mono ?_;rintro e n ⟨rfl,c⟩;have k:=Zh (b.trans (c.mono b.size));clear c;go_wp2_with fail;go_ret;exact⟨rfl,k⟩
def od(w:World)(B p:Nat)(x:Dx)(tag txt key:qA)(e:Ending)(w':World):Prop:=Made w B p x .nilIface {x.d with l:=x.d.l++[IB (x.n+1) tag txt key],n:=x.n+1} e w'
theorem Oa(i:Int)(tag txt key:qA)(w:World)(hn:x.n<=100000)(hl:x.rs.length<x.R)(h:Dc w B p x):jA 46 #[lA p,.agg #[aA i,aA 0,bA tag,bA txt,bA key,tA,tA,aA 0]] w (od w B p x tag txt key):=by
 have q1:=AF;have H:=Zh h;have T:=Zh hl;have Z:=h.c0;have a0:=h.lt (.inl rfl:fC p x p);have H1:=Zh (h.alloc (.cells #[aA i,aA 0,bA tag,bA txt,bA key,tA,tA,aA 0] 53));have hR:=h.ar.room;clear h hl;go_enter func46,ntmps46;go_wp2_with fail;refine PA (iI _ hn rfl H1) ?_;go_wp2_with fail;have K:fA w (w.alloc (.cells #[aA (x.n+1),aA 0,bA tag,bA txt,bA key,tA,tA,aA 0] 53)):=Zb _ _;have L:=Zh K;have j:=Zh (H.below K);have G:Hid ((w.alloc (.cells #[aA (x.n+1),aA 0,bA tag,bA txt,bA key,tA,tA,aA 0] 53)).heap[w.heap.size]? = some (.cells #[aA (x.n+1),aA 0,bA tag,bA txt,bA key,tA,tA,aA 0] 53 (0,0))):=Zh (heap_alloc_new w _);clear K;generalize w.alloc (.cells #[aA (x.n+1),aA 0,bA tag,bA txt,bA key,tA,tA,aA 0] 53)=W at L j G|-;refine(Jl w.heap.size W (by simpa using T.out) hn j.ar).mono ?_;rintro e a ⟨rfl,v',U,z,C⟩;have M:w.heap.size<W.heap.size:=JA G;have V:Hid (¬cE x.a x.v w.heap.size):=Zh (j.ar.other G pA pA);have D:¬cE x.a x.v p:=by
  have hb:=j.zA;exact j.ar.other hb pA pA
 have A3:=Zh U;have B3:=Zh z;have V3:=Zh C;have y:a.heap[p]? = _:=(z.block p (JA j.zA) D).trans j.zA;have K3:=Zh y;have I:Hid (a.heap[w.heap.size]? = _):=Zh ((z.block _ M V).trans G);have J:Hid (kI.Own a B x.vi (MA x.l)):=Zh (j.ids.but z (fun g N=>by
  obtain⟨d,hd⟩:=j.ids.ty N;exact j.ar.other hd pA pA))
 have d1:=iB 1 y;have e0:=iB 0 I;have d0:=iB 0 y;have X:p<a.heap.size:=JA y;have a1:B<=a.heap.size:=(IA H.base);obtain⟨r,s,t,f,_⟩:=J.slice;have u:=Zh f;rw[f] at d1;have a2:(MA x.l).length+1<=1000:=(by simp[MA,Dx.l];have:=T.out;omega);have O:Hid (some p≠(Value.slice r s t).ownBlock):=Zh (by rw[<-f];exact AR J y pA);have a4:Hid (some w.heap.size≠(Value.slice r s t).ownBlock):=Zh (by rw[<-f];exact AR J I pA);have J3:Hid (kI.Own a B (.slice r s t) (MA x.l)):=Zh (by rw[<-f];exact J);have Y:w.heap.size<a.heap.size:=JA I;clear U z C y Z D f;go_wp2_with fail
 go_region_law (refine kI.FL rfl (.tmp 25) (.tmp 28) rfl (v:=.slice r s t) (l:=MA x.l) (m:=[x.n+1]) (B:=B) (A:=some ⟨a.heap.size,0,none⟩) (n:=1) (c:=1) (by simp[Act.eval,Act.put]) (by repeat (first|exact J3|refine Kind.Own.alloc ?_ _|refine Kind.Own.drew ?_)) (by simp[Act.eval,Act.put]) rfl KF (Kind.AA.lit (by first|exact heap_drew (yD rfl)|exact yD rfl) rfl) jB jB ?_;intro v4 w4 o b E;obtain⟨A4,n4,c4,rfl,_,_,_,_,_⟩:=o.slice;have P:w4.heap[p]? = some (.cells #[lA x.a,x.vi,aA x.nB] 91 (0,0)):=(b.block p jB O).trans (by exact JB K3);have e1:w4.cell? (cA p 1)=some (.slice r s t):=(cell_of_row w4 p 1 _ _ (0,0) P).trans (by rw[u.out];rfl);have f1:w4.frozen? (cA p 1)=false:=(by simp[World.frozen?,P]);have O4:=Zh o;have G4:=Zh b;have Q:=Zh E;clear o b E P)
 all_goals
  go_wp2_with fail;go_ret;have R:iA (fun k=>x.vi.ownBlock=some k) a w4:=by
   rw[u.out];refine iA.trans (S:=fun k=>(Value.slice r s t).ownBlock=some k) ?_ (iA.WG (S:=fun k=>(Value.slice r s t).ownBlock=some k) G4 (fun g N _=>N)) (fun _ _ h=>h)
   repeat (first|exact iA.refl _ _|refine iA.drew ?_|refine iA.alloc ?_ _)
  have F:∀k,(Value.slice A4 n4 c4).ownBlock=some k->x.vi.ownBlock=some k\/a.heap.size<=k:=by
   intro k q;rcases Q with e|e
   ·rw[e,<-u.out] at q;exact .inl q
   ·rw[e] at q;simp at q;exact .inr dA
  obtain⟨x',h1,h2,h3,h4⟩:=jr j B3 I (IA H.base) (fun k q=>by have:=H.lt q;omega) V A3 V3 R O4 F;refine⟨rfl,x',⟨h1,(iA.oB L _).trans h2 (fun _ _ h=>h),fun k q=>?_⟩,h4⟩;have:=L.size;rcases h3 k q with e|e|e
  ·exact .inl e
  ·exact .inr dA
  ·exact .inr dA
variable{B p:Nat}{x:Dx}
theorem YM(s:qA):s.toList.isEmpty=true↔s.toList=[]:=List.isEmpty_iff
theorem Ff(tag txt key:qA)(w:World)(h1:tag.size<=maxLen)(h2:txt.size<=maxLen)(h3:key.size<=maxLen):
 jA 213 #[bA tag,bA txt,bA key] w fun e w'=>e= .returned (.bool (xC tag txt key))/\w=w':=by
 cases ht:tag.toList.isEmpty with
 |true=>
  have a:=(YM tag).1 ht;cases hx:P1.yC txt.data.toList with
  |false=>
   have b:Hid (xC tag txt key=false):=Zh (by unfold xC;rw[if_pos a,hx];rfl);have c:=Zh hx;clear hx a;go_enter func213,ntmps213;go_wp2_with fail;refine PA (P3.GH txt w c h2) ?_;go_wp2_with fail;go_ret;exact⟨WC b.symm,rfl⟩
  |true=>
   cases hk:key.toList.isEmpty with
   |false=>
    have b:Hid (xC tag txt key=false):=Zh (by unfold xC;rw[if_pos a,hx];simpa using (fun e=>by rw[<-YM,hk] at e;cases e));have c:=Zh hx;clear hx a;go_enter func213,ntmps213;go_wp2_with fail;refine PA (P3.GH txt w c h2) ?_;go_wp2_with fail;go_ret;exact⟨WC b.symm,rfl⟩
   |true=>
    have b:Hid (xC tag txt key=true):=Zh (by unfold xC;rw[if_pos a,hx];simpa using (YM key).1 hk);have c:=Zh hx;clear hx a;go_enter func213,ntmps213;go_wp2_with fail;refine PA (P3.GH txt w c h2) ?_;go_wp2_with fail;go_ret;exact⟨WC b.symm,rfl⟩
 |false=>
  have a:¬tag.toList=[]:=(by rw[<-YM,ht];simp);cases hn:P1.JC tag.data.toList with
  |false=>
   have b:Hid (xC tag txt key=false):=Zh (by unfold xC;rw[if_neg a,hn];rfl);have c:=Zh hn;clear hn a;go_enter func213,ntmps213;go_wp2_with fail;refine PA (P3.TJ tag w c h1) ?_;go_wp2_with fail;go_ret;exact⟨WC b.symm,rfl⟩
  |true=>
   cases hk:P1.yC key.data.toList with
   |false=>
    have b:Hid (xC tag txt key=false):=Zh (by unfold xC;rw[if_neg a,hn,hk];rfl);have c:=Zh hn;have d:=Zh hk;clear hn a hk;go_enter func213,ntmps213;go_wp2_with fail;refine PA (P3.TJ tag w c h1) ?_;go_wp2_with fail;refine PA (P3.GH key w d h3) ?_;go_wp2_with fail;go_ret;exact⟨WC b.symm,rfl⟩
   |true=>
    cases hx:txt.toList.isEmpty with
    |false=>
     have b:Hid (xC tag txt key=false):=Zh (by unfold xC;rw[if_neg a,hn,hk];simpa using (fun e=>by rw[<-YM,hx] at e;cases e));have c:=Zh hn;have d:=Zh hk;clear hn a hk;go_enter func213,ntmps213;go_wp2_with fail;refine PA (P3.TJ tag w c h1) ?_;go_wp2_with fail;refine PA (P3.GH key w d h3) ?_;go_wp2_with fail;go_ret;exact⟨WC b.symm,rfl⟩
    |true=>
     have b:Hid (xC tag txt key=true):=Zh (by unfold xC;rw[if_neg a,hn,hk];simpa using (YM txt).1 hx);have c:=Zh hn;have d:=Zh hk;clear hn a hk;go_enter func213,ntmps213;go_wp2_with fail;refine PA (P3.TJ tag w c h1) ?_;go_wp2_with fail;refine PA (P3.GH key w d h3) ?_;go_wp2_with fail;go_ret;exact⟨WC b.symm,rfl⟩
theorem KT(tag txt key:qA){r:Bool}(w:World)(hr:xC tag txt key=r)(h1:tag.size<=maxLen)(h2:txt.size<=maxLen)(h3:key.size<=maxLen):
 jA 213 #[bA tag,bA txt,bA key] w fun e w'=>e= .returned (.bool r)/\w=w':=by
 subst hr;exact Ff tag txt key w h1 h2 h3
theorem gj(op i pa be:Int)(tag txt key:qA)(A:vA)(n c:Nat)(w:World)(hn:x.n<=100000)(hi:(i != x.n+1)=true)(h:Dc w B p x):jA 189 #[lA p,.agg #[aA op,aA i,aA pa,aA be,bA tag,bA txt,bA key,.slice A n c]] w fun e w'=>e= .returned (.iface 29 (aA 1))/\fA w w':=by
 have H:=Zh h;have a:=Zh (h.alloc (.cells #[aA op,aA i,aA pa,aA be,bA tag,bA txt,bA key,.slice A n c] 87));have b:Hid (∀k,jA 16 #[lA p] ((w.alloc (.cells #[aA op,aA i,aA pa,aA be,bA tag,bA txt,bA key,.slice A n c] 87)).drewN k) fun e w'=>e= .returned (aA (x.n+1))/\∃m,w'=(w.alloc (.cells #[aA op,aA i,aA pa,aA be,bA tag,bA txt,bA key,.slice A n c] 87)).drewN m):=
  Zh (fun k=>(iI _ hn rfl (a.drewN k)).mono fun _ _ ⟨he,hw⟩=>⟨he,k,hw.symm⟩)
 clear h;go_enter func189,ntmps189;go_wp2_with fail;go_quiet ((go_at_call 16;exact b _));go_wp2_with fail;go_ret;exact⟨rfl,OC (Zb _ _) _⟩
theorem Vg(op i pa be:Int)(tag txt key:qA)(A:vA)(n c:Nat)(w:World)(hn:x.n<=100000)(h1:tag.size<=maxLen)(h2:txt.size<=maxLen)(h3:key.size<=maxLen)(hi:(i != x.n+1)=false)(hm:xC tag txt key=false)(h:Dc w B p x):jA 189 #[lA p,.agg #[aA op,aA i,aA pa,aA be,bA tag,bA txt,bA key,.slice A n c]] w fun e w'=>e= .returned (.iface 29 (aA 1))/\fA w w':=by
 have H:=Zh h;have a:=Zh (h.alloc (.cells #[aA op,aA i,aA pa,aA be,bA tag,bA txt,bA key,.slice A n c] 87));have b:Hid (∀k,jA 16 #[lA p] ((w.alloc (.cells #[aA op,aA i,aA pa,aA be,bA tag,bA txt,bA key,.slice A n c] 87)).drewN k) fun e w'=>e= .returned (aA (x.n+1))/\∃m,w'=(w.alloc (.cells #[aA op,aA i,aA pa,aA be,bA tag,bA txt,bA key,.slice A n c] 87)).drewN m):=
  Zh (fun k=>(iI _ hn rfl (a.drewN k)).mono fun _ _ ⟨he,hw⟩=>⟨he,k,hw.symm⟩)
 have d:Hid (∀k,jA 213 #[bA tag,bA txt,bA key] ((w.alloc (.cells #[aA op,aA i,aA pa,aA be,bA tag,bA txt,bA key,.slice A n c] 87)).drewN k) fun e w'=>e= .returned (.bool false)/\∃m,w'=(w.alloc (.cells #[aA op,aA i,aA pa,aA be,bA tag,bA txt,bA key,.slice A n c] 87)).drewN m):=
  Zh (fun k=>(KT tag txt key _ hm h1 h2 h3).mono fun _ _ ⟨he,hw⟩=>⟨he,k,hw.symm⟩)
 clear h hm;go_enter func189,ntmps189;go_wp2_with fail;go_quiet ((first|(go_at_call 16;exact b _)|(go_at_call 213;exact d _)));go_wp2_with fail;go_ret;exact⟨rfl,OC (Zb _ _) _⟩
theorem Gf(op i pa be:Int)(tag txt key:qA)(A:vA)(n c:Nat)(w:World)(hn:x.n<=100000)(h1:tag.size<=maxLen)(h2:txt.size<=maxLen)(h3:key.size<=maxLen)(hi:(i != x.n+1)=false)(hm:xC tag txt key=true)(hl:x.rs.length=x.R)(h:Dc w B p x):jA 189 #[lA p,.agg #[aA op,aA i,aA pa,aA be,bA tag,bA txt,bA key,.slice A n c]] w fun e w'=>e= .returned (.iface 29 (aA 6))/\fA w w':=by
 have H:=Zh h;have a:=Zh (h.alloc (.cells #[aA op,aA i,aA pa,aA be,bA tag,bA txt,bA key,.slice A n c] 87));have d:Hid (∀k,jA 16 #[lA p] ((w.alloc (.cells #[aA op,aA i,aA pa,aA be,bA tag,bA txt,bA key,.slice A n c] 87)).drewN k) fun e w'=>e= .returned (aA (x.n+1))/\∃m,w'=(w.alloc (.cells #[aA op,aA i,aA pa,aA be,bA tag,bA txt,bA key,.slice A n c] 87)).drewN m):=
  Zh (fun k=>(iI _ hn rfl (a.drewN k)).mono fun _ _ ⟨he,hw⟩=>⟨he,k,hw.symm⟩)
 have f:Hid (∀k,jA 213 #[bA tag,bA txt,bA key] ((w.alloc (.cells #[aA op,aA i,aA pa,aA be,bA tag,bA txt,bA key,.slice A n c] 87)).drewN k) fun e w'=>e= .returned (.bool true)/\∃m,w'=(w.alloc (.cells #[aA op,aA i,aA pa,aA be,bA tag,bA txt,bA key,.slice A n c] 87)).drewN m):=
  Zh (fun k=>(KT tag txt key _ hm h1 h2 h3).mono fun _ _ ⟨he,hw⟩=>⟨he,k,hw.symm⟩)
 have g:=Zh hl;clear h hm hl;go_enter func189,ntmps189;go_wp2_with fail;go_quiet ((first|(go_at_call 16;exact d _)|(go_at_call 213;exact f _)));go_wp2_with fail;refine(Hm 0 tag txt key _ hn g (a.drewN _)).mono ?_;rintro e l ⟨rfl,b⟩;have j:=Zh ((OC ((Below.refl _ w).alloc Zl _) _).trans (b.mono (by show w.heap.size<=(w.alloc _).heap.size;simp)));clear b;go_wp2_with fail;go_ret;exact⟨rfl,j⟩
theorem Wg(op i pa be:Int)(tag txt key:qA)(A:vA)(n c:Nat)(w:World)(hn:x.n<=100000)(h1:tag.size<=maxLen)(h2:txt.size<=maxLen)(h3:key.size<=maxLen)(hi:(i != x.n+1)=false)(hm:xC tag txt key=true)(hl:x.rs.length<x.R)(h:Dc w B p x):jA 189 #[lA p,.agg #[aA op,aA i,aA pa,aA be,bA tag,bA txt,bA key,.slice A n c]] w (od w B p x tag txt key):=by
 have H:=Zh h;have d:=Zh (h.alloc (.cells #[aA op,aA i,aA pa,aA be,bA tag,bA txt,bA key,.slice A n c] 87));have g:Hid (∀k,jA 16 #[lA p] ((w.alloc (.cells #[aA op,aA i,aA pa,aA be,bA tag,bA txt,bA key,.slice A n c] 87)).drewN k) fun e w'=>e= .returned (aA (x.n+1))/\∃m,w'=(w.alloc (.cells #[aA op,aA i,aA pa,aA be,bA tag,bA txt,bA key,.slice A n c] 87)).drewN m):=
  Zh (fun k=>(iI _ hn rfl (d.drewN k)).mono fun _ _ ⟨he,hw⟩=>⟨he,k,hw.symm⟩)
 have j:Hid (∀k,jA 213 #[bA tag,bA txt,bA key] ((w.alloc (.cells #[aA op,aA i,aA pa,aA be,bA tag,bA txt,bA key,.slice A n c] 87)).drewN k) fun e w'=>e= .returned (.bool true)/\∃m,w'=(w.alloc (.cells #[aA op,aA i,aA pa,aA be,bA tag,bA txt,bA key,.slice A n c] 87)).drewN m):=
  Zh (fun k=>(KT tag txt key _ hm h1 h2 h3).mono fun _ _ ⟨he,hw⟩=>⟨he,k,hw.symm⟩)
 have l:=Zh hl;clear h hm hl;go_enter func189,ntmps189;go_wp2_with fail;go_quiet ((first|(go_at_call 16;exact g _)|(go_at_call 213;exact j _)));go_wp2_with fail;refine(Oa 0 tag txt key _ hn l (d.drewN _)).mono ?_;rintro e r ⟨rfl,o,f,a⟩;have q:=Zh f;have b:=Zh a;clear f a;go_wp2_with fail;go_ret;exact⟨rfl,o,(aC.SF H (OC ((Below.refl _ w).alloc Zl _) _)).trans q,b⟩
theorem Xg(r:Rc)(A:vA)(n c:Nat)(w:World)(hn:x.n<=100000)(h1:r.tag.size<=maxLen)(h2:r.txt.size<=maxLen)(h3:r.key.size<=maxLen)(hR:x.rs.length<=x.R)(h:Dc w B p x):
 jA 189 #[lA p,.agg (lF r A n c)] w (Made w B p x (QA (rE x.d r).1) (rE x.d r).2):=by
 have b:x.d.l.length=x.rs.length:=dG x;by_cases f:r.id=x.n+1
 ·have a:(r.id != x.n+1)=false:=(by simpa using f);cases hm:xC r.tag r.txt r.key with
  |false=>
   have d:rE x.d r=(1,x.d):=(by unfold rE;exact if_pos (.inr hm));rw[d];refine(Vg r.op r.id r.par r.ZA r.tag r.txt r.key A n c w hn h1 h2 h3 a hm h).mono ?_;rintro e w' ⟨rfl,g⟩;exact Made.same h g rfl rfl
  |true=>
   have i:¬(r.id≠x.d.n+1\/xC r.tag r.txt r.key=false):=by
    rintro(e|e)
    ·exact e f
    ·rw[hm] at e;cases e
   by_cases j:x.R<=x.rs.length
   ·have d:rE x.d r=(6,x.d):=(by unfold rE;rw[if_neg i];exact if_pos (by rw[b];exact j));rw[d];refine(Gf r.op r.id r.par r.ZA r.tag r.txt r.key A n c w hn h1 h2 h3 a hm dA h).mono ?_;rintro e w' ⟨rfl,g⟩;exact Made.same h g rfl rfl
   ·have d:rE x.d r=(0,{x.d with l:=x.d.l++[IB (x.n+1) r.tag r.txt r.key],n:=x.n+1}):=by
     unfold rE;rw[if_neg i,if_neg (by rw[b];exact j),f];rfl
    rw[d];exact Wg r.op r.id r.par r.ZA r.tag r.txt r.key A n c w hn h1 h2 h3 a hm dA h
 ·have a:(r.id != x.n+1)=true:=(by simpa using f);have d:rE x.d r=(1,x.d):=(by unfold rE;exact if_pos (.inl f));rw[d];refine(gj r.op r.id r.par r.ZA r.tag r.txt r.key A n c w hn a h).mono ?_;rintro e w' ⟨rfl,g⟩;exact Made.same h g rfl rfl
def zu(w:World)(R:Nat)(e:Ending)(w':World):Prop:=
 ∃(p:Nat) (x:Dx),e= .returned (.tuple #[lA p,.nilIface])/\Dc w' w.heap.size p x/\x.d=ZE R/\fA w w'
theorem kj(r:Int)(w:World)(h:r<1\/200<r):jA 22 #[aA r] w fun e w'=>e= .returned (.tuple #[.pointer none,.iface 29 (aA 1)])/\w=w':=by
 have a:=qF;go_enter func22,ntmps22;go_wp2_with fail;refine PA (lq r w h) ?_;go_wp2_with fail;go_ret2;exact⟨rfl,rfl⟩
theorem Yg(R:Nat)(w:World)(h1:1<=R)(h2:R<=200):jA 22 #[aA R] w (zu w R):=by
 have q:=AF;go_enter func22,ntmps22;go_wp2_with fail;refine(Il (R:Int) w dA dA).mono ?_;rintro e c ⟨a,rfl,d,i⟩;rw[Int.toNat_natCast] at d;have n:=Zh d;have f:=Zh i;clear d i;go_wp2_with fail;have j:Dc (c.alloc (.cells #[lA a,tA,aA 0] 91)) w.heap.size c.heap.size ⟨a,tA,tA,R,0,0,[]⟩:=
  ⟨heap_alloc_new c _,f.size,n.below (Zb _ _) Zl,Kind.Own.nil _ _ _,fun _ h=>absurd h FA,fun _ h=>absurd h FA,List.Pairwise.nil⟩
 have k:=Zh j;have o:=Zh (f.alloc f.size (.cells #[lA a,tA,aA 0] 91));clear j;refine(Oa (x:=⟨a,tA,tA,R,0,0,[]⟩) 0 ⟨#[114,111,111,116]⟩ ⟨#[]⟩ ⟨#[]⟩ _ (by show(0:Int)<=100000;omega) (by show 0<R;omega) k).mono ?_;rintro e r ⟨rfl,p,l,b⟩;have m:=Zh l;have g:=Zh b;clear l b;go_wp2_with fail;go_ret2;exact⟨_,p,rfl,m.dc,g,o.trans (m.eD k)⟩
variable{B p:Nat}{x:Dx}
def tD(s:List Int)(rs:List Rw):List Rw:=rs.filter fun r=>!decide (r.nd.id∈s)
theorem Sa(s:List Int)(rs:List Rw):(tD s rs).map (·.nd)=VI s (rs.map (·.nd)):=by
 unfold tD VI;rw[List.filter_map];rfl
theorem lj(s t:List Int)(rs:List Rw):tD t (tD s rs)=tD (s++t) rs:=by
 unfold tD;rw[List.filter_filter];apply List.filter_congr;intro r _;by_cases a:r.nd.id∈s<;>by_cases b:r.nd.id∈t<;>simp[a,b]
theorem Lm(rs:List Rw):tD [] rs=rs:=by
 unfold tD;rw[List.filter_eq_self];intro r _;simp
theorem Zg{s t:List Int}(h:∀c,c∈s↔c∈t)(rs:List Rw):tD s rs=tD t rs:=by
 unfold tD;apply List.filter_congr;intro r _;simp[h]
theorem U5{s:List Int}{rs:List Rw}{r:Rw}:r∈tD s rs↔r∈rs/\r.nd.id∉s:=by unfold tD;simp
def fo(f:Int)(s:List Int):Int:=if f∈s then 0 else f
theorem Vv(f:Int){s t:List Int}(h:(0:Int)∉t):fo (fo f s) t=fo f (s++t):=by
 unfold fo;by_cases a:f∈s
 ·rw[if_pos a,if_neg h,if_pos (by simp[a])]
 ·rw[if_neg a];by_cases b:f∈t
  ·rw[if_pos b,if_pos (by simp[b])]
  ·rw[if_neg b,if_neg (by simp[a,b])]
theorem Au(f:Int):fo f []=f:=by simp[fo]
theorem Mm{s t:List Int}(h:∀c,c∈s↔c∈t)(f:Int):fo f s=fo f t:=by
 unfold fo;by_cases a:f∈s
 ·rw[if_pos a,if_pos ((h f).1 a)]
 ·rw[if_neg a,if_neg (fun e=>a ((h f).2 e))]
theorem mj(s:List Int)(l:List Nd)(y:Int)(h:y∉s):nA (VI s l) y=nA l y/\xA (VI s l) y=xA l y:=by
 unfold nA xA;rw[BI,if_neg h];exact⟨rfl,rfl⟩
theorem mZ{α β:Type}(f:α->β):∀(l:List α) (k:Nat),(l.map f).eraseIdx k=(l.eraseIdx k).map f
 |[],_=>rfl
 |_:: _,0=>rfl
 |a:: l,k+1=>by show f a:: (l.map f).eraseIdx k=f a:: (l.eraseIdx k).map f;rw[mZ f l k]
theorem nZ:∀{rs:List Rw} {k:Nat} (hk:k<rs.length),(rs.map (·.nd)).Pairwise (fun a b=>a.id<b.id)->rs.eraseIdx k=tD [rs[k].nd.id] rs
 |[],_,hk,_=>absurd hk FA
 |r:: rs,0,_,h=>by
  obtain⟨h1,_⟩:=List.pairwise_cons.1 h;show rs=tD [r.nd.id] (r:: rs);unfold tD;rw[List.filter_cons];simp only[List.mem_singleton,decide_true,Bool.not_true,Bool.false_eq_true,if_false];exact(List.filter_eq_self.2 (fun s hs=>by
   have:r.nd.id<s.nd.id:=h1 s.nd (List.mem_map.2 ⟨s,hs,rfl⟩);have hne:¬s.nd.id=r.nd.id:=dA;simp[hne])).symm
 |r:: rs,k+1,hk,h=>by
  obtain⟨h1,h2⟩:=List.pairwise_cons.1 h;have hk':k<rs.length:=(by simpa using hk);have ih:=nZ hk' h2;have hne:¬r.nd.id=rs[k].nd.id:=by
   have:r.nd.id<rs[k].nd.id:=h1 rs[k].nd (List.mem_map.2 ⟨rs[k],List.getElem_mem hk',rfl⟩);omega
  show r:: rs.eraseIdx k=tD [rs[k].nd.id] (r:: rs);rw[ih];unfold tD;rw[List.filter_cons];simp[hne]
theorem Om(i:Int)(rs:List Rw):less i (MA (rs.map (·.nd)))=MA ((tD [i] rs).map (·.nd)):=by
 unfold less MA tD;simp only[List.map_map,List.filter_map];congr 1;apply List.filter_congr;intro r _;simp[Function.comp]
theorem Pm{w w2 w3:World}{y:Dx}{i:Int}(h:Dc w B p y)(hi:nA y.l i=true){v':Value}{A3:vA}{n3 c3:Nat}
 (hb2:iA (cE y.a y.v) w w2) (ar:YB w2 B y.a y.R y.n v' ((y.rs.map pB).eraseIdx (JF (y.rs.map pB) i))) (hv:v'.ownBlock=y.v.ownBlock)
 (hb3:iA (fun k=>y.vi.ownBlock=some k) w2 w3) (hids:kI.Own w3 B (.slice A3 n3 c3) (less i (MA y.l))) (hvi:(Value.slice A3 n3 c3).ownBlock=y.vi.ownBlock):
 aC w B p y ⟨y.a,v',.slice A3 n3 c3,y.R,y.n,y.nB,tD [i] y.rs⟩ (w3.setCell (cA p 1) (.slice A3 n3 c3)):=by
 obtain⟨k,s,v,_⟩:=h.place hi;have j:JF (y.rs.map pB) i=k:=by
  have:=qR h.ar.xD (k:=k) (by simpa using s);simpa[pB,v] using this
 have t:¬cE y.a y.v p:=h.ar.other h.zA pA pA;have a:∀k,y.vi.ownBlock=some k->¬cE y.a y.v k:=fun k s=>by
  obtain⟨d,f⟩:=h.ids.ty s;exact h.ar.other f pA pA
 have b:w2.heap[p]? = _:=(hb2.block p (JA h.zA) t).trans h.zA;have l:y.vi.ownBlock≠some p:=fun e=>AR h.ids h.zA pA e.symm
 have m:w3.heap[p]? = _:=(hb3.block p (JA b) l).trans b;have n:iA (fun k=>cE y.a y.v k\/y.vi.ownBlock=some k) w w3:=(hb2.mono fun _ _ h=> .inl h).trans hb3 fun _ _ h=> .inr h
 have u:iA (fun k=>k=p\/cE y.a y.v k\/y.vi.ownBlock=some k) w (w3.setCell (cA p 1) (.slice A3 n3 c3)):=iA.setCell (n.mono fun _ _ h=> .inr h) (fun _=> .inl rfl) _;have x:y.rs.eraseIdx k=tD [i] y.rs:=by
  have:=nZ s h.xD;rw[v] at this;exact this
 refine h.re u (heap_set m 1 _) ?_ ?_ (fun g c=> .inl (by rw[<-hv];exact c)) (fun g c=> .inl (by rw[<-hvi];exact c)) (fun r z=> .inl (U5.1 z).1) (h.pw.sublist List.filter_sublist)
 ·rw[j,mZ,x] at ar;have o:iA (fun k=>k=p\/y.vi.ownBlock=some k) w2 (w3.setCell (cA p 1) (.slice A3 n3 c3)):=iA.setCell (hb3.mono fun _ _ h=> .inr h) (fun _=> .inl rfl) _;refine ar.but o ?_ (fun g c=>?_)
  ·rintro(e|e)
   ·exact WA h.ar.zA h.zA pA e
   ·exact a _ e (.inl rfl)
  ·obtain⟨d,f⟩:=ar.own.ty c;rintro(rfl|e)
   ·exact WA f b pA rfl
   ·obtain⟨A,q⟩:=h.ids.ty e;exact WA f ((hb2.block g (JA q) (a g e)).trans q) pA rfl
 ·rw[<-Om];refine hids.VB fun g c=>Below.heap_setCell _ _ _ _ ?_
  rintro rfl;obtain⟨d,f⟩:=hids.ty c;exact WA f m pA rfl
structure aK(l:List Nd)(K:Int->List Int)(f:Nat)(i:Int):Prop where
 hb:Hb K f i
 nd:(sub K f i).Nodup
 at_:∀c∈sub K f i,nA l c=true/\xA l c=K c
def upto(K:Int->List Int)(f:Nat)(i:Int)(j:Nat):List Int:=((K i).take j).flatMap (sub K f)
theorem kU{K:Int->List Int}{f:Nat}{i:Int}{j:Nat}(hj:j<(K i).length):upto K f i (j+1)=upto K f i j++sub K f (K i)[j]:=by
 unfold upto;rw[List.take_succ_eq_append_getElem hj,List.flatMap_append];simp
theorem Y5(K:Int->List Int)(f:Nat)(i:Int):upto K f i (K i).length=(K i).flatMap (sub K f):=by unfold upto;rw[List.take_length]
theorem aK.aB{l:List Nd}{K:Int->List Int}{f:Nat}{i:Int}(h:aK l K (f+1) i){j:Nat}(hj:j<(K i).length):aK (VI (upto K f i j) l) K f (K i)[j]/\(∀c∈sub K f (K i)[j],c∉upto K f i j):=by
 have d:=h.nd;rw[sub,List.nodup_cons] at d;have a:(K i).flatMap (sub K f)=upto K f i j++(sub K f (K i)[j]++((K i).drop (j+1)).flatMap (sub K f)):=by
  unfold upto;have e:K i=(K i).take j++((K i)[j]:: (K i).drop (j+1)):=(by rw[<-List.drop_eq_getElem_cons hj,List.take_append_drop]);have:=congrArg (List.flatMap (sub K f)) e;rw[List.flatMap_append,List.flatMap_cons] at this;exact this
 rw[a,List.nodup_append,List.nodup_append] at d;have b:∀c∈sub K f (K i)[j],c∉upto K f i j:=fun c g m=>d.2.2.2 c m c (by simp[g]) rfl
 refine⟨⟨h.hb _ (List.getElem_mem hj),d.2.2.1.1,fun c g=>?_⟩,b⟩;have k:c∈sub K (f+1) i:=by
  rw[sub,List.mem_cons,List.mem_flatMap];exact .inr ⟨_,List.getElem_mem hj,g⟩
 obtain⟨n,o⟩:=mj (upto K f i j) l c (b c g);rw[n,o];exact h.at_ c k
theorem aK.Qm{l:List Nd}{K:Int->List Int}{f:Nat}{i:Int}(h:aK l K (f+1) i)(j:Nat):i∉upto K f i j:=by
 intro a;have b:=h.nd;rw[sub,List.nodup_cons] at b;unfold upto at a;obtain⟨c,d,a⟩:=List.mem_flatMap.1 a;exact b.1 (List.mem_flatMap.2 ⟨c,List.mem_of_mem_take d,a⟩)
def Ta(w:World)(B p:Nat)(x:Dx)(s:List Int)(e:Ending)(w':World):Prop:=
 e= .returned (.tuple #[])/\∃v vi,aC w B p x ⟨x.a,v,vi,x.R,x.n,fo x.nB s,tD s x.rs⟩ w'
def TI(w:World)(B p:Nat)(x:Dx)(s:List Int)(w':World):Prop:=∃v vi,aC w B p x ⟨x.a,v,vi,x.R,x.n,fo x.nB s,tD s x.rs⟩ w'
theorem TI.zero{w w':World}(h:Dc w B p x)(hb:fA w w'):TI w B p x [] w':=⟨x.v,x.vi,by
 rw[Au,Lm];exact aC.SF h hb⟩
theorem TI.next{w w' w2:World}{s t:List Int}{v vi:Value}(h:aC w B p x ⟨x.a,v,vi,x.R,x.n,fo x.nB s,tD s x.rs⟩ w')(ht:(0:Int)∉t)
 (k:TI w' B p ⟨x.a,v,vi,x.R,x.n,fo x.nB s,tD s x.rs⟩ t w2):TI w B p x (s++t) w2:=by
 obtain⟨b,a,c⟩:=k;refine⟨b,a,?_⟩;have:=h.trans c;simp only[Vv _ ht,lj] at this;exact this
theorem Rm(K:Int->List Int)(hz:∀f c,(0:Int)∉sub K f c\/c=0)(hk0:∀x,(0:Int)∉K x)(hkl:∀x,(K x).length<=1000):∀(f:Nat) (i:Int) {B p:Nat} {x:Dx} (w:World) (_:i≠0) (_:x.rs.length<=1000) (_:aK x.l K f i) (_:Dc w B p x),jA 217 #[lA p,aA i] w (Ta w B p x (sub K f i)):=by
 intro f
 induction f with
 |zero=>intro i B p x w _ _ O _;exact O.hb.elim
 |succ f ih=>
  intro i B p x w a8 hl O h;have IH:=Zh ih;have HS:=Zh O;have H:=Zh h;have HZ:=Zh hz;have a9:=Zh hk0;obtain⟨hh,P⟩:=O.at_ i (by simp[sub]);obtain⟨k,Q,hy,_⟩:=h.place hh;have u:=(sF h Q hy).2.2;rw[P] at u;obtain⟨b,hb⟩:=DA (x.rs[k].b);obtain⟨⟨A,n,c⟩,hv⟩:∃v,x.rs[k].vk=v:=⟨_,rfl⟩;have V:Hid (x.rs[k].vk.val= .slice A n c):=Zh (by rw[hv];rfl);have HY:=Zh hy;have HB:=Zh hb;have aa:Hid (K i=x.rs[k].nd.kids):=Zh u;obtain⟨g1,g2,g3,g4,g5⟩:=UE ((h.nd Q).kids) V.out;have HN:Hid ((K i).length=n):=Zh (by rw[u];exact g1);have a7:n<=1000:=(by rw[<-HN.out];exact hkl i);clear h O hz hk0 ih hh P hy u hb hv g1 g2 g3 g4 g5;go_enter func217,ntmps217;go_wp2_with fail;refine(lG i w Q HY.out HB.out H.out).mono ?_;rintro e w1 ⟨rfl,b1⟩;have B1:=Zh b1;have d6:w1.cell? (cA b 6)=some (.slice A n c):=(by have:=((H.out.below b1).nd Q).c6;rwa[HB.out,V.out] at this);clear b1;go_wp2_with fail;go_loopw [13] (fun G wr=>∃j:Nat,j<=n/\G = aA j/\Hid (TI w B p x (upto K f i j) wr)) (fun G _=>n-(intOf G).toNat)
  case atStart=>exact⟨0,by omega,rfl,Zh (by show TI w B p x (upto K f i 0) w1;exact TI.zero H.out B1.out)⟩
  case round=>
   obtain⟨j,hj,rfl,HF⟩:=hrel;obtain⟨v,vi,I⟩:=HF.out;have J:=Zh I;have m:x.rs[k]∈tD (upto K f i j) x.rs:=U5.2 ⟨List.getElem_mem Q,by rw[HY.out];exact HS.out.Qm j⟩;clear I;by_cases am:j<n
   ·have y:j<(K i).length:=(by have:=HN.out;omega);obtain⟨R,ab⟩:=HS.out.aB y;have ac:=Zh R;have r:=(J.out.dc.nodes _ m).kids;rw[V.out,<-aa.out] at r;obtain⟨b',o,rfl,ad,hc⟩:=yE (UE r rfl).2.2.2.2 y;have s:(tD (upto K f i j) x.rs).length<=1000:=by
     have:(tD (upto K f i j) x.rs).length<=x.rs.length:=List.length_filter_le _ _;omega
    have S:(K i)[j]≠0:=fun e=>a9.out i (e▸List.getElem_mem y)
    have T:=Zh S;clear R ab r m ad S;go_wp2_with fail;refine(IH.out (K i)[j] (x:=⟨x.a,v,vi,x.R,x.n,fo x.nB (upto K f i j),tD (upto K f i j) x.rs⟩) wr T.out s (by show aK ((tD (upto K f i j) x.rs).map (·.nd)) K f _;rw[Sa];exact ac.out) J.out.dc).mono ?_;rintro e M ⟨rfl,v2,ae,U⟩;have NX:Hid (TI w B p x (upto K f i (j+1)) M):=Zh (by
     rw[kU y];exact TI.next J.out ((HZ.out f _).resolve_right T.out) ⟨v2,ae,U⟩)
    clear U;go_wp2_with fail;go_roundw
    case rel=>exact⟨j+1,by omega,by go_num,NX⟩
    case measure=>simp[intOf];omega
   ·obtain rfl:j=n:=by omega
    have C:upto K f i j=(K i).flatMap (sub K f):=(by rw[<-HN.out];exact Y5 K f i);have W:=Zh C;have D:nA ((tD (upto K f i j) x.rs).map (·.nd)) i=true:=wN.2 ⟨x.rs[k].nd,List.mem_map.2 ⟨_,m,rfl⟩,HY.out⟩;have HH:=Zh D;have s:(tD (upto K f i j) x.rs).length<=1000:=by
     have:(tD (upto K f i j) x.rs).length<=x.rs.length:=List.length_filter_le _ _;omega
    have a:=Zh J.out.dc;generalize X:tD (upto K f i j) x.rs=l at J a HH s;generalize Y:fo x.nB (upto K f i j)=z at J a;have af:=Zh X;have ag:=Zh Y;have d0:=a.out.c0;have d1:=a.out.c1;have U:=a.out.c2;simp only at d0 d1 U;have Z:=a.out.lt (.inl rfl:fC p _ p);clear D C m HF X Y;go_wp2_with fail;refine(yi i wr (by rw[a.out.lN];exact HH.out) a.out.ar).mono ?_;rintro e M ⟨rfl,v',a2,b2,a0⟩;have A2:=Zh a2;have B2:=Zh b2;have V2:=Zh a0;have a1:¬cE x.a v p:=a.out.ar.other a.out.zA (by decide) (by decide);have k2:=(b2.block p Z a1).trans a.out.zA;have K2:=Zh k2;have e1:M.cell? (cA p 1)=some vi:=cell_of_row M p 1 _ _ (0,0) k2;have I2:Hid (kI.Own M B vi (MA (l.map (·.nd)))):=Zh (a.out.ids.but b2 (fun g hg=>by
     obtain⟨d,I⟩:=a.out.ids.ty hg;exact a.out.ar.other I (by decide) (by decide)))
    have a3:i∈MA (l.map (·.nd)):=zE.1 HH.out;have a4:(MA (l.map (·.nd))).Nodup:=by
     have:=a.out.xD;unfold ZD Dx.l at this;unfold MA;rw[List.Nodup,List.pairwise_map];exact this.imp (fun h e=>by omega)
    have ah:(MA (l.map (·.nd))).length<=1000000:=(by simp[MA];omega);have ai:=Zh a3;have aj:=Zh a4;clear a2 b2 a0 a1 k2 a3 a4 d0 d1 U;go_wp2_with fail;refine(uX (MA (l.map (·.nd))) i M ah ai.out aj.out I2.out).mono ?_;rintro e N ⟨A3,n3,c3,rfl,o3,b3,a5⟩;have O3:=Zh o3;have B3:=Zh b3;have ak:=Zh a5;have k3:=(b3.block p (JA K2.out) (fun e=>AR I2.out K2.out (by decide) e.symm)).trans K2.out;have f1:N.cell? (cA p 1)=some vi:=cell_of_row N p 1 _ _ (0,0) k3;have g1:N.frozen? (cA p 1)=false:=(by simp[World.frozen?,k3]);have f2:N.cell? (cA p 2)=some (aA z):=cell_of_row N p 2 _ _ (0,0) k3;have g2:N.frozen? (cA p 2)=false:=(by simp[World.frozen?,k3]);have DE:=Zh (Pm a.out HH.out B2.out A2.out V2.out B3.out O3.out ak.out);have E:∀W',aC wr B p ⟨x.a,v,vi,x.R,x.n,z,l⟩ ⟨x.a,v',.slice A3 n3 c3,x.R,x.n,fo z [i],tD [i] l⟩ W'->Ta w B p x (sub K (f+1) i) (.returned (.tuple #[])) W':=by
     intro W' I;have a6:=J.out;rw[<-af.out,<-ag.out] at I a6;obtain⟨v9,al,h9⟩:=TI.next a6 (t:=[i]) (by simpa using Ne.symm a8) ⟨v',_,I⟩;refine⟨rfl,v9,al,?_⟩;have hm:∀c,c∈upto K f i j++[i]↔c∈sub K (f+1) i:=by
      intro c;rw[W.out,sub];simp[or_comm]
     rw[Mm hm,Zg hm] at h9;exact h9
    have F:=Zh E;clear o3 b3 a5 k3 e1 E;by_cases q:z=i
    ·have hq:(z==i)=true:=(by simpa using q);have L:=Zh q;clear q;go_wp2_with fail
     go_end0
     refine F.out _ ?_;have:=DE.out.trans (DE.out.dc.zV 0);rw[show fo z [i]=0 by unfold fo;rw[if_pos (by rw[L.out];simp)]];exact this
    ·have hq:(z==i)=false:=(by simpa using q);have L:=Zh q;clear q;go_wp2_with fail
     go_end0
     refine F.out _ ?_;rw[show fo z [i]=z by unfold fo;rw[if_neg (by simpa using L.out)]];exact DE.out
variable{B p:Nat}{x:Dx}
theorem sub_zero{l:List Nd}(h:Tr (fun y=>nA l y=true) (EA l) (xA l))(f:Nat)(c:Int):(0:Int)∉sub (xA l) f c\/c=0:=by
 by_cases e:c=0
 ·exact .inr e
 ·refine .inl fun b=>e ?_
  obtain⟨j,a⟩:=h.iM f c 0 b;rw[h.US] at a;exact a.symm
theorem dh(i:Int)(w:World)(hwf:WF x.d)(h:Dc w B p x):jA 191 #[lA p,aA i] w (Made w B p x (QA (uF x.d i).1) (uF x.d i).2):=by
 have H:=Zh h;cases hh:nA x.l i with
 |false=>
  have k:=Zh hh;have m:Hid (uF x.d i=(2,x.d)):=Zh (if_pos hh);clear h hwf hh;go_enter func191,ntmps191;go_wp2_with fail;refine(FC i w k H).mono ?_;rintro e v ⟨rfl,b⟩;have n:=Zh b;clear b;go_wp2_with fail;go_ret;rw[m.out];exact Made.same H n rfl rfl
 |true=>
  have k:=Zh hh;have u:¬nA x.d.l i=false:=(by rw[show x.d.l=x.l from rfl,hh];simp);by_cases g:i=1
  ·have N:(i==1)=true:=(by simpa using g);have m:Hid (uF x.d i=(4,x.d)):=Zh (by unfold uF;rw[if_neg u,if_pos g]);clear h hwf hh u g;go_enter func191,ntmps191;go_wp2_with fail;refine(FC i w k H).mono ?_;rintro e v ⟨rfl,b⟩;have n:=Zh b;clear b;go_wp2_with fail;go_ret;rw[m.out];exact Made.same H n rfl rfl
  ·have N:(i==1)=false:=(by simpa using g);have m:Hid (uF x.d i=(0,{x.d with l:=ED x.l i,nB:=fo x.nB (below (UA x.l i) i)})):=Zh (by unfold uF;rw[if_neg u,if_neg g];rfl);have z:=Zh hwf;have j:Tr (fun y=>nA x.l y=true) (EA x.l) (xA x.l):=hwf.tr;have a:=PJ (i:=i) j;have O:=Zh a;have o:i≠0:=j.jG hh;have d:nA (UA x.l i) i=true:=(by rw[qH];exact hh);have X:x.rs.length<=200:=(by have g:=h.ar.len;have Y:=h.ar.room;rw[List.length_map] at g;omega);have q:aK (UA x.l i) (xA (UA x.l i)) ((UA x.l i).length+1) i:=by
    refine⟨?_,a.vL _ _ d,fun c A=>⟨a.ZJ _ _ _ d A,rfl⟩⟩;have:=a.JK (L:=MA (UA x.l i)) (fun y P=>zE.1 P) d;simpa[MA] using this
   have C:=Zh q;have Q:=Zh (sub_zero a);have E:Hid (∀y,(0:Int)∉xA (UA x.l i) y):=Zh (fun y R=>a.z (a.aB _ _ R).2.1);have F:Hid (∀y,(xA (UA x.l i) y).length<=1000):=Zh (fun y=>by
    have:=eI (xA (UA x.l i) y) (MA (UA x.l i)) (a.AD y) (fun c A=>zE.1 (a.aB y c A).2.1);rw[xL] at this;have S:(MA x.l).length=x.rs.length:=(by simp[MA,Dx.l]);omega)
   have G:=Zh o;clear h hwf hh u g j a o d q;go_enter func191,ntmps191;go_wp2_with fail;refine(FC i w k H).mono ?_;rintro e v ⟨rfl,b⟩;have n:=Zh b;have T:=Zh (H.below b);clear b;go_wp2_with fail;refine(iU i v z k T).mono ?_;rintro e U ⟨rfl,f,I,r,s⟩;have J:=Zh ((aC.SF H n).trans I);have K:=Zh r;have t:f.length<=1000:=by
    have:=congrArg List.length s;simp only[List.length_map] at this;omega
   clear I r s;go_wp2_with fail;refine(Rm (xA (UA x.l i)) Q E F ((UA x.l i).length+1) i (x:={x with rs:=f}) U G t (by show aK (f.map (·.nd)) _ _ _;rw[K.out];exact C) J.dc).mono ?_;rintro e Z ⟨rfl,v3,V,M⟩;have W:=Zh M;clear M;go_wp2_with fail;go_ret;rw[m.out];refine⟨rfl,_,J.trans W,?_⟩;show D.mk ((tD _ f).map (·.nd)) x.n x.R _=D.mk (ED x.l i) x.n x.R _;rw[Sa,K.out];rfl
structure cL(w:World)(A:vA)(n c:Nat)(r:Rc):Prop where
 at_:AM w A n c r.attrs
 tag:r.tag.size<=maxLen
 txt:r.txt.size<=maxLen
 key:r.key.size<=maxLen
theorem cL.below{w w':World}{A:vA}{n c:Nat}{r:Rc}(h:cL w A n c r)(hb:fA w w'):cL w' A n c r:=⟨h.at_.below hb,h.tag,h.txt,h.key⟩
theorem nj(r:Rc)(A:vA)(n c:Nat)(w:World)(hwf:WF x.d)(hn:x.n<=100000)(ha:cL w A n c r)(h:Dc w B p x):jA 163 #[lA p,.agg (lF r A n c)] w (Made w B p x (QA (YA x.d r).1) (YA x.d r).2):=by
 have H:=Zh h;have t:=Zh hwf;have o:Hid (fA w (w.alloc (.cells (lF r A n c) 87))):=Zh (Zb _ _);have u:=Zh (h.below o);have z:=Zh (ha.below o);have C:x.rs.length<=x.R:=(by have:=h.ar.len;rwa[List.length_map] at this);have D:=Zh ha.tag;have y:=Zh ha.txt;have E:=Zh ha.key;clear h hwf ha;by_cases b:r.op=1
 ·have F:(r.op==1)=true:=(by simpa using b);have g:Hid (YA x.d r=rE x.d r):=Zh (by unfold YA;simp[b]);clear b;go_enter func163,ntmps163;go_wp2_with fail;refine(Xg r A n c _ hn D y E C u).mono ?_;rintro e v j;obtain⟨rfl,k,d,a⟩:=j;have l:=Zh ((aC.SF H o).trans d);have m:=Zh a;clear d a;go_wp2_with fail;go_ret;rw[g.out];exact⟨rfl,k,l,m⟩
 have F:(r.op==1)=false:=(by simpa using b);by_cases f:r.op=2
 ·have G:(r.op==2)=true:=(by simpa using f);have g:Hid (YA x.d r=YD x.d r.id r.par r.ZA):=Zh (by unfold YA;simp[b,f]);clear f b;go_enter func163,ntmps163;go_wp2_with fail;refine(bM r.id r.par r.ZA _ t u).mono ?_;rintro e v j;obtain⟨rfl,k,d,a⟩:=j;have l:=Zh ((aC.SF H o).trans d);have m:=Zh a;clear d a;go_wp2_with fail;go_ret;rw[g.out];exact⟨rfl,k,l,m⟩
 have G:(r.op==2)=false:=(by simpa using f);by_cases i:r.op=3
 ·have I:(r.op==3)=true:=(by simpa using i);have g:Hid (YA x.d r=uF x.d r.id):=Zh (by unfold YA;simp[b,f,i]);clear i b f;go_enter func163,ntmps163;go_wp2_with fail;refine(dh r.id _ t u).mono ?_;rintro e v j;obtain⟨rfl,k,d,a⟩:=j;have l:=Zh ((aC.SF H o).trans d);have m:=Zh a;clear d a;go_wp2_with fail;go_ret;rw[g.out];exact⟨rfl,k,l,m⟩
 have I:(r.op==3)=false:=(by simpa using i);by_cases q:r.op=4
 ·have J:(r.op==4)=true:=(by simpa using q);have g:Hid (YA x.d r=XD x.d r.id r.attrs):=Zh (by unfold YA;simp[b,f,i,q]);clear q b f i;go_enter func163,ntmps163;go_wp2_with fail;refine(Qe r.id A n c r.attrs _ z.at_ u).mono ?_;rintro e v j;obtain⟨rfl,k,d,a⟩:=j;have l:=Zh ((aC.SF H o).trans d);have m:=Zh a;clear d a;go_wp2_with fail;go_ret;rw[g.out];exact⟨rfl,k,l,m⟩
 have J:(r.op==4)=false:=(by simpa using q);by_cases s:r.op=5
 ·have K:(r.op==5)=true:=(by simpa using s);have g:Hid (YA x.d r=nF x.d r.id r.txt):=Zh (by unfold YA;simp[b,f,i,q,s]);clear s b f i q;go_enter func163,ntmps163;go_wp2_with fail;refine(Ef r.id r.txt _ y u).mono ?_;rintro e v j;obtain⟨rfl,k,d,a⟩:=j;have l:=Zh ((aC.SF H o).trans d);have m:=Zh a;clear d a;go_wp2_with fail;go_ret;rw[g.out];exact⟨rfl,k,l,m⟩
 have K:(r.op==5)=false:=(by simpa using s);have g:Hid (YA x.d r=(1,x.d)):=Zh (by unfold YA;simp[b,f,i,q,s]);clear b f i q s;go_enter func163,ntmps163;go_wp2_with fail;go_ret;rw[g.out];exact Made.same H o rfl rfl
variable{B p:Nat}{x:Dx}
theorem Bu(w:World):AM w none 0 0 []:=⟨rfl,Zl,fun _=>rfl,by omega,fun a h=>absurd h FA,Kind.AA.nil _ _ _⟩
theorem QJ:(⟨#[]⟩:qA).size<=maxLen:=by unfold maxLen;decide
theorem qM:QA 0= .nilIface:=rfl
variable{B p:Nat}{x:Dx}
theorem wR(d:D)(r:Rc):d.n<=(YA d r).2.n/\(YA d r).2.n<=d.n+1:=by
 unfold YA;split
 ·unfold rE;split
  ·exact⟨Int.le_refl _,by show d.n<=d.n+1;omega⟩
  ·split
   ·exact⟨Int.le_refl _,by show d.n<=d.n+1;omega⟩
   ·show d.n<=d.n+1/\d.n+1<=d.n+1;omega
 ·split
  ·unfold YD;split<;>exact⟨Int.le_refl _,by show d.n<=d.n+1;omega⟩
  ·split
   ·unfold uF;split
    ·exact⟨Int.le_refl _,by show d.n<=d.n+1;omega⟩
    ·split<;>exact⟨Int.le_refl _,by show d.n<=d.n+1;omega⟩
   ·split
    ·unfold XD;split
     ·exact⟨Int.le_refl _,by show d.n<=d.n+1;omega⟩
     ·split
      ·exact⟨Int.le_refl _,by show d.n<=d.n+1;omega⟩
      ·split<;>exact⟨Int.le_refl _,by show d.n<=d.n+1;omega⟩
    ·split
     ·unfold nF;split
      ·exact⟨Int.le_refl _,by show d.n<=d.n+1;omega⟩
      ·split
       ·exact⟨Int.le_refl _,by show d.n<=d.n+1;omega⟩
       ·split<;>exact⟨Int.le_refl _,by show d.n<=d.n+1;omega⟩
     ·exact⟨Int.le_refl _,by show d.n<=d.n+1;omega⟩
def lB(w:World)(g:Nat)(nd:Nd)(A:vA)(n c:Nat)(A2:vA)(n2 k2:Nat):Prop:=
 w.heap[g]? = some (.cells (bB nd A n c A2 n2 k2) 53 (0,0))
section
variable{w w':World}{g:Nat}{nd:Nd}{A A2:vA}{n c n2 k2:Nat}
theorem lB.lt(h:lB w g nd A n c A2 n2 k2):g<w.heap.size:=JA h
theorem lB.below{C:Nat}(h:lB w g nd A n c A2 n2 k2)(hb:Below C w w')(hC:g<C):lB w' g nd A n c A2 n2 k2:=(hb.block g hC).trans h
theorem lB.new(w:World)(nd:Nd)(A:vA)(n c:Nat)(A2:vA)(n2 k2:Nat):lB (w.alloc (.cells (bB nd A n c A2 n2 k2) 53)) w.heap.size nd A n c A2 n2 k2:=heap_alloc_new w _
theorem lB.c0(h:lB w g nd A n c A2 n2 k2):w.cell? (cA g 0)=some (aA nd.id):=cell_of_row w g 0 _ _ (0,0) h
theorem lB.c1(h:lB w g nd A n c A2 n2 k2):w.cell? (cA g 1)=some (aA nd.par):=cell_of_row w g 1 _ _ (0,0) h
theorem lB.c2(h:lB w g nd A n c A2 n2 k2):w.cell? (cA g 2)=some (bA nd.tag):=cell_of_row w g 2 _ _ (0,0) h
theorem lB.c3(h:lB w g nd A n c A2 n2 k2):w.cell? (cA g 3)=some (bA nd.txt):=cell_of_row w g 3 _ _ (0,0) h
theorem lB.c4(h:lB w g nd A n c A2 n2 k2):w.cell? (cA g 4)=some (bA nd.key):=cell_of_row w g 4 _ _ (0,0) h
theorem lB.c5(h:lB w g nd A n c A2 n2 k2):w.cell? (cA g 5)=some (.slice A n c):=cell_of_row w g 5 _ _ (0,0) h
theorem lB.c6(h:lB w g nd A n c A2 n2 k2):w.cell? (cA g 6)=some (.slice A2 n2 k2):=cell_of_row w g 6 _ _ (0,0) h
theorem lB.c7(h:lB w g nd A n c A2 n2 k2):w.cell? (cA g 7)=some (aA nd.note):=cell_of_row w g 7 _ _ (0,0) h
theorem lB.frozen(h:lB w g nd A n c A2 n2 k2)(i:Nat):w.frozen? (cA g i)=false:=by
 unfold lB at h;simp[World.frozen?,h]
end
theorem mP{w:World}(h:Dc w B p x)(hwf:WF x.d){k:Nat}(hk:k<x.rs.length):x.rs[k].nd.attrs.length<=1000/\x.rs[k].nd.kids.length<=1000/\x.rs[k].nd.kids.Nodup/\(∀c∈x.rs[k].nd.kids,∃j,∃hj:j<x.rs.length,x.rs[j].nd.id=c/\x.rs[j].nd.par=x.rs[k].nd.id)/\1<=x.rs[k].nd.id/\x.rs[k].nd.id<=x.n/\(x.rs[k].nd.tag.toList=[]->x.rs[k].nd.kids=[]):=by
 have a:x.rs[k].nd∈x.d.l:=List.mem_map.2 ⟨_,List.getElem_mem hk,rfl⟩;have b:=(sF h hk rfl).2.2;have d:=hwf.zJ _ a;refine⟨by have:=hwf.mC _ a;omega,by have:=hwf.SO a;omega,by rw[<-b];exact hwf.tr.AD _,fun c f=>?_,d.1,d.2,hwf.elem _ a⟩;obtain⟨g,i⟩:=hwf.tq a f;obtain⟨j,hj,e,_⟩:=h.place g;exact⟨j,hj,e,by rw[<-(sF h hj e).2.1];exact i⟩
theorem lB.Rd{w:World}{g:Nat}{nd nd':Nd}{A A2 A' A2':vA}{n c n2 k2 n' c' n2' k2':Nat}(h:lB w g nd A n c A2 n2 k2):
 lB ((((((((w.setCell (cA g 0) (aA nd'.id)).setCell (cA g 1) (aA nd'.par)).setCell (cA g 2) (bA nd'.tag)).setCell (cA g 3) (bA nd'.txt)).setCell (cA g 4) (bA nd'.key)).setCell (cA g 5) (.slice A' n' c')).setCell (cA g 6) (.slice A2' n2' k2')).setCell (cA g 7) (aA nd'.note)) g nd' A' n' c' A2' n2' k2':=by
 unfold lB at h|-;simp[World.setCell,Array.getElem?_modify,h]
variable{B q:Nat}
section
variable{w w':World}
end
theorem kr{l:List Nd}{f:Nat}{x:Int}(h:nA l x=true):up (nA l) (EA l) (f+1) x=x:: up (nA l) (EA l) f (EA l x):=by rw[up,if_pos h]
theorem lr{l:List Nd}{f:Nat}{x:Int}(h:nA l x=false):up (nA l) (EA l) f x=[]:=by
 cases f with
 |zero=>rfl
 |succ f=>rw[up,if_neg (by rw[h];simp)]
def Ua(w:World)(l:List Int)(e:Ending)(w':World):Prop:=∃A n c,e= .returned (.slice A n c)∧kI.Own w' w.heap.size (.slice A n c) l∧Below w.heap.size w w'
variable{B q:Nat}
theorem Kind.Own.yx{P:Program}{α:Type}{K:Kind P α}{w:World}{g n c:Nat}{l:List α}(h:K.Own w B (.slice (some (cA g 0)) n c) l){k:Nat}(hk:k<l.length)(a:α):
 K.Own (w.setCells g (k*K.size) (K.cs a)) B (.slice (some (cA g 0)) n c) (l.set k a):=by
 rcases h.form with⟨hv,_⟩|⟨g',c',cur,hv,_,hBg,hlt,hh,qD,UC,hcs,ht⟩
 ·cases hv
 injection hv with e1 e2 e3;injection e1 with e1;injection e1 with e1;subst e1;subst e2;subst e3;obtain⟨q,t,u,v⟩:=cI g (K.cs a) (k*K.size) w cur _ _ hh;have r:l.length*K.size<=c*K.size:=Nat.mul_le_mul_right _ qD;have x:(k+1)*K.size<=l.length*K.size:=Nat.mul_le_mul_right _ hk;have s:(k+1)*K.size=k*K.size+K.size:=(by rw[Nat.add_mul,Nat.one_mul]);refine Kind.OH FA hBg t qD UC (by rw[u];exact hcs) ?_;apply List.ext_getElem?;intro i;have b:=K.zG;rw[List.getElem?_take];by_cases p:i<l.length*K.size
 ·rw[if_pos p,Array.getElem?_toList,v i dA,K.len];have m:i/K.size*K.size+i % K.size=i:=(by rw[Nat.mul_comm];exact Nat.div_add_mod i K.size);have d:i % K.size<K.size:=Nat.mod_lt _ b;have e:i/K.size<l.length:=(by rw[Nat.div_lt_iff_lt_mul b];exact p);have o:=K.fN (l.set k a) (i/K.size) (by simpa using e) (i % K.size) d;rw[m] at o;rw[o,List.getElem_set];by_cases j:k=i/K.size
  ·subst j;rw[if_pos rfl,if_pos ⟨by omega,by omega⟩];congr 1;omega
  ·rw[if_neg j];have f:=K.fN l (i/K.size) e (i % K.size) d;rw[m] at f;rw[<-f,<-ht,List.getElem?_take,if_pos p,if_neg ?_,Array.getElem?_toList];rintro⟨y,z⟩;apply j;have A:k<=i/K.size:=(by rw[Nat.le_div_iff_mul_le b];exact y);have C:i/K.size<k+1:=(by rw[Nat.div_lt_iff_lt_mul b];omega);omega
 ·rw[if_neg p,List.getElem?_eq_none];rw[Kind.dI,List.length_set];omega
variable{B q:Nat}
variable{B q:Nat}
def VC(w:World)(g:Nat)(r:Rc)(A:vA)(n c:Nat):Prop:=w.heap[g]? = some (.cells (lF r A n c) 87 (0,0))
section
variable{w w':World}{g:Nat}{r:Rc}{A:vA}{n c:Nat}
theorem VC.new(w:World)(r:Rc)(A:vA)(n c:Nat):VC (w.alloc (.cells (lF r A n c) 87)) w.heap.size r A n c:=heap_alloc_new w _
theorem VC.below{C:Nat}(h:VC w g r A n c)(hb:Below C w w')(hC:g<C):VC w' g r A n c:=(hb.block g hC).trans h
theorem VC.lt(h:VC w g r A n c):g<w.heap.size:=JA h
theorem VC.c0(h:VC w g r A n c):w.cell? (cA g 0)=some (aA r.op):=cell_of_row w g 0 _ _ (0,0) h
theorem VC.c1(h:VC w g r A n c):w.cell? (cA g 1)=some (aA r.id):=cell_of_row w g 1 _ _ (0,0) h
theorem VC.c2(h:VC w g r A n c):w.cell? (cA g 2)=some (aA r.par):=cell_of_row w g 2 _ _ (0,0) h
theorem VC.c3(h:VC w g r A n c):w.cell? (cA g 3)=some (aA r.ZA):=cell_of_row w g 3 _ _ (0,0) h
theorem VC.c4(h:VC w g r A n c):w.cell? (cA g 4)=some (bA r.tag):=cell_of_row w g 4 _ _ (0,0) h
theorem VC.c5(h:VC w g r A n c):w.cell? (cA g 5)=some (bA r.txt):=cell_of_row w g 5 _ _ (0,0) h
theorem VC.c6(h:VC w g r A n c):w.cell? (cA g 6)=some (bA r.key):=cell_of_row w g 6 _ _ (0,0) h
theorem VC.c7(h:VC w g r A n c):w.cell? (cA g 7)=some (.slice A n c):=cell_of_row w g 7 _ _ (0,0) h
end
variable{B q:Nat}
theorem lY:∀l:List P3.At,P3.IE l l=true
 |[]=>rfl
 |a:: l=>by rw[P3.IE,P3.ql,lY l];rfl
theorem mr(l:List Int)(A A':vA)(n c c':Nat)(w:World)(hn:l.length=n)(hl:n<=1000000)(h1:kI.AA w w.heap.size A l)(h2:kI.AA w w.heap.size A' l):
 jA 42 #[.slice A n c,.slice A' n c'] w fun e w'=>e= .returned (.bool true)/\fA w w':=by
 have f:=Zh h1;have g:=Zh h2;have i:=Zh hn;clear h1 h2 hn;go_enter func42,ntmps42;go_wp2_with fail;go_loopw [5] (fun s wr=>∃j:Nat,j<=n/\s = aA j/\Hid (fA w wr)) (fun s _=>n-(intOf s).toNat)
 case atStart=>exact⟨0,by omega,rfl,Zh Ze⟩
 case round=>
  obtain⟨j,q,rfl,b⟩:=hrel;by_cases k:j<n
  ·have a:j<l.length:=(IA i.out);obtain⟨r,t,rfl,_,m⟩:=yE (f.on b) a;obtain⟨o,p,rfl,_,d⟩:=yE (g.on b) a;generalize l[j]=u at m d;go_wp2_with fail;go_quiet (fail);go_wp2_with fail;go_roundw
   case rel=>exact⟨j+1,by omega,by go_num,Zh (OC b _)⟩
   case measure=>simp[intOf];omega
  ·go_wp2_with fail;go_ret;exact⟨rfl,b⟩
theorem l6(m:Nd)(A A2 A' A2':vA)(n c n2 c2 c' c2':Nat)(w:World)(hn:m.attrs.length=n)(hn2:m.kids.length=n2)(hl:n<=1000)(hl2:n2<=1000)
 (h1:kA.AA w w.heap.size A m.attrs) (h2:kI.AA w w.heap.size A2 m.kids) (h3:kA.AA w w.heap.size A' m.attrs) (h4:kI.AA w w.heap.size A2' m.kids):
 jA 19 #[.agg (bB m A n c A2 n2 c2),.agg (bB m A' n c' A2' n2 c2')] w fun e w'=>e= .returned (.bool true)/\fA w w':=by
 have g:Hid (fA w ((w.alloc (.cells (bB m A n c A2 n2 c2) 53)).alloc (.cells (bB m A' n c' A2' n2 c2') 53))):=Zh ((Zb _ _).alloc FA _);have a:Hid (lB ((w.alloc (.cells (bB m A n c A2 n2 c2) 53)).alloc (.cells (bB m A' n c' A2' n2 c2') 53)) w.heap.size m A n c A2 n2 c2):=Zh (JB (lB.new w m A n c A2 n2 c2));have b:Hid (lB ((w.alloc (.cells (bB m A n c A2 n2 c2) 53)).alloc (.cells (bB m A' n c' A2' n2 c2') 53)) (w.heap.size+1) m A' n c' A2' n2 c2'):=Zh (yD FA);have t:=Zh h1;have u:=Zh h2;have v:=Zh h3;have x:=Zh h4;have s:=Zh hn;have p:=Zh hn2;clear h1 h2 h3 h4 hn hn2;go_enter func19,ntmps19;go_upto_region 1 with fail;generalize (w.alloc (.cells (bB m A n c A2 n2 c2) 53)).alloc (.cells (bB m A' n c' A2' n2 c2') 53)=W at g a b|-;have q:=a.c5;have y:=a.c6;have r:=b.c5;have z:=b.c6;go_wp2_with fail;refine(mr m.kids A2 A2' n2 c2 c2' W p dA (u.on g) (x.on g)).mono ?_;rintro e B ⟨rfl,i⟩;have k:=Zh (g.trans (i.mono g.size));have l:=Zh (a.below i a.lt);have o:=Zh (b.below i b.lt);clear i q y r z a b;have q:=l.c5;have r:=o.c5;go_wp2_with fail;refine(P3.fi m.attrs m.attrs A A' n n c c' B s s dA dA (eJ (t.on k)) (eJ (v.on k))).mono ?_;rintro e D ⟨rfl,j⟩;rw[lY];have C:=Zh (k.trans (j.mono k.size));have d:=Zh (l.below j l.lt);have f:=Zh (o.below j o.lt);clear j q r l o;have E:=d.c0;have F:=d.c1;have G:=d.c2;have H:=d.c3;have I:=d.c4;have J:=d.c7;have K:=f.c0;have L:=f.c1;have i:=f.c2;have j:=f.c3;have M:=f.c4;have N:=f.c7;go_wp2_with fail;go_ret;exact⟨rfl,C⟩
variable{B p:Nat}{x:Dx}
theorem nr(y:Int){k b a R:Nat}{n:Int}{v:Value}{rs:List Rw}(w:World)(hk:k<rs.length)(hy:rs[k].nd.id=y)(hb:rs[k].b=b)(hc:w.cell? (cA p 0)=some (lA a))(har:YB w B a R n v (rs.map pB)):
 jA 71 #[lA p,aA y] w fun e w'=>e= .returned (lA b)/\fA w w':=by
 have H:=Zh har;have d:=Zh hy;have f:=Zh hb;clear har hy hb;go_enter func71,ntmps71;go_wp2_with fail;refine(DI y k (x:=b) w (l:=rs.map pB) (by simpa using hk) (by simp[pB,d.out]) (by simp[pB,f.out]) H).mono ?_;rintro e i ⟨rfl,c⟩;have g:=Zh c;clear c;go_wp2_with fail;go_ret;exact⟨rfl,g⟩
structure Cl(w0 w:World)(x:Dx)(p' a':Nat)(v' vi':Value)(rs:List Rw)(j:Nat):Prop where
 zA:w.heap[p']? = some (.cells #[lA a',vi',aA x.nB] 91 (0,0))
 base:w0.heap.size<=p'
 ar:YB w w0.heap.size a' x.R x.n v' (rs.map pB)
 ids:kI.Own w w0.heap.size vi' (MA x.l)
 len:rs.length=x.rs.length
 same:∀(k:Nat) (h:k<rs.length) (h':k<x.rs.length),rs[k].nd=x.rs[k].nd/\(j<=k->rs[k]=x.rs[k])
 new:∀(k:Nat) (h:k<rs.length),k<j->wD w w0.heap.size rs[k]
 WH:∀(k:Nat) (h:k<rs.length),k<j->dF vi' rs[k].vk.val
 pw:∀(k m:Nat) (h:k<rs.length) (h':m<rs.length),k<m->m<j->rs[k].b≠rs[m].b/\dF rs[k].vk.val rs[m].vk.val
 below:fA w0 w
theorem Cl.done{w0 w:World}{p' a':Nat}{v' vi':Value}{rs:List Rw}(h:Cl w0 w x p' a' v' vi' rs x.rs.length):Dc w w0.heap.size p' ⟨a',v',vi',x.R,x.n,x.nB,rs⟩/\(Dx.mk a' v' vi' x.R x.n x.nB rs).d=x.d:=by
 have e:(Dx.mk a' v' vi' x.R x.n x.nB rs).l=x.l:=by
  show rs.map (·.nd)=x.rs.map (·.nd);apply List.ext_getElem
  ·simp[h.len]
  ·intro k g i;simp only[List.getElem_map];exact(h.same k (by simpa using g) (by simpa using i)).1
 refine⟨⟨h.zA,h.base,h.ar,by rw[e];exact h.ids,fun r b=>?_,fun r b=>?_,?_⟩,by unfold Dx.d;rw[e]⟩
 ·obtain⟨k,a,rfl⟩:=List.mem_iff_getElem.1 b;exact h.new k a (by rw[<-h.len];exact a)
 ·obtain⟨k,a,rfl⟩:=List.mem_iff_getElem.1 b;exact h.WH k a (by rw[<-h.len];exact a)
 ·rw[List.pairwise_iff_getElem];intro k m a f c;exact h.pw k m a f c (by rw[<-h.len];exact f)
theorem wD.but{S:Nat->Prop}{w w':World}{r:Rw}(h:wD w B r)(hb:iA S w w')(h1:¬S r.b)(h2:∀g,r.vk.val.ownBlock=some g->¬S g)(hA:vC w S):wD w' B r:=
 h.VB (hb.block _ h.lt h1) (fun g a=>hb.block g (h.kids.lt a).2 (h2 g a)) (h.mC.but hb hA)
theorem wD.SF{w w':World}{r:Rw}(h:wD w B r)(hb:fA w w'):wD w' B r:=h.but (iA.oB hb (fun _=>False)) (fun h=>h) (fun _ _ h=>h) (vC.none w)
theorem Cl.step{w0 w w2 w4:World}{p' a':Nat}{v' vi':Value}{rs:List Rw}{j:Nat}(h:Cl w0 w x p' a' v' vi' rs j)(hj:j<rs.length){A A2:vA}{n c n2 c2:Nat}{C:Nat}(hb:fA w w2)(ha:ZB w2 ⟨A,n,c⟩ rs[j].nd.attrs)
 (hC:w.heap.size<=C) (hk:kI.Own w2 C (.slice A2 n2 c2) rs[j].nd.kids)
 (h4:YB w4 w0.heap.size a' x.R x.n v' ((rs.map pB).set (JF (rs.map pB) rs[j].nd.id) ⟨rs[j].nd.id,w2.heap.size⟩)) (hbut:iA (cE a' v') (w2.alloc (.cells (rs[j].nd.cells ⟨A,n,c⟩ ⟨A2,n2,c2⟩) 53)) w4):
 Cl w0 w4 x p' a' v' vi' (rs.set j ⟨w2.heap.size,⟨A,n,c⟩,⟨A2,n2,c2⟩,rs[j].nd⟩) (j+1):=by
 have T:w.heap.size<=w2.heap.size:=hb.size;have L:w0.heap.size<=w.heap.size:=h.below.size;have o:fA w (w2.alloc (.cells (rs[j].nd.cells ⟨A,n,c⟩ ⟨A2,n2,c2⟩) 53)):=hb.alloc T _;have q:(w2.alloc (.cells (rs[j].nd.cells ⟨A,n,c⟩ ⟨A2,n2,c2⟩) 53)).heap[w2.heap.size]? = some (.cells (rs[j].nd.cells ⟨A,n,c⟩ ⟨A2,n2,c2⟩) 53 (0,0)):=heap_alloc_new w2 _;have G:ZB (w2.alloc (.cells (rs[j].nd.cells ⟨A,n,c⟩ ⟨A2,n2,c2⟩) 53)) ⟨A,n,c⟩ rs[j].nd.attrs:=ha.below (Zb _ _);have H:kI.Own (w2.alloc (.cells (rs[j].nd.cells ⟨A,n,c⟩ ⟨A2,n2,c2⟩) 53)) C (.slice A2 n2 c2) rs[j].nd.kids:=hk.alloc _;have M:(w2.alloc (.cells (rs[j].nd.cells ⟨A,n,c⟩ ⟨A2,n2,c2⟩) 53)).heap.size=w2.heap.size+1:=FA;generalize w2.alloc (.cells (rs[j].nd.cells ⟨A,n,c⟩ ⟨A2,n2,c2⟩) 53)=W at o q G H M hbut;have u:YB W w0.heap.size a' x.R x.n v' (rs.map pB):=h.ar.below o Zl;have I:∀g,cE a' v' g->∃r t,W.heap[g]? = some (.cells r t (0,0))/\(t=143\/t=147):=by
  rintro g (rfl|e)
  ·exact⟨_,_,u.zA,.inl rfl⟩
  ·obtain⟨d,v⟩:=u.own.ty e;exact⟨_,_,v,.inr rfl⟩
 have a:∀{g:Nat} {r:Array Value} {t:TypeId} {N:Nat×Nat},W.heap[g]? = some (.cells r t N)->t≠143->t≠147->¬cE a' v' g:=by
  intro g r t N p f O ha;obtain⟨Y,Z,E,U⟩:=I g ha;rw[p] at E;injection E with E;injection E with _ e;subst e;rcases U with e|e<;>contradiction
 have J:vC W (cE a' v'):=fun k r N hk E=>a E pA pA hk
 have y:∀g,cE a' v' g->w0.heap.size<=g:=by
  rintro g (rfl|e)
  ·exact u.base
  ·exact(u.own.lt e).1
 have R:vi'.ownBlock≠none->True:=fun _=>trivial
 have s:kI.Own W w0.heap.size vi' (MA x.l):=h.ids.below o Zl;have K:wD w4 w0.heap.size ⟨w2.heap.size,⟨A,n,c⟩,⟨A2,n2,c2⟩,rs[j].nd⟩:=by
  have:wD W w0.heap.size ⟨w2.heap.size,⟨A,n,c⟩,⟨A2,n2,c2⟩,rs[j].nd⟩:=⟨q,by show w0.heap.size<=w2.heap.size;omega,G,H.dE dA⟩;refine this.but hbut (a q pA pA) (fun g p=>?_) J;obtain⟨d,v⟩:=this.kids.ty p;exact a v pA pA
 have get:∀(k:Nat) (f:k<(rs.set j ⟨w2.heap.size,⟨A,n,c⟩,⟨A2,n2,c2⟩,rs[j].nd⟩).length),k≠j->(rs.set j ⟨w2.heap.size,⟨A,n,c⟩,⟨A2,n2,c2⟩,rs[j].nd⟩)[k]=rs[k]'(by simpa using f):=fun k f hk=>List.getElem_set_ne (Ne.symm hk) _
 have l:∀(f:j<(rs.set j ⟨w2.heap.size,⟨A,n,c⟩,⟨A2,n2,c2⟩,rs[j].nd⟩).length),(rs.set j ⟨w2.heap.size,⟨A,n,c⟩,⟨A2,n2,c2⟩,rs[j].nd⟩)[j]=⟨w2.heap.size,⟨A,n,c⟩,⟨A2,n2,c2⟩,rs[j].nd⟩:=fun f=>List.getElem_set_self _
 refine⟨?_,h.base,?_,?_,by rw[List.length_set];exact h.len,fun k f z=>?_,fun k f D=>?_,fun k f D=>?_,fun k m f O P V=>?_,?_⟩
 ·have b:W.heap[p']? = _:=(o.block p' (JA h.zA)).trans h.zA;exact(hbut.block p' (JA b) (a b pA pA)).trans b
 ·have e:(rs.set j ⟨w2.heap.size,⟨A,n,c⟩,⟨A2,n2,c2⟩,rs[j].nd⟩).map pB=(rs.map pB).set (JF (rs.map pB) rs[j].nd.id) ⟨rs[j].nd.id,w2.heap.size⟩:=by
   have S:=qR h.ar.xD (k:=j) (by simpa using hj);rw[List.getElem_map] at S;rw[show rs[j].nd.id=(pB rs[j]).id from rfl,S,List.map_set];rfl
  rw[e];exact h4
 ·refine s.VB fun g p=>hbut.block g (s.lt p).2 ?_
  obtain⟨d,v⟩:=s.ty p;exact a v pA pA
 ·by_cases e:k=j
  ·subst e;rw[l];exact⟨(h.same k hj z).1,fun hk=>absurd hk dA⟩
  ·rw[get k f e];exact⟨(h.same k (by simpa using f) z).1,fun hk=>(h.same k (by simpa using f) z).2 dA⟩
 ·by_cases e:k=j
  ·subst e;rw[l];exact K
  ·rw[get k f e];have F:=(h.new k (by simpa using f) dA).SF o;refine F.but hbut (a F.zA pA pA) (fun g p=>?_) J;obtain⟨d,v⟩:=F.kids.ty p;exact a v pA pA
 ·by_cases e:k=j
  ·subst e;rw[l];intro g p Q;have:=(h.ids.lt p).2;have:=(hk.lt Q).1;omega
  ·rw[get k f e];exact h.WH k (by simpa using f) dA
 ·have D:k≠j:=dA;rw[get k f D];have F:=h.new k (by simpa using f) dA;by_cases e:m=j
  ·subst e;rw[l];refine⟨?_,fun g p Q=>?_⟩
   ·have:=F.lt;show(rs[k]'(by simpa using f)).b≠w2.heap.size;omega
   ·have:=(F.kids.lt p).2;have:=(hk.lt Q).1;omega
  ·rw[get m O e];exact h.pw k m (by simpa using f) (by simpa using O) P dA
 ·have:=hbut.eD (B:=w0.heap.size) (fun i _ X=>y i X) dA;exact(h.below.trans (o.mono L)).trans this
variable{B p:Nat}{x:Dx}
def vW(d:D)(i:Int)(w:World)(e:Ending)(w':World):Prop:=∃(nd:Nd) (A:vA) (n c:Nat) (A2:vA) (n2 c2:Nat),e= .returned (.tuple #[.agg (bB nd A n c A2 n2 c2),.bool (nA d.l i)])/\
 (nA d.l i=true->find d.l i=some nd)/\(nA d.l i=false->nd=⟨0,0,⟨#[]⟩,⟨#[]⟩,⟨#[]⟩,[],[],0⟩)/\nd.kids=xA d.l i/\ZB w' ⟨A,n,c⟩ nd.attrs/\kI.Own w' w.heap.size (.slice A2 n2 c2) nd.kids/\fA w w'
theorem tS(i:Int)(w:World)(hw:WF x.d)(h:Dc w B p x):jA 18 #[lA p,aA i] w (vW x.d i w):=by
 cases hh:nA x.l i with
 |false=>
  have a:nA x.d.l i=false:=hh;refine(eV i w hh h).mono ?_;rintro e w' ⟨rfl,b⟩;refine⟨⟨0,0,⟨#[]⟩,⟨#[]⟩,⟨#[]⟩,[],[],0⟩,none,0,0,none,0,0,by rw[a],(fun e=>by rw[a] at e;cases e),fun _=>rfl,?_,ZB.fK w',Kind.Own.nil kI w' _,b⟩;unfold xA;cases hf:find x.d.l i with
  |none=>rfl
  |some z=>rw[vK hf] at a;cases a
 |true=>
  have a:nA x.d.l i=true:=hh;obtain⟨k,f,g,_⟩:=h.place hh;obtain⟨j,l,_⟩:=mP h hw f;have d:find x.d.l i=some x.rs[k].nd:=by
   have m:x.rs[k].nd∈x.l:=List.mem_map.2 ⟨x.rs[k],List.getElem_mem f,rfl⟩;have:=h.xD.find m;rw[g] at this;exact this
  refine(VL i (k:=k) (nd:=x.rs[k].nd) w f g rfl j l h).mono ?_;rintro e w' ⟨A,n,c,o,q,r,rfl,s,t,b⟩;exact⟨_,A,n,c,o,q,r,by rw[a],fun _=>d,(fun e=>by rw[a] at e;cases e),(EI d).symm,s,t,b⟩
end P5
end Go.Proofs.YtimfajmknmlajaaGreatDoor
