import Derived.Test.YtgjekaaknjgnmaaGreatDoorAd
import Derived.ArgAppend
import Derived.Conc.AtomicLaws2
import Derived.Lib.Builder
import Derived.Lib.Bytealg
import Derived.Lib.JoinLaws
import Derived.Sort.Walk0
set_option linter.all false
set_option maxHeartbeats 40000000
set_option maxRecDepth 200000
namespace Go.Proofs.Kz
open Go.Proofs.Tryz
open Go.Proofs.Tryz renaming prog → ar
open _root_.ByteArray renaming empty → aN
open Go.Ren Go.Conc Go.Proofs Go.ConcN
section
open Go.Conc.Lib Go.ConcR.Gen Go.ConcN.Gen
open Go.ConcR (KK wgBlock WgAt stA smA rd wr mk Payload DC0)
def Still(D:mf)(Ob:Nat)(old:Nat->Option (Nat×List Kz.V))(b:Nat):Prop :=
 b=D.bn\/b=D.Lb\/b=D.St\/b=D.Vb\/b=D.Mb\/b=Ob\/b=1\/(∃s,s<D.n/\b=D.cw s)\/(∃s vs,s<D.n/\old s=some (b,vs))
structure mZ(D:mf)(ord:Nat->Nat)(res:Nat->Kz.V)(old:Nat->Option (Nat×List Kz.V))(Ob:Nat)(o:aM)(w:ae):Prop where
 DI:kG D w
 pow:jB w
 order:w.cell? ⟨D.Lb,D.Lo+1,none⟩=some (.slice (some ⟨Ob,0,none⟩) D.n D.n)
 Kv:∀k,k<D.n->w.cell? ⟨Ob,k,none⟩=some (.int .i64 (ord k))
 still:∀b,Still D Ob old b->o b/\b≠D.Rb/\b≠D.Nb/\∀s,s<D.n->b≠D.ch s
 nZ:∀s,s<D.n->o (D.ch s)/\D.ch s≠D.Rb/\D.ch s≠D.Nb/\∃s' r tm,w.heap[D.ch s]?=some (.chan 0 #[] false s' r tm)
 wh:∀s t,s<D.n->t<D.n->D.ch s=D.ch t->s=t
 BC:o D.Rb
 BD:o D.Nb
 apart:D.Rb≠D.Nb
 R0:∃cs,w.heap[D.Rb]?=some (.cells cs 222 (0,0))/\cs.size=D.n*4
 N0:∃cs,w.heap[D.Nb]?=some (.cells cs 4 (0,0))/\cs.size=D.n
 idle:∀s,s<D.n->ye D s (old s) w
 vv:∀s B vs,s<D.n->old s=some (B,vs)->vt w B 0 vs/\vs.length<=100000
 pI:∀i,i<D.n->ord i<D.n
 XU:∀i j,i<D.n->j<D.n->ord i=ord j->i=j
 XV:∀s,s<D.n->∃i,i<D.n/\ord i=s
 dep:∀i,i<D.n->∀m,(true,m)∈D.ins (ord i)->∃k,k<i/\ord k=m
 src:∀s,s<D.n->∀m,(false,m)∈D.ins s->m<D.lj.length
 short:∀s,s<D.n->(D.ins s).length<=4
 gT:D.n<=100000
 TV:D.lj.length<=100000
 made:∀s,s<D.n->res s=jC (D.jm s) (dA D res s)
 eD:∀s,s<D.n->1<=D.jm s/\D.jm s<=5
 size:∀s,s<D.n->iM ((dA D res s).map (·.2))<=1000000
def pr(D:mf)(ord:Nat->Nat)(old:Nat->Option (Nat×List Kz.V))(S:Nat->Prop)(Wg H0 m0 T0:Nat):cP where
 T0:=T0
 H0:=H0
 Wg:=Wg
 m0:=m0
 n:=D.n
 ch:=fun i=>D.ch (ord i)
 js:=fun i l=>i<D.n/\((∃j,j<4/\l=.cell ⟨D.Rb,ord i*4+j,none⟩)\/l=.cell ⟨D.Nb,ord i,none⟩)
 Shun:=sK S
 Sh:=fun b=>b=D.Rb\/b=D.Nb
 ty:=216
 dep:=fun i k=>k<i
 Idle:=fun k w=>k<D.n->ye D (ord k) (old (ord k)) w
section
variable {D:mf} {ord:Nat->Nat} {res:Nat->Kz.V} {old:Nat->Option (Nat×List Kz.V)} {Ob:Nat} {o:aM} {w:ae} {L:Nat->Bool}
theorem tO{w w1:ae}{B:Nat}(hs:∀cs ty fz,w.heap[B]?=some (.cells cs ty fz)->∃rW,w1.heap[B]?=some (.cells rW ty fz)/\rW.size=cs.size)(h:uq w B):uq w1 B:=by
 obtain⟨c,t,h⟩:=h;obtain⟨c1,h1,_⟩:=hs c t _ h;exact⟨c1,t,h1⟩
theorem ye.keep{s:Nat}{x:Option (Nat×List Kz.V)}{w w1:ae}(h:ye D s x w)(hR:∀j,j<4->w1.cell? ⟨D.Rb,s*4+j,none⟩=w.cell? ⟨D.Rb,s*4+j,none⟩)(hN:w1.cell? ⟨D.Nb,s,none⟩=w.cell? ⟨D.Nb,s,none⟩)(h1:uq w1 D.Rb)(h2:uq w1 D.Nb):ye D s x w1:=by
 refine⟨?_,hN.trans h.2.1,h1,h2⟩;have k:=h.1;cases x with
 |none=>exact⟨(hR 0 aa).trans k.c0,(hR 1 aa).trans k.c1,(hR 2 aa).trans k.c2,(hR 3 aa).trans k.c3⟩
 |some y=>exact⟨(hR 0 aa).trans k.c0,(hR 1 aa).trans k.c1,(hR 2 aa).trans k.c2,(hR 3 aa).trans k.c3⟩
theorem mM{o:aM}{a b:Nat}(h:¬o b)(ha:o a):a≠b:=fun e=>h (e▸ha)
theorem T1(h:mZ D ord res old Ob o w){S:Nat->Prop}{Wg H0 m0 T0:Nat}(hm:0<m0)(Zl:Wg<H0)(L5:¬o Wg)(ho:∀b,o b->b<H0/\¬S b)(hS:∀b,S b->b<H0/\b≠Wg):(pr D ord old S Wg H0 m0 T0).OK where
 m0:=hm
 wg:=Zl
 own k l b hl hb:=by
  rcases hl.2 with⟨j,_,rfl⟩|rfl
  ·cases hb;exact⟨(ho _ h.BC).1,mM L5 h.BC⟩
  ·cases hb;exact⟨(ho _ h.BD).1,mM L5 h.BD⟩
 apart k k' l hl hl':=by
  have e:ord k=ord k':=by
   rcases hl.2 with⟨j,_,rfl⟩|rfl<;>rcases hl'.2 with⟨j',_,e⟩|e
   ·simp at e;omega
   ·simp at e;exact absurd e.1 h.apart
   ·simp at e;exact absurd e.1.symm h.apart
   ·simp at e;exact e
  exact h.XU _ _ hl.1 hl'.1 e
 Z9 l b hl hb:=by cases l<;>first|exact hl.elim|skip;cases hb;exact hS _ hl
 ER k l hl hs:=by
  rcases hl.2 with⟨j,_,rfl⟩|rfl
  ·exact(ho _ h.BC).2 hs
  ·exact(ho _ h.BD).2 hs
 ownSh k l hl:=by
  rcases hl.2 with⟨j,_,rfl⟩|rfl
  ·exact⟨_,rfl,.inl rfl⟩
  ·exact⟨_,rfl,.inr rfl⟩
 sh b hb:=by
  rcases hb with rfl|rfl
  ·exact⟨(ho _ h.BC).1,mM L5 h.BC,fun k hk=>(h.nZ _ (h.pI k hk)).2.1⟩
  ·exact⟨(ho _ h.BD).1,mM L5 h.BD,fun k hk=>(h.nZ _ (h.pI k hk)).2.2.1⟩
 ch k hk:=⟨(ho _ (h.nZ _ (h.pI k hk)).1).1,mM L5 (h.nZ _ (h.pI k hk)).1⟩
 wh k k' hk kY e:=h.XU _ _ hk kY (h.wh _ _ (h.pI k hk) (h.pI k' kY) e)
 Pv k hk:=fun e=>e
 dep i k _ e:=e
 idle k w w1 h1 h2 h3:=fun hk=>(h3 hk).keep (fun j hj=>h1 _ ⟨hk,.inl ⟨j,hj,rfl⟩⟩) (h1 _ ⟨hk,.inr rfl⟩) (tO (h2 _ · · · (.inl rfl)) (h3 hk).2.2.1) (tO (h2 _ · · · (.inr rfl)) (h3 hk).2.2.2)
theorem Kx(h:mZ D ord res old Ob o w){S:Nat->Prop}{Wg H0 m0 T0:Nat}(Zl:Wg<H0)(L5:¬o Wg)(ho:∀b,o b->b<H0/\¬S b){b:Nat}(hb:Still D Ob old b):Quiet (pr D ord old S Wg H0 m0 T0) b:=by
 obtain⟨h1,h2,h3,h4⟩:=h.still b hb;refine⟨(ho b h1).1,mM L5 h1,fun e=>e.elim h2 h3,fun k hk=>h4 _ (h.pI k hk),fun off=>⟨fun b' mo=>?_,fun k hk=>?_,(ho b h1).2⟩⟩
 ·cases mo;exact⟨(ho b h1).1,mM L5 h1⟩
 ·rcases hk.2 with⟨j,_,e⟩|e
  ·injection e with e;injection e with e;exact h2 e
  ·injection e with e;injection e with e;exact h3 e
theorem BE{S:Nat->Prop}{Wg H0 m0 T0 Bb:Nat}(hB:Bb<H0)(cV:Bb≠Wg)(hS:¬S Bb)(h:mZ D ord res old Ob o w)(hn:¬o Bb):Quiet (pr D ord old S Wg H0 m0 T0) Bb:=by
 have QO:∀a,o a->Bb≠a:=fun a ha e=>hn (e▸ha);refine⟨hB,cV,fun e=>e.elim (QO _ h.BC) (QO _ h.BD),fun k hk=>QO _ (h.nZ _ (h.pI k hk)).1,fun off=>⟨fun b' mo=>?_,fun k hk=>?_,hS⟩⟩
 ·cases mo;exact⟨hB,cV⟩
 ·rcases hk.2 with⟨j,_,e⟩|e
  ·injection e with e;injection e with e;exact QO _ h.BC e
  ·injection e with e;injection e with e;exact QO _ h.BD e
theorem mZ.keep{w1:ae}(h:mZ D ord res old Ob o w)(e:∀b,o b->w1.heap[b]?=w.heap[b]?):mZ D ord res old Ob o w1:=by
 have q:∀{b off},Still D Ob old b->w1.cell? ⟨b,off,none⟩=w.cell? ⟨b,off,none⟩:=fun hb=>cell_of (e _ (h.still _ hb).1);have qb:∀{off},w1.cell? ⟨D.bn,off,none⟩=w.cell? ⟨D.bn,off,none⟩:=q (.inl rfl);have qL:∀{off},w1.cell? ⟨D.Lb,off,none⟩=w.cell? ⟨D.Lb,off,none⟩:=q (.inr (.inl rfl));have qS:∀{off},w1.cell? ⟨D.St,off,none⟩=w.cell? ⟨D.St,off,none⟩:=q (.inr (.inr (.inl rfl)));have qV:∀{off},w1.cell? ⟨D.Vb,off,none⟩=w.cell? ⟨D.Vb,off,none⟩:=q (.inr (.inr (.inr (.inl rfl))));have qM:∀{off},w1.cell? ⟨D.Mb,off,none⟩=w.cell? ⟨D.Mb,off,none⟩:=q (.inr (.inr (.inr (.inr (.inl rfl)))));have qO:∀{off},w1.cell? ⟨Ob,off,none⟩=w.cell? ⟨Ob,off,none⟩:=q (.inr (.inr (.inr (.inr (.inr (.inl rfl))))));have q1:∀{off},w1.cell? ⟨1,off,none⟩=w.cell? ⟨1,off,none⟩:=q (.inr (.inr (.inr (.inr (.inr (.inr (.inl rfl)))))));have qI:∀{s off},s<D.n->w1.cell? ⟨D.cw s,off,none⟩=w.cell? ⟨D.cw s,off,none⟩:=fun hs=>q (.inr (.inr (.inr (.inr (.inr (.inr (.inr (.inl ⟨_,hs,rfl⟩))))))));have qR:∀{off},w1.cell? ⟨D.Rb,off,none⟩=w.cell? ⟨D.Rb,off,none⟩:=cell_of (e _ h.BC);have qN:∀{off},w1.cell? ⟨D.Nb,off,none⟩=w.cell? ⟨D.Nb,off,none⟩:=cell_of (e _ h.BD);have d:=h.DI;exact {h with
  DI:=⟨by rw[qb];exact d.b0,by rw[qb];exact d.b1,by rw[qb];exact d.b2,by rw[qb];exact d.b3,by rw[qb];exact d.b4,by rw[qL];exact d.steps,fun s hs=>by rw[qS];exact d.eD s hs,fun s hs=>by rw[qS];exact d.zJ s hs,fun s hs j hj=>by rw[qI hs,qI hs];exact d.Bw s hs j hj,fun k hk=>by rw[qV,qV];exact d.lj k hk,fun s hs=>by rw[qM];exact d.made s hs⟩
  pow:=fun k hk=>by rw[q1];exact h.pow k hk
  order:=by rw[qL];exact h.order
  Kv:=fun k hk=>by rw[qO];exact h.Kv k hk
  nZ:=fun s hs=>⟨(h.nZ s hs).1,(h.nZ s hs).2.1,(h.nZ s hs).2.2.1,by rw[e _ (h.nZ s hs).1];exact(h.nZ s hs).2.2.2⟩
  R0:=by rw[e _ h.BC];exact h.R0
  N0:=by rw[e _ h.BD];exact h.N0
  idle:=fun s hs=>(h.idle s hs).keep (fun j _=>qR) qN (tO (fun cs ty fz hx=>⟨cs,by rw[e _ h.BC];exact hx,rfl⟩) (h.idle s hs).2.2.1) (tO (fun cs ty fz hx=>⟨cs,by rw[e _ h.BD];exact hx,rfl⟩) (h.idle s hs).2.2.2)
  vv:=fun s B vs hs ho=>⟨fun k hk=>by
   have hb:Still D Ob old B:=.inr (.inr (.inr (.inr (.inr (.inr (.inr (.inr ⟨s,vs,hs,ho⟩)))))));rw[q hb,q hb];exact(h.vv s B vs hs ho).1 k hk,(h.vv s B vs hs ho).2⟩}
theorem Ky(h:mZ D ord res old Ob o w){S:Nat->Prop}{Wg Bb H0 m0 T0:Nat}(hm:0<m0)(Zl:Wg<H0)(L5:¬o Wg)(ho:∀b,o b->b<H0/\¬S b)(hS:∀b,S b->b<H0/\b≠Wg)(hB:Bb<H0)(cV:Bb≠Wg)(hSB:¬S Bb)(hnB:¬o Bb)(hg:ar.globals.size<=H0)(XX:w.cell? ⟨Bb,0,none⟩=some (.pointer (some ⟨D.bn,0,none⟩))):Setup D (pr D ord old S Wg H0 m0 T0) ord res old Bb Ob w:=by
 have Q:∀{b},Still D Ob old b->Quiet (pr D ord old S Wg H0 m0 T0) b:=fun hb=>Kx h Zl L5 ho hb;exact {
  ok:=T1 h hm Zl L5 ho hS
  n:=rfl
  jF:=hg
  ty:=rfl
  q1:=Q (.inr (.inr (.inr (.inr (.inr (.inr (.inl rfl)))))))
  dk:={
   Cx:=Q (.inl rfl)
   XJ:=Q (.inr (.inl rfl))
   XK:=Q (.inr (.inr (.inl rfl)))
   Zm:=Q (.inr (.inr (.inr (.inl rfl))))
   qMb:=Q (.inr (.inr (.inr (.inr (.inl rfl)))))
   NK:=fun s hs=>Q (.inr (.inr (.inr (.inr (.inr (.inr (.inr (.inl ⟨_,hs,rfl⟩))))))))
   pI:=h.pI
   ch:=fun _ _=>rfl
   own:=fun _ _=>cG
   O3:=.inl rfl
   VR:=.inr rfl
   apart:=h.apart
   dep:=fun i hi m hm=>by
    obtain⟨k,hk,e⟩:=h.dep i hi m hm;exact⟨k,by have:i<D.n:=hi;show k<D.n;omega,e,hk⟩
   src:=h.src
   short:=h.short
   gT:=h.gT
   TV:=h.TV}
  DI:=h.DI
  pow:=h.pow
  made:=fun i hi=>h.made _ (h.pI i hi)
  eD:=fun i hi=>h.eD _ (h.pI i hi)
  size:=fun i hi=>h.size _ (h.pI i hi)
  qB:=BE hB cV hSB h hnB
  box:=XX
  qO:=Q (.inr (.inr (.inr (.inr (.inr (.inl rfl))))))
  order:=h.order
  Kv:=h.Kv
  vv:=fun s B vs hs e=>⟨(h.vv s B vs hs e).1,Q (.inr (.inr (.inr (.inr (.inr (.inr (.inr (.inr ⟨s,vs,hs,e⟩)))))))),(h.vv s B vs hs e).2⟩
  idle:=fun k w hk hi=>hi hk}
end
end
section
open Go.Conc.Lib Go.ConcR.Gen Go.ConcN.Gen
open Go.ConcR (KK wgBlock WgAt stA smA rd wr mk Payload DC0)
structure QP(D:mf)(res:Nat->Kz.V)(old:Nat->Option (Nat×List Kz.V))(o:aM)(w:ae)(o':aM)(w':ae):Prop where
 more:∀b,o b->o' b
 new:∀b,o' b->o b\/w.heap.size<=b
 same:∀b,b<w.heap.size->b≠D.Rb->b≠D.Nb->(∀s,s<D.n->b≠D.ch s)->w'.heap[b]?=w.heap[b]?
 runs:∀s,s<D.n->mL D s (old s) (dA D res s) (res s) (fun b=>o' b/\w.heap.size<=b) w'
 R0:∃cs,w'.heap[D.Rb]?=some (.cells cs 222 (0,0))/\cs.size=D.n*4
 N0:∃cs,w'.heap[D.Nb]?=some (.cells cs 4 (0,0))/\cs.size=D.n
 nZ:∀s,s<D.n->∃c s' r tm,w'.heap[D.ch s]?=some (.chan 0 #[] c s' r tm)
 size:w.heap.size<=w'.heap.size
 os:w'.os=w.os
 output:w'.output=w.output
section
variable [Payload] {D:mf} {ord:Nat->Nat} {res:Nat->Kz.V} {old:Nat->Option (Nat×List Kz.V)} {Ob:Nat} {o:aM} {w:ae} {L:Nat->Bool} {Fin:bH}
theorem rq{f:Rn}{cs:Array Value}{ty:TypeId}{fz:Nat×Nat}(h:∀j (hj:j<cs.size),val f cs[j]=cs[j]):obj f (.cells cs ty fz)=.cells cs ty fz:=by
 simp only[obj]
 congr 1
 apply iF
 ·simp
 ·intro j h1 h2;simpa using h j h2
theorem HU{w:ae}{b j:Nat}{v:Value}{cs:Array Value}{ty:TypeId}{fz:Nat×Nat}(h:w.cell? ⟨b,j,none⟩=some v)(hb:w.heap[b]?=some (.cells cs ty fz)):cs[j]?=some v:=by
 simpa[World.cell?,hb] using h
theorem tj{w:ae}{b j:Nat}{v:Value}{cs:Array Value}{ty:TypeId}{fz:Nat×Nat}{f:Rn}(h:w.cell? ⟨b,j,none⟩=some v)(hb:w.heap[b]?=some (.cells cs ty fz))(hj:j<cs.size)(hv:val f v=v):val f cs[j]=cs[j]:=by
 have:=HU h hb;rw[aG hj] at this;rw[aK this];exact hv
theorem NR{w:ae}{b t n:Nat}{g:Nat->Value}(h:w.rowIs b t n g)(hg:∀j,j<n->∀f,val f (g j)=g j):∃x,w.heap[b]?=some x/\eF x=false/\∀f,obj f x=x:=by
 obtain⟨c,hb,hn,hc⟩:=h;refine⟨_,hb,rfl,fun f=>rq fun j hj=>?_⟩;have:=hc j aa;rw[aG hj] at this;rw[aK this];exact hg j aa f
theorem QQ{S:Nat->Prop}{Wg H0 m0 T0:Nat}:jJ (pr D ord old S Wg H0 m0 T0) (Vd D ord res) (wS D ord old res):=by
 refine⟨fun k w w1 h1 h2=>?_,fun k o w w1 h1 h2 h3=>?_⟩
 ·exact⟨h2.1,(h1 _ ⟨h2.1,.inl ⟨2,aa,rfl⟩⟩).trans h2.2.1,(h1 _ ⟨h2.1,.inl ⟨3,aa,rfl⟩⟩).trans h2.2.2⟩
 ·exact⟨h3.1,mL.of h3.2 (fun j hj=>h1 _ ⟨h3.1,.inl ⟨j,hj,rfl⟩⟩) (h1 _ ⟨h3.1,.inr rfl⟩) fun b hb=>⟨hb,h2 b hb⟩⟩
theorem NT(hF:bE ar L o w)(h:mZ D ord res old Ob o w):bp ar (XB ar Fin 0) 74 #[.pointer (some ⟨D.bn,0,none⟩)] o w fun v o' w'=>v=.tuple #[]/\QP D res old o w o' w'/\bE ar L o' w':=by
 intro c cs hc;have fo:Tryz.f74.body=some (.seq _ (.seq _ (.seq (.seq _ (.block 0 (.loop _))) _))):=rfl;rw[ij func74 fo];refine fun XY=>(?_:XB ar Fin 0 o _ w) XY;have W:=bJ (P:=ar) (Fin:=Fin) (d:=0);have qh:(base 74).kind≠.early:=by simp[base]
 walk_nrmf Tryz.f74;refine W.go rfl (fun _=>ax) ?_;refine W.go rfl (fun _=>aV) ?_;refine dp ?_;refine xW rfl ai qh rfl (Obj.cells #[.pointer (some ⟨D.bn,0,none⟩)] 151) (fun n=>.pointer (some ⟨n,0,none⟩)) (fun w1=>fa) (fun w1=>fa) ?_;walk_nrm;refine W.go rfl (fun _=>ak) ?_;refine W.go rfl (fun _=>ax) ?_;refine W.go rfl (fun _=>aV) ?_;refine dp ?_;refine xW rfl ai qh rfl (Obj.cells #[.int .u64 0,.int .u32 0] 216) (fun n=>.pointer (some ⟨n,0,none⟩)) (fun w1=>fa) (fun w1=>fa) ?_;walk_nrm;refine W.go rfl (fun _=>ak) ?_;have pE:∀b,b<w.heap.size->((w.alloc (Obj.cells #[.pointer (some ⟨D.bn,0,none⟩)] 151)).alloc (Obj.cells #[.int .u64 0,.int .u32 0] 216)).heap[b]?=w.heap[b]?:=fun b hb=>by
  rw[RowKit.Below.heap_alloc _ _ b eR,RowKit.Below.heap_alloc _ _ b hb]
 have HQ:((w.alloc (Obj.cells #[.pointer (some ⟨D.bn,0,none⟩)] 151)).alloc (Obj.cells #[.int .u64 0,.int .u32 0] 216)).heap[w.heap.size]?=some (Obj.cells #[.pointer (some ⟨D.bn,0,none⟩)] 151):=by
  rw[RowKit.Below.heap_alloc _ _ _ an];show(w.heap.push _)[w.heap.size]?=_;simp
 have nU:((w.alloc (Obj.cells #[.pointer (some ⟨D.bn,0,none⟩)] 151)).alloc (Obj.cells #[.int .u64 0,.int .u32 0] 216)).heap[w.heap.size+1]?=some (Obj.cells #[.int .u64 0,.int .u32 0] 216):=by
  show((w.heap.push (Obj.cells #[.pointer (some ⟨D.bn,0,none⟩)] 151)).push _)[w.heap.size+1]?=_;rw[eZ,if_pos an]
 have A4:((w.alloc (Obj.cells #[.pointer (some ⟨D.bn,0,none⟩)] 151)).alloc (Obj.cells #[.int .u64 0,.int .u32 0] 216)).heap.size=w.heap.size+2:=an;have I8:(w.alloc (Obj.cells #[.pointer (some ⟨D.bn,0,none⟩)] 151)).heap.size=w.heap.size+1:=an;have WH:((w.alloc (Obj.cells #[.pointer (some ⟨D.bn,0,none⟩)] 151)).alloc (Obj.cells #[.int .u64 0,.int .u32 0] 216)).os=w.os/\((w.alloc (Obj.cells #[.pointer (some ⟨D.bn,0,none⟩)] 151)).alloc (Obj.cells #[.int .u64 0,.int .u32 0] 216)).output=w.output:=⟨rfl,rfl⟩;rw[I8];generalize (w.alloc (Obj.cells #[.pointer (some ⟨D.bn,0,none⟩)] 151)).alloc (Obj.cells #[.int .u64 0,.int .u32 0] 216)=w2 at *;clear I8;have bZ:∀b,o b->b<w.heap.size:=fun b hb=>hF.lt hb;have L5:¬o (w.heap.size+1):=fun hb=>by have:=bZ _ hb;omega
 have hoB:¬o w.heap.size:=fun hb=>by have:=bZ _ hb;omega
 intro Nt w3 nT;have e3:w3.heap=w2.heap:=by obtain⟨dd,rfl⟩:=nT;rfl
 have e3o:w3.os=w2.os/\w3.output=w2.output:=by obtain⟨dd,rfl⟩:=nT;exact⟨rfl,rfl⟩
 have NU:mZ D ord res old Ob o w3:=h.keep fun b hb=>by rw[e3];exact pE b (bZ b hb)
 have aff:DW Fin (fun b=>(o b\/b=w.heap.size)\/b=w.heap.size+1) w2=DW Fin o w:=by
  funext b;simp only[DW,eq_iff_iff,A4];constructor
  ·rintro⟨h1,h2,h5⟩;exact⟨eP fun h3=>h2 aa,fun h3=>h2 (.inl (.inl h3)),h5⟩
  ·rintro⟨h1,h2,h5⟩;exact⟨aa,fun h3=>by rcases h3 with(h3|h3)|h3<;>first|exact h2 h3|omega,h5⟩
 rw[aff];have hg:ar.globals.size<=w.heap.size+2:=by have:=hF.size;omega
 have XZ:∀m0 T0,0<m0->Setup D (pr D ord old (DW Fin o w) (w.heap.size+1) (w.heap.size+2) m0 T0) ord res old w.heap.size Ob w3:=fun m0 T0 hm =>
  Ky NU hm aa L5 (fun b hb=>⟨by have:=bZ b hb;omega,fun hx=>hx.2.1 hb⟩) (fun b hb=>⟨by have:=hb.1;omega,by have:=hb.1;omega⟩) aa aa (fun hx=>by have:=hx.1;omega) hoB hg (by simp[World.cell?,e3,HQ])
 refine BX.aaN fun m0 T0 hm=>⟨pr D ord old (DW Fin o w) (w.heap.size+1) (w.heap.size+2) m0 T0,Vd D ord res,wS D ord old res,
  fun o5 g5 w5=>∃tm wA,DX link (pr D ord old (DW Fin o w) (w.heap.size+1) (w.heap.size+2) m0 T0) wA ((base 74).at ⟨tm,[]⟩ (.inRegion #[{dst:=some 20,op:=.call {callee:=.value (.func 117),args:=#[.tmp 2],argTypes:=#[216]},type:=0,pos:= "build.go:82",after:=#[],guard:=none}] (0::[])::[])) (c::cs) o5 g5 w5,
  fun o5 g5 w5=>∃tm wA,Nu ar (pr D ord old (DW Fin o w) (w.heap.size+1) (w.heap.size+2) m0 T0) wA (G ((base 74).at ⟨tm,[]⟩ (.inRegion #[{dst:=some 20,op:=.call {callee:=.value (.func 117),args:=#[.tmp 2],argTypes:=#[216]},type:=0,pos:= "build.go:82",after:=#[],guard:=none}] []::[])) (c::cs)) o5 g5 w5,
  fun _=>False,rfl,rfl,(XZ m0 T0 hm).ok,QQ,?_,rfl,?_,?_,fun _ hb=>hb.elim,?_,?_,?_,?_,?_⟩
 ·show D.n<2147483648;have:=h.gT;omega
 ·rintro o5 g5 w5 ⟨tm,wA,hA⟩;exact(J9 yZ (XZ m0 T0 hm).ok g5 w5 hA).mono fun _ _ _=>OX.mono (fun o g w x=>⟨tm,wA,x⟩) (fun o g w x=>⟨_,wA,x⟩)
 ·have hS:=XZ m0 T0 hm;have hT:=hS.ok;show iC ar _ _ _ _ D.n _ _ w3;generalize hTm:pr D ord old (DW Fin o w) (w.heap.size+1) (w.heap.size+2) m0 T0=T at *;have hTn:T.n=D.n:=hS.n;have hTW:T.Wg=w.heap.size+1:=by rw[<- hTm];rfl
  have hTH:T.H0=w.heap.size+2:=by rw[<- hTm];rfl
  have hTy:T.ty=216:=hS.ty;have wT:WgLive T.ty T.Wg w3:=⟨0,0,by rw[hTy,hTW];show w3.heap[w.heap.size+1]?=_;rw[e3];exact nU⟩;obtain⟨Stop,HT⟩:∃Stop:dV,∀o5 g5 w5,cM ar T Stop o5 g5 w5↔iC ar T (Vd D ord res) (wS D ord old res) (fun o5 g5 w5=>∃tm wA,DX link T wA ((base 74).at ⟨tm,[]⟩ (.inRegion #[{dst:=some 20,op:=.call {callee:=.value (.func 117),args:=#[.tmp 2],argTypes:=#[216]},type:=0,pos:= "build.go:82",after:=#[],guard:=none}] (0::[])::[])) (c::cs) o5 g5 w5) D.n o5 g5 w5:=by
   cases D.n
   ·exact⟨_,fun _ _ _=>cG⟩
   ·exact⟨_,fun _ _ _=>cG⟩
  rw[<- HT];have W4:=mH (P:=ar) (T:=T) (Stop:=Stop);refine W4.go rfl (fun _=>ax) ?_;refine W4.go rfl (fun _=>ax) ?_;refine W4.go rfl (fun _=>aV) ?_;refine dp ?_;have c0:∀w5,dc T (fun _=>False) w3 w5->w5.cell? ⟨w.heap.size,0,none⟩=some (.pointer (some ⟨D.bn,0,none⟩)):=fun w5 r5=>by rw[hS.qB.cellS r5];exact hS.box
  have c1:∀w5,dc T (fun _=>False) w3 w5->w5.cell? ⟨D.bn,0,none⟩=some (.pointer (some ⟨D.Lb,D.Lo,none⟩)):=fun w5 r5=>by rw[hS.dk.Cx.cellS r5];exact hS.DI.b0
  have c2:∀w5,dc T (fun _=>False) w3 w5->w5.cell? ⟨D.Lb,D.Lo+1,none⟩=some (.slice (some ⟨Ob,0,none⟩) D.n D.n):=fun w5 r5=>by rw[hS.dk.XJ.cellS r5];exact hS.order
  (refine still_at W4 c0 rfl ai qh (fun w9 hc=>⟨.refl _ _,fun e he=>?_⟩) fun w9 hc K hK=>?_;(focus (rw[bS];have he:=mem_listed he;simp[go_sem, *] at he;subst he;exact tN hS.qB));go_simp;refine hK _ ?_;clear hK K;clear hc w9;try walk_nrm)
  refine gA ?_
  (refine still_at W4 c1 rfl ai qh (fun w9 hc=>⟨.refl _ _,fun e he=>?_⟩) fun w9 hc K hK=>?_;(focus (rw[bS];have he:=mem_listed he;simp[go_sem, *] at he;subst he;exact tN hS.dk.Cx));go_simp;refine hK _ ?_;clear hK K;clear hc w9;try walk_nrm)
  refine gA ?_
  (refine still_at W4 c2 rfl ai qh (fun w9 hc=>⟨.refl _ _,fun e he=>?_⟩) fun w9 hc K hK=>?_;(focus (rw[bS];have he:=mem_listed he;simp[go_sem, *] at he;subst he;exact tN hS.dk.XJ));go_simp;refine hK _ ?_;clear hK K;clear hc w9;try walk_nrm)
  refine gA ?_;refine W4.go rfl (fun _=>ak) ?_;refine W4.go rfl (fun _=>eB) ?_;refine W4.go rfl (fun _=>jj) ?_;rw[HT];refine HR hS fo (base 74) [] (c::cs) rfl qh (fun o5 w5 tm r5 l5 ho5 ft t2=>?_) D.n 0 hTn.symm _ w3 _ (dc.refl _) wT (fun _ hb=>hb.elim) (by rw[hTH,e3,A4];exact ag _) rfl rfl (by rw[hTW];rfl) rfl rfl rfl;have W5:=mH (P:=ar) (T:=T) (Stop:=OY ar T (fun o5 g5 w5=>∃tm wA,DX link T wA ((base 74).at ⟨tm,[]⟩ (.inRegion #[{dst:=some 20,op:=.call {callee:=.value (.func 117),args:=#[.tmp 2],argTypes:=#[216]},type:=0,pos:= "build.go:82",after:=#[],guard:=none}] (0::[])::[])) (c::cs) o5 g5 w5));obtain⟨gs,rfl⟩:=fA ft;simp only[List.range,List.range.loop,bU,oe] at *;simp only[List.getElem?_toArray,List.getElem?_cons_succ,List.getElem?_cons_zero,en] at t2;simp only[t2];refine W5.go rfl (fun _=>aV) ?_;refine dp ?_;refine W5.go rfl (fun w1=>pj rfl ai qh rfl yZ.f_wait (nm_wait link) rfl w1) ?_;rw[ij yZ.f_wait rfl];simp only[List.map_toArray,bU,oe,Act.eval];walk_nrmf waitFn;have hA:=@Ka _ link ar T o5 w5;simp only[body_wait,waitFn,y7] at hA;exact(hA yZ (fun b hb=>(ho5 b hb).1) w5 ⟨dc.refl w5,l5⟩).mono fun _ _ _=>OY.mono fun o g w x=>⟨_,w5,x⟩
 ·show w.heap.size+2<=w3.heap.size;rw[e3,A4];exact ag _
 ·show w3.heap[w.heap.size+1]?=_;rw[e3];exact nU
 ·exact fun k hk=>(NU.nZ _ (h.pI k hk)).2.2.2
 ·exact fun k hk kY=>NU.idle _ (h.pI k hk)
 ·rintro o5 g5 w5 ⟨tm,wA,-,n5,hgo⟩ aa3 hrel eH M8 uh;have alF:w.heap.size+2<=w5.heap.size:=by have:=hrel.size;rw[e3,A4] at this;exact this
  have hold:∀b,b<w.heap.size->b≠D.Rb->b≠D.Nb->(∀s,s<D.n->b≠D.ch s)->w5.heap[b]?=w.heap[b]?:=fun b h1 h2 h3 h4=>by
   rw[hrel.ro b (show b<w.heap.size+2 by omega) (show b≠w.heap.size+1 by omega) (fun e=>e.elim h2 h3) (fun k hk=>h4 _ (h.pI k hk)),e3,pE b h1]
  have cm:∀s,s<D.n->∃oi:Nat->Prop,mL D s (old s) (dA D res s) (res s) oi w5/\∀b,oi b->w.heap.size+2<=b/\b<w5.heap.size:=fun s hs=>by
   obtain⟨i,hi,rfl⟩:=h.XV s hs;obtain⟨-,oi,C,hv,ho⟩:=aa3 i hi;exact⟨_,hv.2,fun b hb=>ho b hb.1⟩
  have X0:∃cs,w5.heap[D.Rb]?=some (.cells cs 222 (0,0))/\cs.size=D.n*4:=by
   obtain⟨cs,k1,k2⟩:=NU.R0;obtain⟨c1,k3,k4⟩:=M8 D.Rb cs _ _ (.inl rfl) k1;exact⟨c1,k3,aa⟩
  have hN5:∃cs,w5.heap[D.Nb]?=some (.cells cs 4 (0,0))/\cs.size=D.n:=by
   obtain⟨cs,k1,k2⟩:=NU.N0;obtain⟨c1,k3,k4⟩:=M8 D.Nb cs _ _ (.inr rfl) k1;exact⟨c1,k3,aa⟩
  have aa4:∀s,s<D.n->∃c s' r tm,w5.heap[D.ch s]?=some (.chan 0 #[] c s' r tm):=fun s hs=>by
   obtain⟨i,hi,rfl⟩:=h.XV s hs;exact uh i hi
  let o':aM:=fun b=>o b\/∃s,s<D.n/\w.heap.size+2<=b/\b<w5.heap.size/\(∀B,old s≠some (B,dA D res s))/\eM w5 b (dA D res s)/\uQ D s w5 b (dA D res s) (res s);have QR:∀s,s<D.n->mL D s (old s) (dA D res s) (res s) (fun b=>o' b/\w.heap.size<=b) w5:=fun s hs=>by
   obtain⟨oi,hr,ho⟩:=cm s hs;rcases hr with⟨B,k1,k2,k3⟩|⟨k1,A,k2,k3,k4,k5⟩
   ·exact .inl ⟨B,k1,k2,k3⟩
   ·have:=ho A k2;exact .inr ⟨k1,A,⟨.inr ⟨s,hs,this.1,this.2,k1,k3,k4⟩,aa⟩,k3,k4,k5⟩
  have X1:QP D res old o w o' w5:={
   more:=fun b hb=>.inl hb
   new:=fun b hb=>hb.imp id fun⟨s,_,h1,_⟩=>aa
   same:=hold
   runs:=QR
   R0:=X0
   N0:=hN5
   nZ:=aa4
   size:=aa
   os:=by rw[hrel.os,e3o.1,WH.1]
   output:=by rw[hrel.output,e3o.2,WH.2]}
  have aa5:bE ar L o' w5:=by
   have up:∀f,(lR ar L o').has f->(lR ar L o).has f:=fun f hf=>⟨hf.inj,fun r hr=>hf.at_ r (.inl hr),hf.fn,hf.jF⟩;refine⟨fun b hb=>?_,fun b hb=>.inl (hF.jF b hb),by have:=hF.size;omega⟩;rcases hb with hb|⟨s,hs,h1,h2,_,h3,_⟩
   ·by_cases hbR:b=D.Rb
    ·subst hbR;obtain⟨cs5,k1,k2⟩:=X0;refine⟨_,k1,rfl,fun f hf=>rq fun j hj=>?_⟩;have hq:j/4<D.n:=aa;have hrw:∃B,uQ D (j/4) w5 B (dA D res (j/4)) (res (j/4))/\o' B:=by
      rcases QR _ hq with⟨B,m1,m2,-⟩|⟨-,A,m1,-,m2,-⟩
      ·exact⟨B,m2,.inl (h.still B (.inr (.inr (.inr (.inr (.inr (.inr (.inr (.inr ⟨_,_,hq,m1⟩))))))))).1⟩
      ·exact⟨A,m2,m1.1⟩
     obtain⟨B,m1,m2⟩:=hrw;have fy:j=j/4*4\/j=j/4*4+1\/j=j/4*4+2\/j=j/4*4+3:=aa;have hBf:f.b B=B:=hf.at_ B m2;have key:∀v,w5.cell? ⟨D.Rb,j,none⟩=some v->val f v=v->val f cs5[j]=cs5[j]:=fun v hv=>tj hv k1 hj;rcases fy with e|e|e|e
     ·exact key _ (by rw[e];exact m1.c0) an
     ·exact key _ (by rw[e];exact m1.c1) (by simp[val,addr,hBf])
     ·exact key _ (by rw[e];exact m1.c2) an
     ·exact key _ (by rw[e];exact m1.c3) an
    ·by_cases hbN:b=D.Nb
     ·subst hbN;obtain⟨cs5,k1,k2⟩:=hN5;refine⟨_,k1,rfl,fun f hf=>rq fun j hj=>?_⟩;have hq:j<D.n:=aa;rcases QR _ hq with⟨B,_,_,m2⟩|⟨_,A,_,_,_,m2⟩
      ·exact tj m2 k1 hj an
      ·exact tj m2 k1 hj an
     ·by_cases Y1:∃s,s<D.n/\b=D.ch s
      ·obtain⟨s,hs,rfl⟩:=Y1;obtain⟨c,s',r,tm,k1⟩:=aa4 s hs;exact⟨_,k1,rfl,fun f _=>by simp[obj]⟩
      ·rw[hold b (bZ b hb) hbR hbN fun s hs e=>Y1 ⟨s,hs,e⟩];obtain⟨x,k1,k2,k3⟩:=hF.shut b hb;exact⟨x,k1,k2,fun f hf=>k3 f (up f hf)⟩
   ·obtain⟨x,k1,k2,k3⟩:=NR h3 (fun j _ f=>uN _ j f);exact⟨x,k1,k2,fun f _=>k3 f⟩
  have hX:XB ar Fin 0 o' (G ((base 74).at ⟨tm,[]⟩ (.inRegion #[{dst:=some 20,op:=.call {callee:=.value (.func 117),args:=#[.tmp 2],argTypes:=#[216]},type:=0,pos:= "build.go:82",after:=#[],guard:=none}] []::[])) (c::cs)) w5:=by
   refine W.go rfl (fun _=>ak) ?_;refine W.go rfl (fun _=>dG) ?_;refine W.go rfl (fun w6=>stepG_leave (b:=base 74) (v:=.tuple #[]) rfl rfl func74 (results_none af _ _).1 (results_none af _ _).2) ?_;exact hc _ o' w5 ⟨rfl,X1,aa5⟩
  have hX':zF ar (Hd Fin w2) 0 (fun b=>DW Fin o w b\/b=w.heap.size+1) (G ((base 74).at ⟨tm,[]⟩ (.inRegion #[{dst:=some 20,op:=.call {callee:=.value (.func 117),args:=#[.tmp 2],argTypes:=#[216]},type:=0,pos:= "build.go:82",after:=#[],guard:=none}] []::[])) (c::cs)) w5:=fun w6 h6=>by
   have hX6:=hX (XY.up aa) w6 h6;rw[EW (w:=w2) ⟨by rw[hrel.os,e3o.1],by rw[hrel.output,e3o.2]⟩] at hX6;refine hX6.less (fun b hb=>?_) fun b hb hx=>?_
   ·rcases hb with hb|rfl
    ·exact⟨by have:=hb.1;omega,fun hx=>hx.elim hb.2.1 fun⟨s,_,h1,_⟩=>by have:=hb.1;omega,hb.2.2⟩
    ·exact⟨aa,fun hx=>hx.elim L5 fun⟨s,_,h1,_⟩=>aa,fun hl=>by have:=XY _ hl;omega⟩
   ·obtain⟨dd,rfl⟩:=h6;have h1:b<w5.heap.size:=hx.1;have h2:w5.heap.size<=b:=hb;omega
  exact(zF.iT hgo hX').bx
end
end
section
variable {Fin:bH} {o:aM} {w:ae}
theorem wU(w:ae)(a:Addr)(v:Value):(w.setCell a v).heap.size=w.heap.size:=by simp[World.setCell]
theorem HV(ad:Addr):∀x∈(#[⟨.cell ad,false,true⟩,⟨.cell ad,true,true⟩]:Array Event),x.sync=true/\(∀g,x.loc≠.mark (.extern g))/\x.loc≠.mark .disable/\x.loc≠.mark .enable:=by
 intro x hx;simp at hx;rcases hx with rfl|rfl<;>simp
theorem wV(ad:Addr)(b:Bool):∀x∈(#[⟨.cell ad,b,true⟩]:Array Event),x.sync=true/\(∀g,x.loc≠.mark (.extern g))/\x.loc≠.mark .disable/\x.loc≠.mark .enable:=by
 intro x hx;simp at hx;subst hx;simp
theorem T9(K off:Nat)(VV:o K)(hc:w.cell? ⟨K,off,none⟩=some (.int .i32 0))(hz:w.frozen? ⟨K,off,none⟩=false):
  bp ar (XB ar Fin 0) 78 #[.pointer (some ⟨K,off,none⟩)] o w fun v o' w'=>v=.tuple #[]/\o'=o/\w'=w.setCell ⟨K,off,none⟩ (.int .i32 1):=by
 intro c cs Js;have W0:=bJ (P:=ar) (Fin:=Fin) (d:=0);have W1:=bJ (P:=ar) (Fin:=Fin) (d:=1);have qh:(base 78).kind≠.early:=by simp[base]
 rw[ij func78 rfl];walk_nrmf Tryz.f78;refine W0.go rfl (fun _=>ax) ?_;refine W0.go rfl (fun _=>aV) ?_;refine dp ?_;refine wD .disable (.inl rfl) rfl ai qh rfl func120 af af af af rfl (d':=1) ai ?_;walk_nrm;refine W1.go rfl (fun _=>ak) ?_;refine W1.go rfl (fun _=>ax) ?_;refine W1.go rfl (fun _=>ax) ?_;refine W1.go rfl (fun _=>aV) ?_;refine dp ?_;refine gA ?_;refine xX rfl ai qh rfl func121 af af af (e:=Extern.Atomic.casT (.int .i32)) af (v:=.bool true) (t:=fun w=>w.setCell ⟨K,off,none⟩ (.int .i32 1)) (evs:=#[⟨.cell ⟨K,off,none⟩,false,true⟩,⟨.cell ⟨K,off,none⟩,true,true⟩]) rfl (fun n=>rfl) (wU _ _ _) (fun n=>?_) (fun n=>?_) (HV _) ?_
 ·simp only[List.map_toArray,bU,oe,Act.eval];walk_nrm;rw[casT_eq];exact run_cas_hit_entry hc hz
 ·simp only[List.map_toArray,bU,oe,Act.eval];walk_nrm;rw[casT_eq,events_cas_hit_entry (w:=w.at n) hc hz];rfl
 walk_nrm;refine W1.go rfl (fun _=>ak) ?_;refine W1.go rfl (fun _=>dI (t:=true) rfl) ?_;simp only[if_true];refine W1.go rfl (fun _=>ax) ?_;refine W1.go rfl (fun _=>dI (t:=true) rfl) ?_;simp only[if_true];refine W1.go rfl (fun _=>ax) ?_;refine W1.go rfl (fun _=>aV) ?_;refine dp ?_;refine wD .enable (.inr rfl) rfl ai qh rfl func122 af af af af rfl (d':=0) ai ?_;walk_nrm;refine W0.go rfl (fun _=>ak) ?_;refine W0.go rfl (fun _=>aV) ?_;refine dp ?_;refine gA ?_;have Zf:(w.setCell ⟨K,off,none⟩ (.int .i32 1)).cell? ⟨K,off,none⟩=some (.int .i32 1):=World.cell?_setCell_same _ _ _ hc;have hcv:=fun n=>run_convert_to_unsafe (P:=ar) (w:=(w.setCell ⟨K,off,none⟩ (.int .i32 1)).at n) underlying225 underlying116 af Zf;have hce:=fun n es=>events_convert_to_unsafe (P:=ar) (w:=(w.setCell ⟨K,off,none⟩ (.int .i32 1)).at n) underlying225 underlying116 af Zf es;refine wE rfl ai qh (v:=.pointer (some ⟨K,off,none⟩)) rfl (fun n=>by simp[go_sem,hcv n]) (fun n x hx=>by simp[go_sem,hce n] at hx) ?_;walk_nrm;refine Bj .acquire (fun ad=>.inl ⟨ad,rfl⟩) rfl ai qh rfl func123 af af af af (ad:=⟨K,off,none⟩) aC rfl ?_;walk_nrm;refine W0.go rfl (fun _=>ak) ?_;refine W0.go rfl (fun _=>stepG_ret') ?_;refine W0.go rfl (fun w6=>stepG_leave (b:=base 78) (v:=.tuple #[]) rfl rfl func78 (results_none af _ _).1 (results_none af _ _).2) ?_;exact Js _ o _ ⟨rfl,rfl,rfl⟩
theorem yf(K off:Nat)(VV:o K)(hc:w.cell? ⟨K,off,none⟩=some (.int .i32 0))(hz:w.frozen? ⟨K,off,none⟩=false):
  bp ar (XB ar Fin 0) 45 #[.pointer (some ⟨K,off,none⟩)] o w fun v o' w'=>v=.tuple #[]/\o'=o/\w'=w.setCell ⟨K,off,none⟩ (.int .i32 1):=by
 have W0:=bJ (P:=ar) (Fin:=Fin) (d:=0);refine bA W0 func45 rfl ?_;walk_nrmf Tryz.f45;refine aA ?_;refine aF W0 rfl ai rfl func78 af rfl aC rfl ((T9 K off VV hc hz).mono ?_);rintro v o' w' ⟨rfl,rfl,rfl⟩;refine aA ?_;exact⟨.inl trivial,trivial,.tuple #[],fun w1=>results_none af _ _,an⟩
theorem NV(K off:Nat)(VV:o K)(hc:w.cell? ⟨K,off,none⟩=some (.int .i32 1))(hz:w.frozen? ⟨K,off,none⟩=false):
  bp ar (XB ar Fin 0) 79 #[.pointer (some ⟨K,off,none⟩)] o w fun v o' w'=>v=.tuple #[]/\o'=o/\w'=w.setCell ⟨K,off,none⟩ (.int .i32 0):=by
 intro c cs Js;have W0:=bJ (P:=ar) (Fin:=Fin) (d:=0);have W1:=bJ (P:=ar) (Fin:=Fin) (d:=1);have qh:(base 79).kind≠.early:=by simp[base]
 rw[ij func79 rfl];walk_nrmf Tryz.f79;have hcv:=fun n=>run_convert_to_unsafe (P:=ar) (w:=w.at n) underlying225 underlying116 af hc;have hce:=fun n es=>events_convert_to_unsafe (P:=ar) (w:=w.at n) underlying225 underlying116 af hc es;have sd:∀n,(w.at n).cell? ⟨K,off,none⟩=some (.int .i32 1):=fun n=>hc;refine W0.go rfl (fun _=>ax) ?_;refine W0.go rfl (fun _=>dI (t:=true) rfl) ?_;simp only[if_true];refine W0.go rfl (fun _=>ax) ?_;refine W0.go rfl (fun _=>aV) ?_;refine dp ?_;refine gA ?_;refine wE rfl ai qh (v:=.int .i32 1) rfl (fun n=>by simp[go_sem,sd n]) (fun n x hx=>by simp[go_sem,sd n] at hx;subst hx;exact⟨zY VV,an,an⟩) ?_;walk_nrm;refine W0.go rfl (fun _=>ak) ?_;refine W0.go rfl (fun _=>ax) ?_;refine W0.go rfl (fun _=>aV) ?_;refine dp ?_;refine gA ?_;refine wE rfl ai qh (v:=.pointer (some ⟨K,off,none⟩)) rfl (fun n=>by simp[go_sem,hcv n]) (fun n x hx=>by simp[go_sem,hce n] at hx) ?_;walk_nrm;refine Bj .releaseMerge (fun ad=>.inr ⟨ad,rfl⟩) rfl ai qh rfl func125 af af af af (ad:=⟨K,off,none⟩) aC rfl ?_;walk_nrm;refine W0.go rfl (fun _=>ak) ?_;refine W0.go rfl (fun _=>aV) ?_;refine dp ?_;refine wD .disable (.inl rfl) rfl ai qh rfl func120 af af af af rfl (d':=1) ai ?_;walk_nrm;refine W1.go rfl (fun _=>ak) ?_;refine W1.go rfl (fun _=>ax) ?_;refine W1.go rfl (fun _=>aV) ?_;refine dp ?_;refine gA ?_;refine xX rfl ai qh rfl func126 af af af (e:=Extern.Atomic.update (Op.intArith .add) .i32 true) af (v:=.int .i32 0) (t:=fun w=>w.setCell ⟨K,off,none⟩ (.int .i32 0)) (evs:=#[⟨.cell ⟨K,off,none⟩,false,true⟩,⟨.cell ⟨K,off,none⟩,true,true⟩]) rfl (fun n=>rfl) (wU _ _ _) (fun n=>?_) (fun n=>?_) (HV _) ?_
 ·simp only[List.map_toArray,bU,oe,Act.eval];walk_nrm;exact run_add_entry (v:=1) (d:=-1) hc hz
 ·simp only[List.map_toArray,bU,oe,Act.eval];walk_nrm;rw[events_add_entry (w:=w.at n) (v:=1) (d:=-1) hc hz];rfl
 walk_nrm;refine gA ?_;refine W1.go rfl (fun _=>ak) ?_;refine W1.go rfl (fun _=>ax) ?_;refine W1.go rfl (fun _=>ax) ?_;refine W1.go rfl (fun _=>aV) ?_;refine dp ?_;refine gA ?_;refine W1.go rfl (fun _=>ak) ?_;refine W1.go rfl (fun _=>dI (t:=false) aC) ?_;simp only[fl,if_false];refine W1.go rfl (fun _=>bY) ?_;refine W1.go rfl (fun _=>aV) ?_;refine dp ?_;refine wD .enable (.inr rfl) rfl ai qh rfl func122 af af af af rfl (d':=0) ai ?_;walk_nrm;refine W0.go rfl (fun _=>ak) ?_;refine W0.go rfl (fun _=>dG) ?_;refine W0.go rfl (fun w6=>stepG_leave (b:=base 79) (v:=.tuple #[]) rfl rfl func79 (results_none af _ _).1 (results_none af _ _).2) ?_;exact Js _ o _ ⟨rfl,rfl,rfl⟩
theorem HW(K off:Nat)(VV:o K)(hc:w.cell? ⟨K,off,none⟩=some (.int .i32 1))(hz:w.frozen? ⟨K,off,none⟩=false)(b:Frame)(tm:Array Value)(ds:List Deferred)(todo:List Item)(cs:List Frame)(h:XB ar Fin 0 o (G {b.at ⟨tm,ds⟩ todo with mode:=.returning} cs) (w.setCell ⟨K,off,none⟩ (.int .i32 0))):
  XB ar Fin 0 o (G {b.at ⟨tm,{target:=.fn (.func 46) #[],args:=#[.pointer (some ⟨K,off,none⟩)]}::ds⟩ todo with mode:=.returning} cs) w:=by
 have W0:=bJ (P:=ar) (Fin:=Fin) (d:=0);have qh:(baseD 46).kind≠.early:=by simp[baseD]
 refine W0.go rfl (fun w1=>stepG_unwind_enter rfl func46 af rfl) ?_;walk_nrmf Tryz.f46;refine W0.go rfl (fun _=>aV) ?_;refine dp ?_;refine gA ?_;refine W0.go rfl (fun w1=>pj rfl ai qh rfl func79 af rfl w1) ?_;simp only[List.map_toArray,bU,oe,Act.eval];walk_nrm;refine NV K off VV hc hz _ _ ?_;rintro v o' w' ⟨rfl,rfl,rfl⟩;rw[dF];simp only[List.getElem?_toArray,List.getElem?_cons_succ,List.getElem?_cons_zero,Option.bind_some];walk_nrm;refine W0.go rfl (fun _=>ak) ?_;refine W0.go rfl (fun _=>dG) ?_;exact W0.go rfl (fun w1=>stepG_leave_deferred rfl rfl func46 (results_none af _ _).1 (results_none af _ _).2 rfl) h
end
def L0(n:Nat):Bool:=[15,17,18,19,20,22,26,27,29,31,33,35,39,40,41,43,47,48,50,51,52,53,56,59,60,62,66,67,68,69,70,71,72,75,76,77,80,82,83,84,85,86,87,88,89,90,91,92,93,94,95,96,97,98,100,102,103,104,105,106,107,108,109,118,119,128,129,130,131,132,133,134,135,136,137,138,139,140,141,145,146,147,148,149,150,162,163,168,176,177,178,179,180,181,185,186,187,188,189,190,191,196,197,198,199,202,204,205,206,207,208,209,210,211,212,213,214,215,216,217,218,219,220,221,222,223,224,225,226,227,228,229,230,231,232,233,234,235,236,237,238,239,240,241,242,243,244,245,246,247,248,249,250,251,252,253,254,255,256,257,258,259,260,261,262,263].contains n
theorem QS:([15,17,18,19,20,22,26,27,29,31,33,35,39,40,41,43,47,48,50,51,52,53,56,59,60,62,66,67,68,69,70,71,72,75,76,77,80,82,83,84,85,86,87,88,89,90,91,92,93,94,95,96,97,98,100,102,103,104,105,106,107,108,109,118,119,128,129,130,131,132,133,134,135,136,137,138,139,140,141,145,146,147,148,149,150,162,163,168,176,177,178,179,180,181,185,186,187,188,189,190,191,196,197,198,199,202,204,205,206,207,208,209,210,211,212,213,214,215,216,217,218,219,220,221,222,223,224,225,226,227,228,229,230,231,232,233,234,235,236,237,238,239,240,241,242,243,244,245,246,247,248,249,250,251,252,253,254,255,256,257,258,259,260,261,262,263]:List Nat).all (TG ar L0 4 [224,262,263])=true:=af
theorem Ua(n:Nat)(hn:L0 n=true)(f:Rn)(hf:mC ar f)(hh:∀n,L0 n=true->f.h n=n)(args:Array Value):Rel ar f (iI L0 f) (callFunc n args) (callFunc n (args.map (val f))):=by
 obtain⟨fn,h1,-,h2⟩:=Af QS (List.contains_iff_mem.1 (by unfold L0 at hn;exact hn));rcases h2 with⟨h2,h3⟩|h2;rotate_left;simp only[gQ,aad,or_false] at h2;rcases h2 with rfl|rfl|rfl
 rotate_right
 ·exact DF h1 h2 h3 hn args
 ·exact nn func224 rfl af af rfl (hh _ af) args (GN _)
 ·exact nn func262 rfl af af rfl (hh _ af) args (we _)
 ·exact nn func263 rfl af af rfl (hh _ af) args (sM hf _ _ _)
theorem X2(hz:∀t i z,ar.info? t=some i->i.zero=some z->∀f:Rn,val f z=z):qf ar L0 4 where
 zero:=hz
 call:=fun n hn=>Ua n hn
 body:=fun n hn=>by
  obtain⟨fn,h1,h2,-⟩:=Af QS (List.contains_iff_mem.1 (by unfold L0 at hn;exact hn));exact⟨fn,h1,fun c hc=>by rw[hc] at h2;exact h2⟩
theorem QT:ar.globals.size=4:=af
theorem aX:qf ar L0 ar.globals.size:=by rw[QT];exact X2 D5
structure aL where
 out:ah
 eD:Int
 sa:Option Addr
 sl:Nat
 sc:Nat
def aL.cells(r:aL):List Value:=[.string r.out,.int .i64 r.eD,Value.slice r.sa r.sl r.sc]
def aL.agg(r:aL):Value:=.agg #[.string r.out,.int .i64 r.eD,Value.slice r.sa r.sl r.sc]
def dX(w:ae)(b:Nat)(rs:List aL):Prop:=∀i (h:i<rs.length),w.cell? ⟨b,i*3,none⟩=some (.string rs[i].out)/\w.cell? ⟨b,i*3+1,none⟩=some (.int .i64 rs[i].eD)/\w.cell? ⟨b,i*3+2,none⟩=some (.slice rs[i].sa rs[i].sl rs[i].sc)
section
variable {Fin:bH} {o:aM} {w:ae}
theorem BF:(ar.info? 42).map (fun i=>(i.zero,i.size,i.bytes))=some (some (.agg #[.string aN,.int .i64 0,.slice none 0 0]),3,48):=af
theorem grow_grow{o:aM}{w w1 w3 w4:ae}(h1:w.heap.size<=w1.heap.size)(h2:w3.heap.size=w1.heap.size)(h3:w3.heap.size<=w4.heap.size):grow (grow o w w1) w3 w4=grow o w w4:=by
 funext b;simp only[grow,eq_iff_iff];constructor
 ·rintro((h|h)|h)
  ·exact .inl h
  ·exact .inr aa
  ·exact .inr aa
 ·rintro(h|h)
  ·exact .inl (.inl h)
  ·by_cases hb:b<w1.heap.size
   ·exact .inl (.inr aa)
   ·exact .inr aa
theorem cQ{w w':ae}{lo:Nat}{e:TypeId}{sz:Nat}{v:Value}{n:Nat}{xs:List Value}(h:w.ownsRow lo e sz v n xs)(hh:∀g,some g=v.ownBlock->lo<=g->w'.heap[g]?=w.heap[g]?):w'.ownsRow lo e sz v n xs:=by
 obtain⟨h1,h2⟩:=h;refine⟨h1,h2.imp id ?_⟩;rintro⟨g,cap,cur,rfl,k1,k2,k3⟩;exact⟨g,cap,cur,rfl,k1,by rw[hh g rfl k1];exact k2,k3⟩
theorem gm{P:Program}{o:Oper}{a:Act}{w w':ae}{v xv v':Value}(s x:Operand)(t:TypeId)(ho:o.op=.call {callee:=.builtin .append,args:=#[s,x],argTypes:=#[t,t]})(hs:a.eval s=v)(hx:a.eval x=xv)(hr:(Builtin.append_ #[t,t] o.type #[v,xv]).run P w=.ok v' w'):(execOp a.eval o).run P w=.ok (.value v') w':=by
 unfold execOp;simp only[ho,resolve,invoke,builtin,Sem.run_bind,Sem.run_pure,Result.andThen_ok,List.map_toArray,bU,oe,hs,hx,hr]
structure Round(w w':ae)(Bx l lo i:Nat)(v v':Value)(xs:List Value)(r:aL)(lr:Loop):Prop where
 size:w.heap.size<=w'.heap.size
 old:∀b,b<w.heap.size->b≠Bx->b≠l->some b≠v.ownBlock->w'.heap[b]?=w.heap[b]?
 box:w'.heap[Bx]?=some (.cells #[v'] 35 (0,0))
 Ub:w'.heap[l]?=some (.loop {lr with state:=.ready,pending:=none})
 row:w'.ownsRow lo 42 3 v' (i+1) (xs++r.cells)
theorem Uc(hF:bE ar L0 o w)(Bx l lo i:Nat)(v:Value)(xs:List Value)(r:aL)(lr:Loop)(hi:i<8)(hBx:o Bx)(hl:o l)(cV:Bx≠l)(hb:w.heap[Bx]?=some (.cells #[v] 35 (0,0)))(QI:w.heap[l]?=some (.loop lr))(dW:lr.state=.ready)(uL:lo<=w.heap.size)(hBb:Bx<lo)(hlb:l<lo)(eH:∀b,lo<=b->b<w.heap.size->o b)(b6:w.ownsRow lo 42 3 v i xs)(eY:Cl ar L0 o (.slice r.sa r.sl r.sc)){r0 r1 tl Nv bd:Code}{x:Operand}{ps:Array Tmp}(fo:Tryz.f203.body=some (.seq r0 (.seq (.seq r1 (.block 0 (.rangeFunc x ps Nv bd))) tl)))(tm:Array Value)(ft:tm.size=13)(t2:tm[2]?=some (.pointer (some ⟨Bx,0,none⟩)))(t7:tm[7]?=some r.agg)(c:Frame)(cs:List Frame)(h:∀v' w',Round w w' Bx l lo i v v' xs r lr->bE ar L0 (grow o w w') w'->XB ar Fin 0 (grow o w w') (G (c.finish (.bool true)) cs) w'):
  XB ar Fin 0 o (G (Frame.round l 203 tm Nv bd .normal) (c::cs)) w:=by
 have TY:=fo;simp only[Tryz.f203,en,Code.seq.injEq,Code.block.injEq,Code.rangeFunc.injEq,true_and] at TY;obtain⟨-,⟨-,-,-,rfl,rfl⟩,-⟩:=TY;have W:=bJ (P:=ar) (Fin:=Fin) (d:=0);obtain⟨gs,rfl⟩:=fA ft;simp only[List.range,List.range.loop,bU,oe] at *;simp only[List.getElem?_toArray,List.getElem?_cons_succ,List.getElem?_cons_zero,en] at t2 t7;simp only[t2,t7];rw[round_eq];have qZ:∀{x:Op},(∀c,x≠.defer c)->∀c,x≠.defer c:=fun h=>h;refine W.go rfl (fun _=>wF) ?_;refine dp ?_;refine zZ aX hF rfl (fun w1 v w' hr=>nC rfl ai an hr rfl) ai kp (R:=fun wl v aI=>v=.pointer (some ⟨wl.heap.size,0,none⟩)/\aI=wl.alloc (Obj.cells #[.string aN,.int .i64 0,.slice none 0 0] 42)) (fun wl aE=>⟨_,_,by simp[go_sem];rfl,rfl,rfl⟩) fun wl v1 aI w1 aE hR ba=>?_;obtain⟨rfl,hR⟩:=hR;obtain⟨z1,k1,k2⟩:=ba.alloc hF aE hR;have mw:=ba.ay;rw[aE.size];clear hR ba aE wl aI;walk_nrm;have NW:grow o w w1 w.heap.size:=.inr ⟨ag _,aa⟩;have Ud:Cl ar L0 (grow o w w1) r.agg:=cJ (vs:=[.string r.out,.int .i64 r.eD,Value.slice r.sa r.sl r.sc]) (by
  intro y hy;simp at hy;rcases hy with rfl|rfl|rfl
  ·exact bf
  ·exact bN
  ·exact eY.up iK)
 have bZ:∀b,o b->b<w.heap.size:=fun b hb=>hF.lt hb;have aa7:=bZ Bx hBx;have afi:=bZ l hl;refine Bm aX mw rfl (fun w1 w' hr=>Bo rfl ai an hr rfl) ai ?_ (R:=fun wl aI=>aI=((wl.setCell ⟨w.heap.size,0,none⟩ (.string r.out)).setCell ⟨w.heap.size,1,none⟩ (.int .i64 r.eD)).setCell ⟨w.heap.size,2,none⟩ (Value.slice r.sa r.sl r.sc)) (fun wl aE=>?_) fun wl aI w2 aE hR ba=>?_
 ·intro y hy;simp[Op.operands] at hy;rcases hy with rfl|rfl
  ·exact aH NW
  ·simp[Act.eval];exact Ud
 ·have hx:wl.heap[w.heap.size]?=some (Obj.cells #[.string aN,.int .i64 0,.slice none 0 0] 42):=(aE.heap _ NW).trans k2;refine⟨_,?_,rfl⟩;have c0:wl.cell? ⟨w.heap.size,0,none⟩=some (.string aN):=by simp[World.cell?,hx]
  have c1:wl.cell? ⟨w.heap.size,1,none⟩=some (.int .i64 0):=by simp[World.cell?,hx]
  have c2:wl.cell? ⟨w.heap.size,2,none⟩=some (.slice none 0 0):=by simp[World.cell?,hx]
  have f:∀j,wl.frozen? ⟨w.heap.size,j,none⟩=false:=fun j=>by simp[World.frozen?,hx]
  simp[go_sem,aL.agg,c0,c1,c2,f]
 obtain⟨z2,m1,m2,e2⟩:=ba.store aE NW (by rw[hR];simp[World.setCell]) (fun b hb=>by rw[hR,RowKit.Below.heap_setCell _ _ _ b hb,RowKit.Below.heap_setCell _ _ _ b hb,RowKit.Below.heap_setCell _ _ _ b hb]);have m2':w2.heap[w.heap.size]?=some (Obj.cells #[.string r.out,.int .i64 r.eD,Value.slice r.sa r.sl r.sc] 42):=by
  have hx:wl.heap[w.heap.size]?=some (Obj.cells #[.string aN,.int .i64 0,.slice none 0 0] 42):=(aE.heap _ NW).trans k2;rw[m2,hR];simp[World.setCell,er,hx]
 have rh:=ba.ay;rw[e2] at rh |-;clear hR ba aE wl aI m2;walk_nrm;refine W.go rfl (fun _=>qp) ?_;have L6:w2.heap[l]?=some (.loop lr):=by rw[m1 l aa,k1 l afi];exact QI
 have pE:w2.heap[Bx]?=some (.cells #[v] 35 (0,0)):=by rw[m1 Bx aa,k1 Bx aa7];exact hb
 refine qq (t:=fun w=>cX w l {lr with state:=.busy}) (l:=l) rfl (fun n=>Hm (w:=w2.at n) L6 dW) (by simp[cX]) ?_;have qu:bE ar L0 (grow o w w1) (cX w2 l {lr with state:=.busy}):=oB rh rfl (fun f=>by simp[obj]) (.inl hl);have aa8:(cX w2 l {lr with state:=.busy}).heap[l]?=some (.loop {lr with state:=.busy}):=by
  simp only[cX];rw[bR aa]
 have m3:∀b,b≠l->(cX w2 l {lr with state:=.busy}).heap[b]?=w2.heap[b]?:=fun b hb=>by simp only[cX];rw[aJ (bc hb)]
 have z3:(cX w2 l {lr with state:=.busy}).heap.size=w2.heap.size:=by simp[cX]
 generalize cX w2 l {lr with state:=.busy}=w3 at *;refine W.go rfl (fun _=>Hl) ?_;refine W.go rfl (fun _=>wF) ?_;refine dp ?_;have hoB:grow o w w1 Bx:=.inl hBx;have vE:w3.heap[Bx]?=some (.cells #[v] 35 (0,0)):=(m3 Bx cV).trans pE;have C2:w3.heap[w.heap.size]?=some (Obj.cells #[.string r.out,.int .i64 r.eD,.slice r.sa r.sl r.sc] 42):=(m3 _ aa).trans m2';refine xZ aX qu rfl (fun w1 v w' hr=>nC rfl ai an hr rfl) ai (v:=v) ?_ (fun wl aE=>?_) fun Ue=>?_
 ·intro y hy;simp[Op.operands] at hy;subst hy;exact aH hoB
 ·have hx:=(aE.heap _ hoB).trans vE;have c0:wl.cell? ⟨Bx,0,none⟩=some v:=by simp[World.cell?,hx]
  simp[go_sem,c0]
 walk_nrm;refine xZ aX qu rfl (fun w1 v w' hr=>nC rfl ai an hr rfl) ai (v:=r.agg) ?_ (fun wl aE=>?_) fun _=>?_
 ·intro y hy;simp[Op.operands] at hy;subst hy;exact aH NW
 ·have hx:=(aE.heap _ NW).trans C2;have c0:wl.cell? ⟨w.heap.size,0,none⟩=some (.string r.out):=by simp[World.cell?,hx]
  have c1:wl.cell? ⟨w.heap.size,1,none⟩=some (.int .i64 r.eD):=by simp[World.cell?,hx]
  have c2:wl.cell? ⟨w.heap.size,2,none⟩=some (.slice r.sa r.sl r.sc):=by simp[World.cell?,hx]
  simp[go_sem,c0,c1,c2,aL.agg]
 walk_nrm;have alJ:bE ar L0 (grow o w w1) w3:=qu;refine zZ aX qu rfl (fun w1 v w' hr=>nC rfl ai an hr rfl) ai ?_ (R:=fun wl v aI=>v=.slice (some ⟨wl.heap.size,0,none⟩) 1 1/\aI=wl.alloc (Obj.cells #[.string r.out,.int .i64 r.eD,.slice r.sa r.sl r.sc] 42)) (fun wl aE=>⟨_,_,?_,rfl,rfl⟩) fun wl v1 aI w4 aE hR ba=>?_
 ·intro y hy;simp[Op.operands] at hy;subst hy;simp[Act.eval];exact Ud
 ·simp[go_sem,aL.agg]
 obtain⟨rfl,hR⟩:=hR;obtain⟨z4,n1,n2⟩:=ba.alloc qu aE hR;have D9:=ba.ay;rw[aE.size];clear hR ba aE wl aI;walk_nrm;have g4:grow (grow o w w1) w3 w4=grow o w w4:=grow_grow aa aa aa;rw[g4] at D9 |-;have hw4:w.heap.size<=w4.heap.size:=aa;have QU:∀b,b<w.heap.size->b≠l->w4.heap[b]?=w.heap[b]?:=fun b hb Uf=>by rw[n1 b aa,m3 b Uf,m1 b aa,k1 b hb]
 have LY:w4.ownsRow lo 42 3 v i xs:=cQ b6 fun g hg QV=>by
  obtain⟨hlen,fy⟩:=b6;rcases fy with⟨rfl,_⟩|⟨g',cap,cur,rfl,h1,h2,_⟩
  ·cases hg
  ·cases hg;exact QU _ (Array.getElem?_eq_some_iff.1 h2).1 aa
 have aa9:Cl ar L0 (grow o w w4) v:=by rw[<- g4];exact Ue.up iK
 have hoN:grow o w w4 w3.heap.size:=.inr ⟨aa,aa⟩;have aba:∀g,some g=v.ownBlock->grow o w w4 g:=fun g hg=>by
  obtain⟨hlen,fy⟩:=b6;rcases fy with⟨rfl,_⟩|⟨g',cap,cur,rfl,h1,h2,_⟩
  ·cases hg
  ·cases hg;exact .inl (eH _ h1 (Array.getElem?_eq_some_iff.1 h2).1)
 obtain⟨ie,hie,Ug⟩:=Option.map_eq_some_iff.1 BF;simp only[WS] at Ug;refine zZ aX D9 rfl (fun w1 v w' hr=>nC rfl ai an hr rfl) ai ?_ (R:=fun wl v' aI=>aI.ownsRow lo 42 3 v' (i+1) (xs++r.cells)/\wl.grownBy aI v.ownBlock) (fun wl aE=>?_) fun wl v5 aI w5 aE hR ba=>?_
 ·intro y hy;simp[Op.operands,Call.operands] at hy;rcases hy with rfl|rfl
  ·simp[Act.eval];exact aa9
  ·simp[Act.eval];exact di hoN
 ·have hx:=(aE.heap _ hoN).trans n2;have VW:wl.ownsRow lo 42 3 v i xs:=cQ LY fun g hg _=>aE.heap g (aba g hg);have HX:∀j u,r.cells[j]?=some u->wl.cell? ((⟨w3.heap.size,0,none⟩:Addr).add j)=some u:=fun j u hu=>by
   rcases(show j=0\/j=1\/j=2\/3<=j by omega) with rfl|rfl|rfl|hj
   ·simp[aL.cells] at hu;subst hu;simp[Addr.add,World.cell?,hx]
   ·simp[aL.cells] at hu;subst hu;simp[Addr.add,World.cell?,hx]
   ·simp[aL.cells] at hu;subst hu;simp[Addr.add,World.cell?,hx]
   ·rw[List.getElem?_eq_none (by simp[aL.cells];omega)] at hu;cases hu
  have abb:∀u∈r.cells,u.oneCell'=true:=by
   intro u hu;simp[aL.cells] at hu;rcases hu with rfl|rfl|rfl<;>rfl
  obtain⟨v',aI,e1,e2,e3,_⟩:=run_append_own wl lo 35 35 42 ie _ 3 48 underlying35 hie Ug.1 Ug.2.1 Ug.2.2 rfl aa v i xs VW ⟨w3.heap.size,0,none⟩ 1 1 r.cells rfl HX abb (by simp[maxLen];omega) aa (by rw[aE.size];omega);exact⟨v',aI,gm (.tmp 8) (.tmp 10) 35 rfl aC aC e1,e2,e3⟩
 have g5:grow (grow o w w4) w4 w5=grow o w w5:=grow_grow hw4 rfl ba.gO;have SQ:=ba.ay;have hs5:=ba.same;have SP:=ba.rest;have z5:=ba.gO;rw[g5] at SQ hs5 |-;obtain⟨wQ,CS⟩:=hR;have abd:∀b,b<w.heap.size->b≠l->some b≠v.ownBlock->w5.heap[b]?=w.heap[b]?:=fun b hb Uf X3=>by
  rw[<- QU b hb Uf];by_cases ho:grow o w w4 b
  ·rw[hs5 b (ho.imp id fun h=>⟨h.1,aa⟩),CS.block b (by rw[aE.size];omega) X3,aE.heap b ho]
  ·exact SP b aa ho
 have hvl:∀g,some g=v.ownBlock->lo<=g:=fun g hg=>by
  obtain⟨hlen,fy⟩:=b6;rcases fy with⟨rfl,_⟩|⟨g',cap,cur,rfl,h1,h2,_⟩
  ·cases hg
  ·cases hg;exact h1
 have QW:w5.ownsRow lo 42 3 v5 (i+1) (xs++r.cells):=cQ wQ fun g hg QV=>hs5 g (by
  obtain⟨hlen,fy⟩:=wQ;rcases fy with⟨rfl,_⟩|⟨g',cap,cur,rfl,h1,h2,_⟩
  ·cases hg
  ·have e:g=g':=aK hg;subst e;have h3:=(Array.getElem?_eq_some_iff.1 h2).1;have hz:=ba.size;by_cases hgw:g<w.heap.size
   ·exact .inl (eH _ h1 hgw)
   ·exact .inr ⟨aa,aa⟩)
 have afk:w5.heap[l]?=w3.heap[l]?:=by
  rw[hs5 l (.inl hl),CS.block l (by rw[aE.size];omega) (fun e=>by have:=hvl l e;omega),aE.heap l (.inl hl),n1 l aa]
 have afl:Cl ar L0 (grow o w w5) v5:=by have:=ba.val;rw[g5] at this;exact this
 have hb5:w5.heap[Bx]?=some (.cells #[v] 35 (0,0)):=by rw[abd Bx aa7 cV (fun e=>by have:=hvl Bx e;omega)];exact hb
 clear CS wQ aE ba wl aI hs5 SP g5 g4;walk_nrm;have Uh:grow o w w5 Bx:=.inl hBx;refine Bm aX SQ rfl (fun w1 w' hr=>Bo rfl ai an hr rfl) ai ?_ (R:=fun wl aI=>aI=wl.setCell ⟨Bx,0,none⟩ v5) (fun wl aE=>⟨_,?_,rfl⟩) fun wl aI w6 aE hR ba=>?_
 ·intro y hy;simp[Op.operands] at hy;rcases hy with rfl|rfl
  ·exact aH Uh
  ·simp[Act.eval];exact afl
 ·have hx:=(aE.heap _ Uh).trans hb5;have c0:wl.cell? ⟨Bx,0,none⟩=some v:=by simp[World.cell?,hx]
  have f:∀j,wl.frozen? ⟨Bx,j,none⟩=false:=fun j=>by simp[World.frozen?,hx]
  obtain⟨hlen,fy⟩:=QW;rcases fy with⟨rfl,_⟩|⟨g',cap,cur,rfl,h1,h2,_⟩
  ·simp[go_sem,c0,f]
  ·simp[go_sem,c0,f]
 obtain⟨z6,q1,q2,e6⟩:=ba.store aE Uh (by rw[hR];simp[World.setCell]) (fun b hb=>by rw[hR,RowKit.Below.heap_setCell _ _ _ b hb]);have q2':w6.heap[Bx]?=some (Obj.cells #[v5] 35):=by
  have hx:=(aE.heap _ Uh).trans hb5;rw[q2,hR];simp[World.setCell,er,hx]
 have C3:=ba.ay;rw[e6] at C3 |-;clear hR ba aE wl aI q2;walk_nrm;refine W.go rfl (fun _=>qp) ?_;refine W.go rfl (fun _=>CX) ?_;have abf:w6.heap[l]?=some (.loop {lr with state:=.busy}):=by rw[q1 l (bc cV),afk];exact aa8
 refine qq (t:=fun w=>cX w l {{lr with state:=.busy} with state:=.ready,pending:=none}) (l:=l) rfl (fun n=>Nw (w:=w6.at n) abf) (by simp[cX]) ?_;have Zr:bE ar L0 (grow o w w5) (cX w6 l {{lr with state:=.busy} with state:=.ready,pending:=none}):=oB C3 rfl (fun f=>by simp[obj]) (.inl hl);have g7:grow o w w5=grow o w (cX w6 l {{lr with state:=.busy} with state:=.ready,pending:=none}):=by
  have:(cX w6 l {{lr with state:=.busy} with state:=.ready,pending:=none}).heap.size=w5.heap.size:=by simp[cX];omega
  unfold grow;rw[this]
 rw[g7] at Zr |-;have q3:∀b,b≠l->(cX w6 l {{lr with state:=.busy} with state:=.ready,pending:=none}).heap[b]?=w6.heap[b]?:=fun b hb=>by simp only[cX];rw[aJ (bc hb)]
 refine h v5 _ ⟨?_,fun b h1 h2 h3 h4=>?_,?_,?_,?_⟩ Zr
 ·simp[cX];omega
 ·rw[q3 b h3,q1 b h2,abd b h1 h3 h4]
 ·rw[q3 Bx cV];exact q2'
 ·simp only[cX];rw[bR aa]
 ·refine cQ QW fun g hg QV=>?_;rw[q3 g aa,q1 g aa]
structure QX(o0:aM)(w0:ae)(Bx l rd lo:Nat)(lr:Loop)(rs:List aL)(i:Nat)(o:aM)(w:ae)(v:Value):Prop where
 own:o=grow o0 w0 w
 ay:bE ar L0 o w
 size:lo<=w.heap.size
 le:w0.heap.size<=w.heap.size
 old:∀b,b<lo->b≠Bx->b≠l->w.heap[b]?=w0.heap[b]?
 box:w.heap[Bx]?=some (.cells #[v] 35 (0,0))
 Ub:w.heap[l]?=some (.loop {lr with state:=.ready,pending:=none})
 row:w.ownsRow lo 42 3 v i ((rs.take i).flatMap aL.cells)
theorem HY(o0:aM)(w0:ae)(Bx l rd lo Ru c:Nat)(lr:Loop)(rs:List aL)(hn:rs.length<=8)(hBx:Bx<lo)(hl:l<lo)(cV:Bx≠l)(hBl:w0.heap.size<=lo)(hBo:o0 Bx)(uL:o0 l)(alP:lo=w0.heap.size)(xz:o0 Ru)(abg:Ru≠Bx/\Ru≠l)(xU:dX w0 Ru rs)(eY:∀r∈rs,Cl ar L0 o0 (.slice r.sa r.sl r.sc))(p:Option Addr)(hp:rs≠[]->p=some ⟨Ru,0,none⟩)(lf:lr.fn=203)(lp:lr.params=#[7])(lt:lr.tmps.size=13)(X4:lr.tmps[2]?=some (.pointer (some ⟨Bx,0,none⟩))){r0 r1 tl:Code}{x:Operand}{ps:Array Tmp}(fo:Tryz.f203.body=some (.seq r0 (.seq (.seq r1 (.block 0 (.rangeFunc x ps lr.assign lr.body))) tl))){q0 lq:Code}(X5:Tryz.f186.body=some (.seq q0 (.block 0 (.loop lq))))(cA:Frame)(cs:List Frame)(QK:∀o w v (tm:Array Value),QX o0 w0 Bx l rd lo lr rs rs.length o w v->XB ar Fin 0 o (G ((base 186).at ⟨tm,[]⟩ []) (cA::cs)) w):
  ∀r i,r+i=rs.length->∀o w v (tm:Array Value),QX o0 w0 Bx l rd lo lr rs i o w v->tm.size=16->tm[0]?=some (.func (.yield l) #[] #[])->tm[5]?=some (.slice p rs.length c)->tm[6]?=some (.int .i64 rs.length)->tm[7]?=some (.int .i64 i) ->
   XB ar Fin 0 o (G ((base 186).at ⟨tm,[]⟩ (.code lq :: .inLoop lq :: .inBlock 0::[])) (cA::cs)) w:=by
 have hlq:=X5;simp only[Tryz.f186,en,Code.seq.injEq,Code.block.injEq,Code.loop.injEq,true_and] at hlq;obtain⟨-,hlq⟩:=hlq;have W:=bJ (P:=ar) (Fin:=Fin) (d:=0);have qh:(base 186).kind≠.early:=by simp[base]
 intro r
 induction r with
 |zero =>
  intro i hi o w v tm I ft t0 t5 t6 t7;have hni:¬((i:Int)<(rs.length:Int)):=aa;obtain⟨gs,rfl⟩:=fA ft;simp only[List.range,List.range.loop,bU,oe] at *;simp only[List.getElem?_toArray,List.getElem?_cons_succ,List.getElem?_cons_zero,en] at t0 t5 t6 t7;simp only[t0,t5,t6,t7];rw[show(Item.code lq)=Item.code _ from congrArg Item.code hlq.symm];refine W.go rfl (fun _=>ax) ?_;refine W.go rfl (fun _=>aV) ?_;refine dp ?_;refine gA ?_;refine W.go rfl (fun _=>ak) ?_;refine W.go rfl (fun _=>ax) ?_;refine W.go rfl (fun _=>dI (t:=false) (by simp[Act.eval,hni])) ?_;simp only[fl,if_false];refine W.go rfl (fun _=>stepG_exit rfl) ?_;exact QK o w v _ (by rw[show rs.length=i by omega];exact I)
 |succ r ih =>
  intro i hi o w v tm I ft t0 t5 t6 t7;have bZ:i<rs.length:=aa;have hlI:(i:Int)<(rs.length:Int):=aa;obtain rfl:=hp (fun e=>by rw[e] at bZ;simp at bZ);have pO:IntKind.wrap .i64 ((i:Int)+1)=(i:Int)+1:=by rw[IntKind.wrap_i64];omega
  obtain⟨gs,rfl⟩:=fA ft;simp only[List.range,List.range.loop,bU,oe] at *;simp only[List.getElem?_toArray,List.getElem?_cons_succ,List.getElem?_cons_zero,en] at t0 t5 t6 t7;simp only[t0,t5,t6,t7];rw[show(Item.code lq)=Item.code _ from congrArg Item.code hlq.symm];refine W.go rfl (fun _=>ax) ?_;refine W.go rfl (fun _=>aV) ?_;refine dp ?_;refine gA ?_;refine W.go rfl (fun _=>ak) ?_;refine W.go rfl (fun _=>ax) ?_;refine W.go rfl (fun _=>dI (t:=true) (by simp[Act.eval,hlI])) ?_;simp only[if_true];refine W.go rfl (fun _=>bY) ?_;refine W.go rfl (fun _=>ax) ?_;refine W.go rfl (fun _=>eB) ?_;refine W.go rfl (fun _=>ax) ?_;refine W.go rfl (fun _=>aV) ?_;refine dp ?_;refine gA ?_;have mW:∀b,o0 b->o b:=fun b hb=>by rw[I.own];exact .inl hb
  have abi:Ru<lo:=by
   have:=(xU 0 aa).1;have h2:Ru<w0.heap.size:=by
    refine eP fun hh=>?_;rw[World.cell?,cb hh] at this;cases this
   omega
  have Jg:w.heap[Ru]?=w0.heap[Ru]?:=I.old Ru abi abg.1 abg.2;have Ui:Cl ar L0 o (.slice rs[i].sa rs[i].sl rs[i].sc):=(eY _ (aD bZ)).up mW;have Ud:Cl ar L0 o rs[i].agg:=cJ (vs:=[.string rs[i].out,.int .i64 rs[i].eD,.slice rs[i].sa rs[i].sl rs[i].sc]) (by
   intro y hy;simp at hy;rcases hy with rfl|rfl|rfl
   ·exact bf
   ·exact bN
   ·exact Ui)
  refine me aX I.ay rfl ai qh ai ?_ rfl (v:=rs[i].agg) (fun wl aE=>?_) fun _=>?_
  ·intro y hy;simp[Op.operands] at hy;subst hy;exact aH (mW _ xz)
  ·have hx:=(aE.heap _ (mW _ xz)).trans Jg;obtain⟨c0,c1,c2⟩:=xU i bZ;have d0:wl.cell? ⟨Ru,i*3,none⟩=some (.string rs[i].out):=(cell_of hx).trans c0;have d1:wl.cell? ⟨Ru,i*3+1,none⟩=some (.int .i64 rs[i].eD):=(cell_of hx).trans c1;have d2:wl.cell? ⟨Ru,i*3+2,none⟩=some (.slice rs[i].sa rs[i].sl rs[i].sc):=(cell_of hx).trans c2;simp[go_sem,d0,d1,d2,aL.agg]
  walk_nrm;generalize hri:rs[i]=ri at *;refine Bn aX I.ay rfl ai qh ai kp rfl (R:=fun wl v aI=>v=.pointer (some ⟨wl.heap.size,0,none⟩)/\aI=wl.alloc (Obj.cells #[.string aN,.int .i64 0,.slice none 0 0] 42)) (fun wl aE=>⟨_,_,by simp[go_sem];rfl,rfl,rfl⟩) fun wl v1 aI w1 aE hR ba=>?_;obtain⟨rfl,hR⟩:=hR;obtain⟨z1,k1,k2⟩:=ba.alloc I.ay aE hR;have mw:=ba.ay;rw[aE.size];clear hR ba aE wl aI;walk_nrm;have NW:grow o w w1 w.heap.size:=.inr ⟨ag _,aa⟩;refine yV aX mw rfl ai qh ai ?_ rfl (R:=fun wl aI=>aI=((wl.setCell ⟨w.heap.size,0,none⟩ (.string ri.out)).setCell ⟨w.heap.size,1,none⟩ (.int .i64 ri.eD)).setCell ⟨w.heap.size,2,none⟩ (.slice ri.sa ri.sl ri.sc)) (fun wl aE=>?_) fun wl aI w2 aE hR ba=>?_
  ·intro y hy;simp[Op.operands] at hy;rcases hy with rfl|rfl
   ·exact aH NW
   ·simp[Act.eval];exact Ud.up iK
  ·have hx:wl.heap[w.heap.size]?=some (Obj.cells #[.string aN,.int .i64 0,.slice none 0 0] 42):=(aE.heap _ NW).trans k2;refine⟨_,?_,rfl⟩;have c0:wl.cell? ⟨w.heap.size,0,none⟩=some (.string aN):=by simp[World.cell?,hx]
   have c1:wl.cell? ⟨w.heap.size,1,none⟩=some (.int .i64 0):=by simp[World.cell?,hx]
   have c2:wl.cell? ⟨w.heap.size,2,none⟩=some (.slice none 0 0):=by simp[World.cell?,hx]
   have f:∀j,wl.frozen? ⟨w.heap.size,j,none⟩=false:=fun j=>by simp[World.frozen?,hx]
   simp[go_sem,aL.agg,c0,c1,c2,f]
  obtain⟨z2,m1,m2,e2⟩:=ba.store aE NW (by rw[hR];simp[World.setCell]) (fun b hb=>by rw[hR,RowKit.Below.heap_setCell _ _ _ b hb,RowKit.Below.heap_setCell _ _ _ b hb,RowKit.Below.heap_setCell _ _ _ b hb]);have m2':w2.heap[w.heap.size]?=some (Obj.cells #[.string ri.out,.int .i64 ri.eD,.slice ri.sa ri.sl ri.sc] 42):=by
   have hx:wl.heap[w.heap.size]?=some (Obj.cells #[.string aN,.int .i64 0,.slice none 0 0] 42):=(aE.heap _ NW).trans k2;rw[m2,hR];simp[World.setCell,er,hx]
  have rh:=ba.ay;rw[e2] at rh |-;clear hR ba aE wl aI m2;walk_nrm;refine W.go rfl (fun _=>ak) ?_;refine W.go rfl (fun _=>ax) ?_;refine W.go rfl (fun _=>aV) ?_;refine dp ?_;refine gA ?_;refine me aX rh rfl ai qh ai ?_ rfl (v:=ri.agg) (fun wl aE=>?_) fun _=>?_
  ·intro y hy;simp[Op.operands] at hy;subst hy;exact aH NW
  ·have hx:=(aE.heap _ NW).trans m2';have c0:wl.cell? ⟨w.heap.size,0,none⟩=some (.string ri.out):=by simp[World.cell?,hx]
   have c1:wl.cell? ⟨w.heap.size,1,none⟩=some (.int .i64 ri.eD):=by simp[World.cell?,hx]
   have c2:wl.cell? ⟨w.heap.size,2,none⟩=some (.slice ri.sa ri.sl ri.sc):=by simp[World.cell?,hx]
   simp[go_sem,c0,c1,c2,aL.agg]
  walk_nrm;have hlw:l<w.heap.size:=by have:=I.size;omega
  have hBw:Bx<w.heap.size:=by have:=I.size;omega
  have L6:w2.heap[l]?=some (.loop {lr with state:=.ready,pending:=none}):=by rw[m1 l aa,k1 l hlw];exact I.Ub
  refine qq (t:=fun w=>w) (l:=l) rfl (fun n=>Hk (w:=w2.at n) (t:=7) rfl ai qh rfl aC rfl L6 lp) rfl ?_;have alT:w2.heap.size=w.heap.size+1:=aa;simp only[lf];refine Uc rh Bx l lo i v ((rs.take i).flatMap aL.cells) ri {lr with state:=.ready,pending:=none} aa (.inl (mW _ hBo)) (.inl (mW _ uL)) cV ?_ L6 rfl (by have:=I.size;omega) hBx hl ?_ ?_ (Ui.up iK) fo _ ?_ ?_ ?_ _ _ ?_
  ·rw[m1 Bx aa,k1 Bx hBw];exact I.box
  ·intro b h1 h2;by_cases hb:b<w.heap.size
   ·refine .inl ?_;rw[I.own];exact .inr ⟨aa,hb⟩
   ·exact .inr ⟨aa,aa⟩
  ·refine cQ I.row fun g hg QV=>?_;have hgw:g<w.heap.size:=by
    obtain⟨hlen,fy⟩:=I.row;rcases fy with⟨rfl,_⟩|⟨g',cap,cur,rfl,h1,h2,_⟩
    ·cases hg
    ·have e:g=g':=aK hg;subst e;exact(Array.getElem?_eq_some_iff.1 h2).1
   rw[m1 g aa,k1 g hgw]
  ·simp[lt]
  ·rw[aJ aa];exact X4
  ·rw[bR aa];simp[Act.eval]
  intro v' w' VX hF';have eg:grow (grow o w w1) w2 w'=grow o0 w0 w':=by
   rw[grow_grow aa z2 VX.size,I.own,grow_grow I.le rfl (by have:=VX.size;omega)]
  rw[eg] at hF' |-;rw[dF];walk_nrm;refine gA ?_;refine W.go rfl (fun _=>ak) ?_;refine W.go rfl (fun _=>dI (t:=false) aC) ?_;simp only[fl,if_false];refine W.go rfl (fun _=>bY) ?_;refine W.go rfl (fun _=>fR) ?_;refine W.go rfl (fun _=>aV) ?_;refine dp ?_;refine gA ?_;refine W.go rfl (fun _=>ak) ?_;refine W.go rfl (fun _=>ig) ?_;refine ih (i+1) aa _ _ v' _ ⟨rfl,hF',?_,?_,?_,VX.box,VX.Ub,?_⟩ rfl rfl rfl rfl ?_
  ·have:=VX.size;have:=I.size;omega
  ·have:=VX.size;have:=I.le;omega
  ·intro b h1 h2 h3;have hv:some b≠v.ownBlock:=fun e=>by
    obtain⟨hlen,fy⟩:=I.row;rcases fy with⟨rfl,_⟩|⟨g',cap,cur,rfl,h4,h5,_⟩
    ·cases e
    ·have e:b=g':=aK e;omega
   have gv:b<w.heap.size:=by have:=I.size;omega
   rw[VX.old b aa h2 h3 hv,m1 b aa,k1 b gv];exact I.old b h1 h2 h3
  ·rw[List.take_add_one,cp bZ,hri];simp only[List.flatMap_append,Option.toList_some,List.flatMap_cons,List.flatMap_nil,List.append_nil];exact VX.row
  ·simp
theorem HZ{P:Program}{L:Nat->Bool}{o:aM}{w:ae}(h:bE P L o w)(fn:FuncId)(tmps:Array Value)(ps:Array Tmp)(Nv bd:Code):
  bE P L (fun b=>(o b\/b=w.heap.size)\/b=w.heap.size+1) (l8 w fn tmps ps Nv bd)/\(l8 w fn tmps ps Nv bd).heap.size=w.heap.size+2/\(∀b,b<w.heap.size->(l8 w fn tmps ps Nv bd).heap[b]?=w.heap[b]?)/\(l8 w fn tmps ps Nv bd).heap[w.heap.size]?=some (.deferred (some [])) /\
   (l8 w fn tmps ps Nv bd).heap[w.heap.size+1]?=some (.loop {state:=.ready,pending:=none,fn:=fn,tmps:=tmps,params:=ps,assign:=Nv,body:=bd,defers:=w.heap.size}):=by
 refine⟨?_,by simp[l8],fun b hb=>?_,?_,?_⟩
 ·have h1:=h.alloc (x:=.deferred (some [])) rfl (fun f _=>by simp[obj]);have h2:=h1.alloc (x:=.loop {state:=.ready,pending:=none,fn:=fn,tmps:=tmps,params:=ps,assign:=Nv,body:=bd,defers:=w.heap.size}) rfl (fun f _=>by simp[obj]);simpa[l8] using h2
 ·simp only[l8,World.alloc];rw[cT eR,Array.getElem_push_lt aa];simp[hb]
 ·simp only[l8,World.alloc];rw[cT an,Array.getElem_push_eq]
 ·simp only[l8,World.alloc];rw[eZ,if_pos an]
theorem Uj{o0:aM}{w0:ae}{n:Nat}(hF:bE ar L0 o0 w0)(hz:w0.heap.size=n+3)(o1:o0 n)(o2:o0 (n+1))(o3:o0 (n+2))(XX:w0.heap[n]?=some (.cells #[.slice none 0 0] 35 (0,0)))(X6:w0.heap[n+1]?=some (.deferred (some [])))(lr:Loop)(hlr:w0.heap[n+2]?=some (.loop lr))(ls:lr.state=.ready)(lpe:lr.pending=none)(Sv Ru c:Nat)(p:Option Addr)(rs:List aL)(hn:rs.length<=8)(SS:o0 Sv)(hs:w0.cell? ⟨Sv,0,none⟩=some (.slice p rs.length c))(hp:rs≠[]->p=some ⟨Ru,0,none⟩)(xz:o0 Ru)(Uk:Ru<n)(xU:dX w0 Ru rs)(eY:∀r∈rs,Cl ar L0 o0 (.slice r.sa r.sl r.sc))(lf:lr.fn=203)(lp:lr.params=#[7])(lt:lr.tmps.size=13)(X4:lr.tmps[2]?=some (.pointer (some ⟨n,0,none⟩))){r0 r1 tl:Code}{x:Operand}{ps:Array Tmp}(fo:Tryz.f203.body=some (.seq r0 (.seq (.seq r1 (.block 0 (.rangeFunc x ps lr.assign lr.body))) tl)))(cf:Frame)(cs:List Frame)(h:∀v w',w'.heap.size>=n+3->bE ar L0 (grow o0 w0 w') w'->(∀b,b<n->w'.heap[b]?=w0.heap[b]?)->w'.ownsRow (n+3) 42 3 v rs.length (rs.flatMap aL.cells)->XB ar Fin 0 (grow o0 w0 w') (G (cf.finish v) cs) w'):
  XB ar Fin 0 o0 (G (Frame.enter ar 186 #[.func (.yield (n+2)) #[] #[],.pointer (some ⟨Sv,0,none⟩)] .normal) ((base 203).at ⟨lr.tmps,[{target:=.collected (n+1),args:=#[]}]⟩ [.inRangeFunc (n+2),.inBlock 0,.code tl]::cf::cs)) w0:=by
 have W:=bJ (P:=ar) (Fin:=Fin) (d:=0);have qh:(base 186).kind≠.early:=by simp[base]
 have abk:(base 203).kind≠.early:=by simp[base]
 have hs0:∃x,w0.heap[Sv]?=some x:=by obtain⟨x,k,_⟩:=hF.shut Sv SS;exact⟨x,k⟩
 rw[ij func186 rfl];walk_nrmf Tryz.f186;refine W.go rfl (fun _=>ax) ?_;refine W.go rfl (fun _=>aV) ?_;refine dp ?_;refine me aX hF rfl ai qh ai ?_ rfl (v:=.slice p rs.length c) (fun wl aE=>?_) fun _=>?_
 ·intro y hy;simp[Op.operands] at hy;subst hy;exact aH SS
 ·obtain⟨x,hx⟩:=hs0;have c0:wl.cell? ⟨Sv,0,none⟩=some (.slice p rs.length c):=(cell_of (aE.heap _ SS)).trans hs;simp[go_sem,c0]
 walk_nrm;refine gA ?_;refine W.go rfl (fun _=>ak) ?_;refine W.go rfl (fun _=>eB) ?_;refine W.go rfl (fun _=>jj) ?_;have afn:({lr with state:=.ready,pending:=none}:Loop)=lr:=by cases lr;simp only at ls lpe;subst ls;subst lpe;rfl
 refine HY o0 w0 n (n+2) (n+1) (n+3) Ru c lr rs hn aa aa aa aa o1 o3 hz.symm xz ⟨aa,aa⟩ xU eY p hp lf lp lt X4 fo rfl _ _ ?_ rs.length 0 rfl _ _ (.slice none 0 0) _ ⟨?_,hF,aa,ag _,fun _ _ _ _=>rfl,XX,?_,?_⟩ rfl rfl rfl rfl rfl;rotate_left
 ·funext b;simp only[grow,eq_iff_iff];constructor
  ·exact .inl
  ·rintro(h1|h1)
   ·exact h1
   ·omega
 ·rw[hlr,afn]
 ·exact⟨rfl,.inl ⟨rfl,rfl⟩⟩
 intro o' w' v tm I;refine W.go rfl (fun _=>dG) ?_;refine W.go rfl (fun w1=>stepG_leave rfl rfl func186 (results_none af _ _).1 (results_none af _ _).2) ?_;have AP:((base 203).at ⟨lr.tmps,[{target:=.collected (n+1),args:=#[]}]⟩ [.inRangeFunc (n+2),.inBlock 0,.code tl]).finish (.tuple #[])=(base 203).at ⟨lr.tmps,[{target:=.collected (n+1),args:=#[]}]⟩ [.endRangeFunc (n+2),.inBlock 0,.code tl]:=by
  simp[Frame.finish,Frame.at]
 rw[AP];have hl':=I.Ub;refine qq (t:=fun w=>cX w (n+2) {{lr with state:=.ready,pending:=none} with state:=.exhausted}) (l:=n+2) rfl (fun m=>CW (w:=w'.at m) hl' rfl rfl rfl) (by simp[cX]) ?_;have mW:∀b,o0 b->o' b:=fun b hb=>by rw[I.own];exact .inl hb
 have mw:bE ar L0 o' (cX w' (n+2) {{lr with state:=.ready,pending:=none} with state:=.exhausted}):=oB I.ay rfl (fun f=>by simp[obj]) (mW _ o3);have Xx:(cX w' (n+2) {{lr with state:=.ready,pending:=none} with state:=.exhausted}).heap.size=w'.heap.size:=by simp[cX]
 have VY:∀b,b≠n+2->(cX w' (n+2) {{lr with state:=.ready,pending:=none} with state:=.exhausted}).heap[b]?=w'.heap[b]?:=fun b hb=>by simp only[cX];rw[aJ (bc hb)]
 generalize cX w' (n+2) {{lr with state:=.ready,pending:=none} with state:=.exhausted}=w1 at *;have Zs:=fo;simp only[Tryz.f203,en,Code.seq.injEq,true_and] at Zs;obtain⟨-,-,Zs⟩:=Zs;obtain⟨gs,OZ⟩:=fA lt;rw[OZ] at X4 |-;simp only[List.range,List.range.loop,bU,oe] at X4 |-;simp only[List.getElem?_toArray,List.getElem?_cons_succ,List.getElem?_cons_zero,en] at X4;simp only[X4];rw[show(Item.code tl)=Item.code _ from congrArg Item.code Zs.symm];refine W.go rfl (fun _=>fR) ?_;refine W.go rfl (fun _=>ax) ?_;refine W.go rfl (fun _=>aV) ?_;refine dp ?_;have Ag:w1.heap[n]?=some (.cells #[v] 35 (0,0)):=(VY n aa).trans I.box;refine me aX mw rfl ai abk ai ?_ rfl (v:=v) (fun wl aE=>?_) fun _=>?_
 ·intro y hy;simp[Op.operands] at hy;subst hy;exact aH (mW _ o1)
 ·have hx:=(aE.heap _ (mW _ o1)).trans Ag;have c0:wl.cell? ⟨n,0,none⟩=some v:=by simp[World.cell?,hx]
  simp[go_sem,c0]
 walk_nrm;have qh:=abk;refine gA ?_;refine W.go rfl (fun _=>ak) ?_;refine W.go rfl (fun _=>stepG_ret') ?_;have Zd:w1.heap[n+1]?=some (.deferred (some [])):=by rw[VY _ aa,I.old _ aa aa aa];exact X6
 refine qq (t:=fun w=>{w with heap:=w.heap.setIfInBounds (n+1) (.deferred none)}) (l:=n+1) rfl (fun m=>zH (w:=w1.at m) rfl Zd) an ?_;have rh:bE ar L0 o' {w1 with heap:=w1.heap.setIfInBounds (n+1) (.deferred none)}:=oB mw rfl (fun f=>by simp[obj]) (mW _ o2);have XR:({w1 with heap:=w1.heap.setIfInBounds (n+1) (.deferred none)}:ae).heap.size=w'.heap.size:=by simp[Xx]
 have PD:∀b,b≠n+1->b≠n+2->({w1 with heap:=w1.heap.setIfInBounds (n+1) (.deferred none)}:ae).heap[b]?=w'.heap[b]?:=fun b h1 h2=>by
  rw[<- VY b h2];exact aJ (bc h1)
 generalize ({w1 with heap:=w1.heap.setIfInBounds (n+1) (.deferred none)}:ae)=w2 at *;refine W.go rfl (fun w1=>stepG_leave rfl rfl func203 (v:=v) (by simp[results,Tryz.f203,go_sem]) (by simp[results,Tryz.f203,go_sem])) ?_;have eo:o'=grow o0 w0 w2:=by rw[I.own];unfold grow;rw[XR]
 rw[eo] at rh |-;have ft:=I.size;refine h v w2 aa rh (fun b hb=>?_) ?_
 ·rw[PD b aa aa];exact I.old b aa aa aa
 ·have hr:=I.row;rw[dz] at hr;exact cQ hr fun g hg QV=>PD g aa aa
theorem H2(hF:bE ar L0 o w)(Sv Ru c:Nat)(p:Option Addr)(rs:List aL)(hn:rs.length<=8)(SS:o Sv)(hs:w.cell? ⟨Sv,0,none⟩=some (.slice p rs.length c))(hp:rs≠[]->p=some ⟨Ru,0,none⟩)(xz:o Ru)(xU:dX w Ru rs)(eY:∀r∈rs,Cl ar L0 o (.slice r.sa r.sl r.sc)):
  bp ar (XB ar Fin 0) 203 #[.slice none 0 0,.func (.func 186) #[] #[.pointer (some ⟨Sv,0,none⟩)]] o w fun v o' w' =>
   o'=grow o w w'/\bE ar L0 o' w'/\(∀b,b<w.heap.size->w'.heap[b]?=w.heap[b]?)/\w'.ownsRow w.heap.size 42 3 v rs.length (rs.flatMap aL.cells):=by
 intro cf cs Js;have W:=bJ (P:=ar) (Fin:=Fin) (d:=0);have qh:(base 203).kind≠.early:=by simp[base]
 rw[ij func203 rfl];walk_nrmf Tryz.f203;refine W.go rfl (fun _=>ax) ?_;refine W.go rfl (fun _=>aV) ?_;refine dp ?_;refine xW rfl ai qh rfl (Obj.cells #[.slice none 0 0] 35) (fun n=>.pointer (some ⟨n,0,none⟩)) (fun w1=>fa) (fun w1=>fa) ?_;walk_nrm;have mw:bE ar L0 (fun b=>o b\/b=w.heap.size) (w.alloc (Obj.cells #[.slice none 0 0] 35)):=hF.alloc rfl fun f _=>by simp[obj,val]
 refine gA ?_;refine W.go rfl (fun _=>ak) ?_;refine W.go rfl (fun _=>ax) ?_;refine W.go rfl (fun _=>ax) ?_;refine W.go rfl (fun _=>aV) ?_;refine dp ?_;refine gA ?_;refine W.go rfl (fun _=>ak) ?_;refine W.go rfl (fun _=>eB) ?_;refine Kf (g:=186) rfl qh rfl (by simp[Act.eval];rfl) func186 af rfl ?_;have Lf:=HZ mw 203;have TT:(w.alloc (Obj.cells #[.slice none 0 0] 35)).heap.size=w.heap.size+1:=an;have abl:∀b,b<w.heap.size->(w.alloc (Obj.cells #[.slice none 0 0] 35)).heap[b]?=w.heap[b]?:=fun b hb=>RowKit.Below.heap_alloc w _ b hb;have abm:(w.alloc (Obj.cells #[.slice none 0 0] 35)).heap[w.heap.size]?=some (Obj.cells #[.slice none 0 0] 35):=by simp only[World.alloc];rw[eZ,if_pos rfl]
 generalize w.alloc (Obj.cells #[.slice none 0 0] 35)=wa at *;rw[TT] at Lf;simp only[TT];have ho:(fun b=>((o b\/b=w.heap.size)\/b=w.heap.size+1)\/b=w.heap.size+1+1)=(fun b=>((o b\/b=w.heap.size)\/b=w.heap.size+1)\/b=w.heap.size+2):=rfl;have Uk:Ru<w.heap.size:=hF.lt xz;have hSn:Sv<w.heap.size:=hF.lt SS;have mW:∀{w':ae},(∀b,b<w.heap.size+1->w'.heap[b]?=wa.heap[b]?)->∀b,b<w.heap.size->w'.heap[b]?=w.heap[b]?:=fun h b hb=>(h b aa).trans (abl b hb);have hru:∀w0:ae,(∀b,b<w.heap.size+1->w0.heap[b]?=wa.heap[b]?)->dX w0 Ru rs:=fun w0 h0 i hi=>by
  have e:=mW h0 Ru Uk;obtain⟨c0,c1,c2⟩:=xU i hi;exact⟨(cell_of e).trans c0,(cell_of e).trans c1,(cell_of e).trans c2⟩
 have pZ:∀w0:ae,w0.heap.size=w.heap.size+1+2->(∀b,b<w.heap.size+1->w0.heap[b]?=wa.heap[b]?)->∀v w',w'.heap.size>=w.heap.size+3->bE ar L0 (grow (fun b=>((o b\/b=w.heap.size)\/b=w.heap.size+1)\/b=w.heap.size+1+1) w0 w') w'->(∀b,b<w.heap.size->w'.heap[b]?=w0.heap[b]?)->w'.ownsRow (w.heap.size+3) 42 3 v rs.length (rs.flatMap aL.cells)->XB ar Fin 0 (grow (fun b=>((o b\/b=w.heap.size)\/b=w.heap.size+1)\/b=w.heap.size+1+1) w0 w') (G (cf.finish v) cs) w':=by
  intro w0 h0 h00 v w' hz hF' hk hr;have e:grow (fun b=>((o b\/b=w.heap.size)\/b=w.heap.size+1)\/b=w.heap.size+1+1) w0 w'=grow o w w':=by
   funext b;simp only[grow,eq_iff_iff,h0];constructor
   ·rintro((((h1|h1)|h1)|h1)|h1)
    ·exact .inl h1
    all_goals exact .inr aa
   ·rintro(h1|h1)
    ·exact .inl (.inl (.inl (.inl h1)))
    ·by_cases h2:b<w.heap.size+3
     ·by_cases h3:b=w.heap.size
      ·exact .inl (.inl (.inl (.inr h3)))
      ·by_cases h4:b=w.heap.size+1
       ·exact .inl (.inl (.inr h4))
       ·exact .inl (.inr aa)
     ·exact .inr aa
  rw[e] at hF' |-;refine Js v _ w' ⟨rfl,hF',fun b hb=>(hk b hb).trans (mW h00 b hb),?_⟩;obtain⟨hlen,fy⟩:=hr;refine⟨hlen,?_⟩;rcases fy with h1|⟨g,cap,cur,h1,h2,h3⟩
  ·exact .inl h1
  ·exact .inr ⟨g,cap,cur,h1,aa,h3⟩
 refine Uj (n:=w.heap.size) (Lf _ _ _ _).1 (Lf _ _ _ _).2.1 (.inl (.inl (.inr rfl))) (.inl (.inr rfl)) (.inr rfl) (((Lf _ _ _ _).2.2.1 _ aa).trans abm) (Lf _ _ _ _).2.2.2.1 _ (Lf _ _ _ _).2.2.2.2 rfl rfl Sv Ru c p rs hn (.inl (.inl (.inl SS))) ?_ hp (.inl (.inl (.inl xz))) Uk ?_ ?_ rfl rfl rfl rfl rfl cf cs ?_
 ·exact(cell_of (mW (Lf _ _ _ _).2.2.1 Sv hSn)).trans hs
 ·exact hru _ (Lf _ _ _ _).2.2.1
 ·exact fun r hr=>(eY r hr).up fun b hb=>.inl (.inl (.inl hb))
 ·exact pZ _ (Lf _ _ _ _).2.1 (Lf _ _ _ _).2.2.1
end
section
variable {Fin:bH} {d:Nat} {o:aM} {w:ae} {fn:FuncId} {Q:Exit->Act->aM->ae->Prop} {a:Act} {ops:Array Oper} {i:Nat} {rest:List Nat} {op:Oper} {dd:Option Tmp} {v:Value} {b j:Nat}
theorem rdC(hF:bE ar L0 o w)(ox:o b)(c:w.cell? ⟨b,j,none⟩=some v)(h:Cl ar L0 o v->fu (XB ar Fin d) fn ops rest Q (a.put dd v) o w)(ho:ops[i]?=some op:=by rfl)(hw:Region.wanted op (yielded ops a.tmps)=true:=by rfl)(ja:sE L0 op.op=true:=by rfl)(f1:(∀j,Cl ar L0 o (.pointer (some ⟨b,j,none⟩)))->∀x∈op.op.operands,Cl ar L0 o (a.eval x):=by
   intro h9 y hy;simp[Op.operands] at hy;subst hy;simp[Act.eval];exact h9 _)(hd:op.dst=dd:=by rfl)(f2:(∀wl,im o w wl->wl.cell? ⟨b,j,none⟩=some v)->∀wl,im o w wl->(execOp a.eval op).run ar wl=.ok (.value v) wl:=by
   intro h9 wl aE;simp[go_sem,h9 wl aE]):fu (XB ar Fin d) fn ops (i::rest) Q a o w :=
 aP aX hF ho hw ja (f1 fun j=>aH ox) hd (f2 fun wl aE=>(aE.cell ox).trans c) h
theorem rd3{B C:Prop}(hF:bE ar L0 o w)(ox:o b)(c:w.cell? ⟨b,j,none⟩=some v)(f1:(∀j,Cl ar L0 o (.pointer (some ⟨b,j,none⟩)))->B:=by
  intro h9 y hy;simp[Op.operands] at hy;subst hy;simp[Act.eval];exact h9 _)(f2:(∀wl,im o w wl->wl.cell? ⟨b,j,none⟩=some v)->C:=by
   intro h9 wl aE;simp[go_sem,h9 wl aE]):bE ar L0 o w/\B/\C:=⟨hF,f1 fun j=>aH ox,f2 fun wl aE=>(aE.cell ox).trans c⟩
end
section
open Go.Lib
theorem tP:∀a:List UInt8,compareBytes a a=0
 | []=>rfl
 |x::r=>by
  have h:¬x<x:=UInt8.lt_irrefl x;simp[compareBytes,h,tP r]
theorem rA:∀a b:List UInt8,compareBytes a b=0->a=b
 | [],[],_=>rfl
 | [],_::_,h=>by simp[compareBytes] at h
 |_::_,[],h=>by simp[compareBytes] at h
 |x::r,y::s,h=>by
  simp only[compareBytes] at h;split at h
  ·cases h
  ·split at h
   ·cases h
   ·rename_i h1 h2;have e:x=y:=gH (UInt8.not_lt.1 h2) (UInt8.not_lt.1 h1);rw[e,rA r s h]
theorem qw:∀a b:List UInt8,compareBytes b a=- compareBytes a b
 | [],[]=>rfl
 | [],_::_=>rfl
 |_::_,[]=>rfl
 |x::r,y::s=>by
  simp only[compareBytes];by_cases h1:x<y
  ·have h2:¬y<x:=UInt8.lt_asymm h1;simp[h1,h2]
  ·by_cases h2:y<x
   ·simp[h1,h2]
   ·simp[h1,h2,qw r s]
theorem mN:∀a b c:List UInt8,compareBytes a b<0->compareBytes b c<0->compareBytes a c<0
 | [],[],_,h,_=>by simp[compareBytes] at h
 |_::_,[],_,h,_=>by simp[compareBytes] at h
 |_,_::_,[],_,h=>by simp[compareBytes] at h
 | [],_::_,_::_,_,_=>by simp[compareBytes]
 |x::r,y::s,z::t,h1,h2=>by
  simp only[compareBytes] at h1 h2 |-;by_cases a1:x<y
  ·by_cases a2:y<z
   ·simp[UInt8.lt_trans a1 a2]
   ·by_cases a3:z<y
    ·simp[a2,a3] at h2
    ·have e:y=z:=gH (UInt8.not_lt.1 a3) (UInt8.not_lt.1 a2);subst e;simp[a1]
  ·by_cases a4:y<x
   ·simp[a1,a4] at h1
   ·have e:x=y:=gH (UInt8.not_lt.1 a4) (UInt8.not_lt.1 a1);subst e;simp only[UInt8.lt_irrefl,if_false] at h1;by_cases a2:x<z
    ·simp[a2]
    ·by_cases a3:z<x
     ·simp[a2,a3] at h2
     ·simp[a2,a3] at h2 |-;exact mN r s t h1 h2
end
end Go.Proofs.Kz
namespace Go.Proofs
section
open Go.Shelf
end
end Go.Proofs
namespace Go.Proofs.Kz
open Go.Proofs.Tryz
open Go.Proofs.Tryz renaming prog → ar
open _root_.ByteArray renaming empty → aN
open Go.Proofs
section
open Go.RowKit Go.Shelf Go.Lib Go.Sort
def qx(x y:aL):Int:=Lib.compareBytes x.out.data.toList y.out.data.toList
theorem NX(x y:aL)(W:ae):Calls ar 146 #[.agg x.cells.toArray,.agg y.cells.toArray] W fun e w'=>e=.returned (.int .i64 (qx x y))/\∃q os',w'=grow (W.drewN q) os':=by
 have abn:=fun W'=>Tryz.strings_Compare x.out y.out W';show Calls ar _ #[.agg #[.string x.out,.int .i64 x.eD,.slice x.sa x.sl x.sc],.agg #[.string y.out,.int .i64 y.eD,.slice y.sa y.sl y.sc]] W _;unfold qx;generalize Lib.compareBytes x.out.data.toList y.out.data.toList=r at abn |-;go_enter func146,ntmps146;go_wp2_with (go_at_call 187;refine(abn _).mono ?_;rintro e w' ⟨rfl,rfl⟩);go_ret;exact⟨rfl,0,_,by rw[alloc_eq_grow,alloc_eq_grow,Go.Sort.grow_grow];rfl⟩
@[reducible] def C4:Inhabited aL:=⟨⟨aN,0,none,0,0⟩⟩
theorem KA(blk off size:Nat)(w:ae):@CmpLays aL C4 ar 146 #[] aL.cells 3 qx blk off size w :=
 fun _ _ _ _ x y=>NX x y _
theorem E7(n:Nat)(W:ae)(h:n<=12):Calls ar 205 #[.int .u64 n] W fun e w'=>(∃l:Int,e=.returned (.int .i64 l))/\w'=W :=
 (Any.bits_Len Tryz.bitsLen n W aa aa).mono fun _ _ ⟨he,hw⟩=>⟨⟨_,he⟩,hw⟩
theorem Ul(d:Array aL)(i:Nat)(h:i<d.size):(@getElem! (Array aL) Nat aL _ _ C4 d i)=d[i]:=by
 letI:Inhabited aL:=C4
 exact dT d i h
theorem afo:SWO (ltOf qx):=by
 have hx:∀x y,ltOf qx x y=true↔qx x y<0:=fun x y=>by simp[ltOf]
 have hn:∀x y,ltOf qx x y=false↔¬qx x y<0:=fun x y=>by simp[ltOf]
 refine⟨fun x=>?_,fun x y z h1 h2=>?_,fun x y z h1 h2=>?_⟩
 ·rw[hn];simp[qx,tP]
 ·rw[hx] at *;exact mN _ _ _ h1 h2
 ·rw[hn] at *;intro h3;unfold qx at *;rcases Int.lt_or_le 0 (compareBytes x.out.data.toList y.out.data.toList) with h4|h4
  ·have e:=qw x.out.data.toList y.out.data.toList;exact h2 (mN _ _ _ aa h3)
  ·have e:compareBytes x.out.data.toList y.out.data.toList=0:=aa;rw[rA _ _ e] at h3;exact h2 h3
theorem holds_of(w:ae)(b:Nat)(rs:List aL)(h:dX w b rs)(hf:∀j,j<rs.length*3->w.frozen? ⟨b,j,none⟩=false):@HoldsK aL C4 aL.cells 3 w b 0 rs.toArray:=by
 intro j hj;have rY:j<rs.length*3:=by simpa using hj
 have bZ:j/3<rs.length:=aa;obtain⟨c0,c1,c2⟩:=h (j/3) bZ;rw[bh];refine⟨?_,hf j rY⟩;rw[@get_flatK aL C4 aL.cells 3 rs.toArray j (by simpa using rY)];have e:(@getElem! (Array aL) Nat aL _ _ C4 rs.toArray (j/3))=rs[j/3]:=by
  rw[Ul _ _ (by simpa using bZ)];rfl
 rw[e];have hm:j%3=0\/j%3=1\/j%3=2:=aa;rcases hm with hm|hm|hm
 ·rw[show w.cell? ⟨b,j,none⟩=w.cell? ⟨b,j/3*3,none⟩ from congrArg (fun x=>w.cell? ⟨b,x,none⟩) aa,c0,hm];simp[aL.cells]
 ·rw[show w.cell? ⟨b,j,none⟩=w.cell? ⟨b,j/3*3+1,none⟩ from congrArg (fun x=>w.cell? ⟨b,x,none⟩) aa,c1,hm];simp[aL.cells]
 ·rw[show w.cell? ⟨b,j,none⟩=w.cell? ⟨b,j/3*3+2,none⟩ from congrArg (fun x=>w.cell? ⟨b,x,none⟩) aa,c2,hm];simp[aL.cells]
theorem KB(w:ae)(b:Nat)(d:Array aL)(h:@HoldsK aL C4 aL.cells 3 w b 0 d):dX w b d.toList:=by
 intro i hi;have lQ:i<d.size:=by simpa using hi
 have key:∀c,c<3->w.cell? ⟨b,i*3+c,none⟩=some ((d.toList[i]).cells[c]!):=fun c hc=>by
  have:=(h (i*3+c) eR).1;rw[bh] at this;rw[this,@get_flatK aL C4 aL.cells 3 d (i*3+c) aa];have e1:(i*3+c)/3=i:=aa;have e2:(i*3+c)%3=c:=aa;rw[e1,e2,Ul d i lQ];simp
 exact⟨key 0 aa,key 1 aa,key 2 aa⟩
structure H3(w w':ae)(blk:Nat)(rs b5:List aL):Prop where
 size:w.heap.size<=w'.heap.size
 old:∀b,b<w.heap.size->b≠blk->w'.heap[b]?=w.heap[b]?
 perm:b5.Perm rs
 sorted:∀i j (hi:i<b5.length) (hj:j<b5.length),i<j->¬qx b5[j] b5[i]<0
 at_:dX w' blk b5
theorem BG(blk cap:Nat)(rs:List aL)(w:ae)(hR:dX w blk rs)(hf:∀j,j<rs.length*3->w.frozen? ⟨blk,j,none⟩=false)(Nl:blk<w.heap.size)(oa:rs.length<=12):
  Calls ar 185 #[.slice (some ⟨blk,0,none⟩) rs.length cap,.func (.func 146) #[] #[]] w fun e w'=>∃v,e=.returned v/\v=.tuple #[]/\∃b5,H3 w w' blk rs b5:=by
 have eg:∀args w,(callFunc 146 args).run ar w=.ok (.enter 146 args) w:=enters_of func146 af rfl;have hH:=holds_of w blk rs hR hf;have hc:=@AnyQ.slices_SortFunc_small_sorted ar _ aL C4 Tryz.NA 3 isAgg42 sizeOf42 aL.cells (fun _=>rfl) (fun x v hv=>by simp[aL.cells] at hv;rcases hv with rfl|rfl|rfl<;>rfl) qx 146 #[] afo blk 0 cap rs.toArray w eg (KA blk 0 rs.toArray.size w) hH Nl (by simpa using oa) E7;refine Calls.mono hc ?_;rintro e w' ⟨rfl,d',n,os,hp,hs,rfl⟩;have hz:d'.size=rs.length:=by simpa using hp.1
 have pE:blk<(@putRowK aL C4 aL.cells 3 (Go.Sort.ahead w n) blk 0 d').heap.size:=by simp[putRowK,putRow,mapBlock,Go.Sort.ahead];exact Nl
 refine⟨_,rfl,rfl,d'.toList,?_,?_,?_,?_,?_⟩
 ·simp[sortWorldK,Go.Sort.grow,putRowK,putRow,mapBlock,Go.Sort.ahead]
 ·intro b hb cV;simp only[sortWorldK];rw[heap_grow_old _ _ (by simp[putRowK,putRow,mapBlock,Go.Sort.ahead];exact hb)];simp only[putRowK,putRow,mapBlock,Go.Sort.ahead];rw[er,if_neg (fun e=>cV e.symm)]
 ·have h2:=hp.2.2;rw[iA (by simp[hz]),iA an] at h2;simpa using h2
 ·intro i j hi hj DU;have h2:=hs i j (aQ _) DU (by simp at hj |-;omega);rw[Ul d' i (by simpa using hi),Ul d' j (by simpa using hj)] at h2;simp[ltOf] at h2;simp;exact h2
 ·refine KB _ blk d' ?_;refine holds_grow id _ os blk 0 _ pE ?_;exact holds_putRow id _ blk 0 _ _ hH (by simp[hz])
end
open Go.Ren Go.Conc Go.ConcN
section
variable {Fin:bH} {o:aM} {w:ae}
structure QY(o:aM)(w:ae)(rs:List aL)(v:Value)(o':aM)(w':ae):Prop where
 own:o'=grow o w w'
 ay:bE ar L0 o' w'
 size:w.heap.size<=w'.heap.size
 old:∀b,b<w.heap.size->w'.heap[b]?=w.heap[b]?
 row:w'.ownsRow w.heap.size 42 3 v rs.length (rs.flatMap aL.cells)
theorem NY(hF:bE ar L0 o w)(Sv Ru c:Nat)(p:Option Addr)(rs:List aL)(hn:rs.length<=8)(SS:o Sv)(hs:w.cell? ⟨Sv,0,none⟩=some (.slice p rs.length c))(hp:rs≠[]->p=some ⟨Ru,0,none⟩)(xz:o Ru)(xU:dX w Ru rs)(eY:∀r∈rs,Cl ar L0 o (.slice r.sa r.sl r.sc)):
  bp ar (XB ar Fin 0) 184 #[.func (.func 186) #[] #[.pointer (some ⟨Sv,0,none⟩)]] o w (QY o w rs):=by
 have W:=bJ (P:=ar) (Fin:=Fin) (d:=0);refine bA W func184 ai ?_;refine aA ?_;refine aF W rfl ai rfl func203 af rfl aC rfl ((H2 hF Sv Ru c p rs hn SS hs hp xz xU eY).mono fun v o' w' hp=>?_);refine aA ?_;obtain⟨h1,h2,h3,h4⟩:=hp;refine⟨.inr trivial,trivial,v,resultsC_tmp (t:=2) ai _,h1,h2,?_,h3,h4⟩;refine cL fun bZ=>?_;have:=h3 _ bZ;rw[cb (ag _),aG bZ] at this;cases this
theorem QZ(rs:List aL):∀i (h:i<rs.length) c,c<3->(rs.flatMap aL.cells)[i*3+c]?=(rs[i].cells)[c]?:=by
 induction rs with
 |nil=>intro i h;simp at h
 |cons r t ih =>
  intro i h c hc;have hl:r.cells.length=3:=rfl;rw[List.flatMap_cons];cases i with
  |zero=>rw[jd aa];simp
  |succ i =>
   rw[iN aa,hl,show(i+1)*3+c-3=i*3+c by omega,ih i (by simpa using h) c hc];simp
theorem H4{w:ae}{g cap n:Nat}{cur:Array Value}{rs:List aL}(hg:w.heap[g]?=some (.cells cur 42 (0,0)))(ht:cur.toList.take (rs.length*3)=rs.flatMap aL.cells):dX w g rs/\∀j,w.frozen? ⟨g,j,none⟩=false:=by
 have key:∀i (h:i<rs.length) c,c<3->w.cell? ⟨g,i*3+c,none⟩=(rs[i].cells)[c]?:=fun i h c hc=>by
  rw[<- QZ rs i h c hc,<- ht,eU aa];simp[World.cell?,hg]
 exact⟨fun i h=>⟨key i h 0 aa,key i h 1 aa,key i h 2 aa⟩,fun j=>by simp[World.frozen?,hg]⟩
theorem E8(w:ae):Calls ar 185 #[.slice none 0 0,.func (.func 146) #[] #[]] w fun e w'=>∃v,e=.returned v/\v=.tuple #[]/\w'.heap=w.heap:=by
 have hl:=E7 0 w aa;have h2:∀W,Calls ar 214 #[.slice none 0 0,.int .i64 0,.int .i64 0,.func (.func 146) #[] #[]] W fun e w'=>e=.returned (.tuple #[])/\w'.heap=W.heap:=fun W=>by
  go_enter func214,ntmps214;go_wp2;refine wp_loop_rounds 1 ?_;rw[rounds_succ];go_wp2
  go_end0
  exact⟨rfl,rfl⟩
 have h3:∀W lim,Calls ar 204 #[.slice none 0 0,.int .i64 0,.int .i64 0,.int .i64 lim,.func (.func 146) #[] #[]] W fun e w'=>e=.returned (.tuple #[])/\w'.heap=W.heap:=fun W lim=>by
  go_enter func204,ntmps204;go_wp2;refine wp_loop_rounds 1 ?_;rw[rounds_succ];go_wp2_with (go_at_call 214;refine(h2 _).mono ?_;rintro e w' ⟨rfl,hw⟩)
  (try simp only[Exit.inBlock,Exit.then])
  refine bodyPost_ret (results_none af _ _).1 rfl ?_;exact⟨rfl,hw⟩
 go_enter func185,ntmps185;go_wp2_with (first|(go_at_call 205;refine hl.mono ?_;rintro e w' ⟨⟨l,rfl⟩,rfl⟩)|(go_at_call 204;refine(h3 _ _).mono ?_;rintro e w' ⟨rfl,hw⟩))
 go_end0
 exact⟨_,rfl,rfl,hw⟩
structure tQ(o:aM)(w:ae)(rs:List aL)(v:Value)(o':aM)(w':ae):Prop where
 own:o'=grow o w w'
 ay:bE ar L0 o' w'
 size:w.heap.size<=w'.heap.size
 old:∀b,b<w.heap.size->w'.heap[b]?=w.heap[b]?
 row:(rs=[]/\v=.slice none 0 0)\/∃g cap b5,v=.slice (some ⟨g,0,none⟩) rs.length cap/\rs.length<=cap/\w.heap.size<=g/\g<w'.heap.size/\b5.Perm rs/\(∀i j (hi:i<b5.length) (hj:j<b5.length),i<j->¬qx b5[j] b5[i]<0)/\dX w' g b5
theorem Q0{o:aM}{w w1 w2:ae}(h1:w.heap.size<=w1.heap.size)(h2:w1.heap.size<=w2.heap.size):grow (grow o w w1) w1 w2=grow o w w2:=grow_grow h1 rfl h2
theorem X7{o1:aM}{w1:ae}{rs:List aL}{v:Value}(hn:rs.length<=8)(S:QY o w rs v o1 w1):
  bp ar (XB ar Fin 0) 185 #[v,.func (.func 146) #[] #[]] o1 w1 fun v' o2 w2=>v'=.tuple #[]/\tQ o w rs v o2 w2:=by
 obtain⟨hlen,fy⟩:=S.row;rcases fy with⟨rfl,h0⟩|⟨g,cap,cur,rfl,h1,h2,h3,h4,h5,h6⟩
 ·refine re aX af S.ay ?_ (R:=fun wl v aI=>v=.tuple #[]/\aI.heap=wl.heap) (fun wl v w τ d h=>h) (fun wl τ d v w' h=>h) (fun wl hz aE=>E8 wl) ?_
  ·intro f hf;have hb:f.h 146=146:=hf.fn _ (by show L0 146=true;kernel_rfl);simp[val,sk,hb]
  ·rintro wl v aI w' hz aE ⟨rfl,hh⟩ B;have ft:w'.heap.size=w1.heap.size:=by rw[B.size,hh,hz]
   have e:grow o1 w1 w'=o1:=by
    funext b;simp only[grow,eq_iff_iff,ft];exact⟨fun h=>h.elim id fun h=>aa,.inl⟩
   have hold:∀b,b<w1.heap.size->w'.heap[b]?=w1.heap[b]?:=fun b hb=>by
    by_cases ho:o1 b
    ·rw[B.same b (.inl ho),hh,aE b ho]
    ·exact B.rest b hb ho
   have hF:=B.ay;rw[e] at hF |-;have hs:=S.size;refine⟨rfl,by rw[S.own];unfold grow;rw[ft],hF,aa,fun b hb=>by rw[hold b aa];exact S.old b hb,.inl ⟨List.length_eq_zero_iff.1 h0,rfl⟩⟩
 ·have I3:g<w1.heap.size:=(Array.getElem?_eq_some_iff.1 h2).1;have SU:o1 g:=by rw[S.own];exact .inr ⟨h1,I3⟩
  refine re aX af S.ay ?_ (R:=fun wl v aI=>v=.tuple #[]/\∃b5,H3 wl aI g rs b5) (fun wl v w τ d h=>?_) (fun wl τ d v w' h=>?_) (fun wl hz aE=>?_) ?_
  ·intro f hf;have:=di (P:=ar) (L:=L0) (off:=0) (l:=rs.length) (c:=cap) SU f hf;have hb:f.h 146=146:=hf.fn _ (by show L0 146=true;kernel_rfl);simp[val,sk,hb] at this |-;exact this
  ·obtain⟨k1,b5,k2⟩:=h;exact⟨k1,b5,k2.size,k2.old,k2.perm,k2.sorted,k2.at_⟩
  ·obtain⟨k1,b5,k2⟩:=h;exact⟨k1,b5,k2.size,k2.old,k2.perm,k2.sorted,k2.at_⟩
  ·obtain⟨k1,k2⟩:=H4 (cap:=cap) (n:=rs.length) ((aE g SU).trans h2) h6;exact BG g cap rs wl k1 (fun j _=>k2 j) aa aa
  ·rintro wl v aI w' hz aE ⟨rfl,b5,T⟩ B;have ft:=B.gO;have hs:=S.size;have hold:∀b,b<w1.heap.size->b≠g->w'.heap[b]?=w1.heap[b]?:=fun b hb cV=>by
    by_cases ho:o1 b
    ·rw[B.same b (.inl ho),T.old b aa cV,aE b ho]
    ·exact B.rest b hb ho
   have hF:=B.ay;have e:grow o1 w1 w'=grow o w w':=by rw[S.own];exact Q0 hs ft
   have hsm:=B.same g (.inl SU);rw[e] at hF |-;refine⟨rfl,rfl,hF,aa,fun b hb=>by rw[hold b aa aa];exact S.old b hb,.inr ⟨g,cap,b5,rfl,h3,h1,aa,T.perm,T.sorted,fun i hi=>?_⟩⟩;obtain⟨c0,c1,c2⟩:=T.at_ i hi;exact⟨(cell_of hsm).trans c0,(cell_of hsm).trans c1,(cell_of hsm).trans c2⟩
theorem E9(hF:bE ar L0 o w)(Sv Ru c:Nat)(p:Option Addr)(rs:List aL)(hn:rs.length<=8)(SS:o Sv)(hs:w.cell? ⟨Sv,0,none⟩=some (.slice p rs.length c))(hp:rs≠[]->p=some ⟨Ru,0,none⟩)(xz:o Ru)(xU:dX w Ru rs)(eY:∀r∈rs,Cl ar L0 o (.slice r.sa r.sl r.sc)):
  bp ar (XB ar Fin 0) 144 #[.func (.func 186) #[] #[.pointer (some ⟨Sv,0,none⟩)],.func (.func 146) #[] #[]] o w (tQ o w rs):=by
 have W:=bJ (P:=ar) (Fin:=Fin) (d:=0);refine bA W func144 ai ?_;refine aA ?_;refine aF W rfl ai rfl func184 af rfl aC rfl ((NY hF Sv Ru c p rs hn SS hs hp xz xU eY).mono fun v o1 w1 S=>?_);refine aA ?_;refine aF W rfl ai rfl func185 af rfl (vs:=#[v,.func (.func 146) #[] #[]]) aC rfl ((X7 hn S).mono fun v' o2 w2 hq=>?_);obtain⟨rfl,hq⟩:=hq;refine aA ?_;exact⟨.inr trivial,trivial,v,resultsC_tmp (t:=4) ai _,hq⟩
end
section
open Go.RowKit
theorem dX.below{w w':ae}{b:Nat}{rs:List aL}(h:dX w b rs)(hb:b<w.heap.size)(hw:Below w.heap.size w w'):dX w' b rs:=fun k hk=>by
 obtain⟨hc,-⟩:=uM hw;rw[hc _ _ hb,hc _ _ hb,hc _ _ hb];exact h k hk
theorem KC(b c:Nat)(p:Option Addr)(rs:List aL)(w:ae)(hn:rs.length<=100000)(hp:rs≠[]->p=some ⟨b,0,none⟩/\b<w.heap.size)(hv:dX w b rs):
  Calls ar 147 #[.slice p rs.length c] w fun e w'=>e=.returned (.slice (some ⟨w.heap.size,0,none⟩) rs.length rs.length)/\Below w.heap.size w w'/\w.heap.size<w'.heap.size /\
   w'.rowIs w.heap.size 9 rs.length (fun j=>.string ((rs.map (·.out)).getD j aN)):=by
 have LV:=run_make_row' (P:=ar) 40 9 (.string aN) 16 underlying40 pq rfl .i64 .i64 rs.length aa aa;go_enter func147,ntmps147;go_wp2;go_loopw [11] (fun i w'=>∃k:Nat,k<=rs.length/\i=.int .i64 k/\Below w.heap.size w w'/\w.heap.size<w'.heap.size/\w'.rowIs w.heap.size 9 rs.length (fun j=>if j<k then .string ((rs.map (·.out)).getD j aN) else .string aN)) (fun i _=>rs.length-(intOf i).toNat)
 case atStart=>exact⟨0,aQ _,rfl,(Below.refl _ _).alloc (ag _) _,an,by simpa using World.rowIs_made w _ _ _⟩
 case round =>
  obtain⟨k,hk,rfl,gv,hz,b6⟩:=hrel;by_cases bZ:k<rs.length
  ·obtain⟨rfl,hb⟩:=hp (fun e=>by rw[e] at bZ;simp at bZ);obtain⟨h1,h2,h3⟩:=hv.below hb gv k bZ;have hc:=b6.cell bZ;have hf:=b6.frozen k;rw[if_neg aa] at hc;go_wp2;refine⟨⟨k+1,aa,by go_num,(gv.setCell (ag _) _).alloc (by simp[World.setCell];omega) _,by simp[World.setCell];omega,?_⟩,by simp[intOf];omega⟩;refine((b6.set k _).alloc _).congr fun j hj=>?_;by_cases e:j=k
   ·subst e;simp[List.getD,bZ]
   ·by_cases e':j<k
    ·rw[if_neg e,if_pos e',if_pos aa]
    ·rw[if_neg e,if_neg e',if_neg aa]
  ·go_wp2;go_ret;exact⟨rfl,gv,hz,b6.congr fun i hi=>by rw[if_pos aa]⟩
end
section
open Go.RowKit
def rS(w:ae)(b:Nat)(ins:List (Bool×Nat)):Prop:=∀j (h:j<ins.length),w.cell? ⟨b,j*2,none⟩=some (.bool ins[j].1)/\w.cell? ⟨b,j*2+1,none⟩=some (.int .i64 ins[j].2)
theorem rS.below{w w':ae}{b:Nat}{ins:List (Bool×Nat)}(h:rS w b ins)(hb:b<w.heap.size)(hw:Below w.heap.size w w'):rS w' b ins:=fun k hk=>by
 obtain⟨hc,-⟩:=uM hw;rw[hc _ _ hb,hc _ _ hb];exact h k hk
def yg(w:ae)(b:Nat)(zs:List Nat):Prop:=∀j (h:j<zs.length),w.cell? ⟨b,j,none⟩=some (.int .i64 zs[j])
theorem yg.below{w w':ae}{b:Nat}{zs:List Nat}(h:yg w b zs)(hb:b<w.heap.size)(hw:Below w.heap.size w w'):yg w' b zs:=fun k hk=>by
 obtain⟨hc,-⟩:=uM hw;rw[hc _ _ hb];exact h k hk
theorem wW(b c:Nat)(zs:List Nat)(x:Nat)(w:ae)(hn:zs.length<=100000)(h:yg w b zs):
  Calls ar 190 #[.slice (some ⟨b,0,none⟩) zs.length c,.int .i64 x] w fun e w'=>e=.returned (.bool (zs.contains x))/\w'=w:=by
 have:=Tryz.slices_Contains_int b 0 zs.length c (zs.map (fun n:Nat=>(n:Int))) x w an aa (fun j hj=>by
  have rY:j<zs.length:=by simpa using hj
  rw[bh,h j rY];simp[rY])
 refine this.mono fun e w' hq=>?_;obtain⟨rfl,rfl⟩:=hq;refine⟨?_,rfl⟩
 congr 2
 rw[cE an];rw[dD];simp only[List.contains_iff_mem,List.mem_map];exact⟨fun⟨a,h1,h2⟩=>(show a=x by omega)▸h1,fun h=>⟨x,h,rfl⟩⟩
def mg(order:List Nat)(i:Bool×Nat):Bool:=!i.1||order.contains i.2
theorem Fa(b c Ib ic:Nat)(order:List Nat)(ins:List (Bool×Nat))(w:ae)(hn:order.length<=100000)(hi:ins.length<=100000)(hb:b<w.heap.size)(hIb:Ib<w.heap.size)(ho:yg w b order)(hv:rS w Ib ins):
  Calls ar 191 #[.slice (some ⟨b,0,none⟩) order.length c,.slice (some ⟨Ib,0,none⟩) ins.length ic] w fun e w'=>e=.returned (.bool (ins.all (mg order)))/\Below w.heap.size w w'/\w.heap.size<=w'.heap.size:=by
 go_enter func191,ntmps191;go_wp2;go_loopw [9] (fun i w'=>∃k:Nat,k<=ins.length/\i=.int .i64 k/\Below w.heap.size w w'/\w.heap.size<=w'.heap.size/\(ins.take k).all (mg order)=true) (fun i _=>ins.length-(intOf i).toNat)
 case atStart=>exact⟨0,aQ _,rfl,Below.refl _ _,ag _,an⟩
 case round =>
  obtain⟨k,hk,rfl,gv,hz,gY⟩:=hrel;by_cases bZ:k<ins.length
  ·obtain⟨h1,h2⟩:=hv.below hIb gv k bZ;have ho2:=ho.below hb gv;have qJ:=take_succ ins k bZ;generalize hik:ins[k]=ik at *;obtain⟨io,inn⟩:=ik;cases io
   ·go_wp2;refine⟨⟨k+1,aa,by go_num,gv.alloc aa _,eR,?_⟩,by simp[intOf];omega⟩;rw[qJ,List.all_append,gY];simp[mg]
   ·have sd:=wW b c order inn (wr.alloc (.cells #[.bool true,.int .i64 inn] 280)) hn (ho.below hb (gv.alloc aa _));have sP:ins.all (mg order)=true->order.contains inn=true:=fun h=>by
     have:=List.all_eq_true.1 h (true,inn) (by rw[<- hik];exact aD bZ);simpa[mg] using this
    cases NZ:order.contains inn
    ·rw[NZ] at sd;go_wp2_with (go_at_call 190;refine sd.mono ?_;rintro e w' ⟨rfl,rfl⟩);go_ret;have:ins.all (mg order)=false:=by
      cases h:ins.all (mg order)
      ·rfl
      ·have:=sP h;rw[NZ] at this;cases this
     rw[this];exact⟨rfl,gv.alloc aa _,eR⟩
    ·rw[NZ] at sd;go_wp2_with (go_at_call 190;refine sd.mono ?_;rintro e w' ⟨rfl,rfl⟩);refine⟨⟨k+1,aa,by go_num,gv.alloc aa _,eR,?_⟩,by simp[intOf];omega⟩;rw[qJ,List.all_append,gY];simp[mg];simpa using NZ
  ·go_wp2;go_ret;rw[cE aa] at gY;rw[gY];exact⟨rfl,gv,hz⟩
end
section
open Go.RowKit
def pv(ins:Nat->List (Bool×Nat))(ord:List Nat)(s:Nat):List Nat:=if ord.contains s=false/\(ins s).all (mg ord)=true then ord++[s] else ord
def mh(ins:Nat->List (Bool×Nat))(ord:List Nat)(k:Nat):List Nat:=(List.range k).foldl (pv ins) ord
def dK(ins:Nat->List (Bool×Nat))(n:Nat):Nat->List Nat
 |0=>[]
 |r+1=>mh ins (dK ins n r) n
theorem pw(ins:Nat->List (Bool×Nat))(ord:List Nat)(k:Nat):mh ins ord (k+1)=pv ins (mh ins ord k) k:=by
 simp[mh,List.range_succ]
theorem tR:∀(n:Nat) (l:List Nat),l.Nodup->(∀x∈l,x<n)->l.length<=n
 |0,l,_,h=>by
  cases l with
  |nil=>simp
  |cons x r=>exact absurd (h x an) aa
 |n+1,l,hd,h=>by
  have h1:=tR n (l.erase n) (hd.erase n) (fun x hx=>by
   have h2:=(hd.mem_erase_iff).1 hx;have:=h x h2.2;have:=h2.1;omega)
  have h2:=List.length_erase (a:=n) (l:=l);split at h2<;>omega
def nF(n:Nat)(ord:List Nat):Prop:=ord.Nodup/\∀x∈ord,x<n
theorem nF.step{n:Nat}{ord:List Nat}(h:nF n ord)(ins:Nat->List (Bool×Nat)){s:Nat}(hs:s<n):nF n (pv ins ord s):=by
 unfold pv;split
 ·rename_i hc;have hm:s∉ord:=fun hm=>by have:=hc.1;rw[List.contains_iff_mem.2 hm] at this;cases this
  refine⟨?_,fun x hx=>?_⟩
  ·rw[List.nodup_append];refine⟨h.1,an,fun a ha b hb=>?_⟩;simp at hb;subst hb;exact fun e=>hm (e▸ha)
  ·simp at hx;rcases hx with hx|rfl
   ·exact h.2 x hx
   ·exact hs
 ·exact h
theorem nF.pass{n:Nat}{ord:List Nat}(h:nF n ord)(ins:Nat->List (Bool×Nat)):∀k,k<=n->nF n (mh ins ord k)
 |0,_=>by simpa[mh] using h
 |k+1,hk=>by rw[pw];exact(nF.pass h ins k aa).step ins aa
theorem nF.all(n:Nat)(ins:Nat->List (Bool×Nat)):∀r,nF n (dK ins n r)
 |0=>⟨by simp[dK],by simp[dK]⟩
 |r+1=>(nF.all n ins r).pass ins n (ag _)
theorem L8:(ar.info? 3).map (fun i=>(i.zero,i.size,i.bytes))=some (some (.int .i64 0),1,8):=af
structure oE(w:ae)(St n:Nat)(out:Nat->ah)(eD:Nat->Int)(ins:Nat->List (Bool×Nat))(cw:Nat->Nat):Prop where
 out:∀s,s<n->w.cell? ⟨St,s*3,none⟩=some (.string (out s))
 eD:∀s,s<n->w.cell? ⟨St,s*3+1,none⟩=some (.int .i64 (eD s))
 zJ:∀s,s<n->w.cell? ⟨St,s*3+2,none⟩=some (.slice (some ⟨cw s,0,none⟩) (ins s).length (ins s).length)
 Bw:∀s,s<n->rS w (cw s) (ins s)
 lt:∀s,s<n->cw s<w.heap.size
 short:∀s,s<n->(ins s).length<=100000
def kI(w:ae)(B n:Nat)(ord:List Nat):Prop:=w.rowIs B 3 n fun j=>.int .i64 ((ord.getD j 0:Nat):Int)
theorem kI.nums{w:ae}{B n:Nat}{ord:List Nat}(h:kI w B n ord)(hl:ord.length<=n):yg w B ord:=fun j hj=>by
 rw[h.cell aa];simp[hj]
theorem BH(W:ae)(B n x:Nat)(ord:List Nat)(A:Nat)(h:kI W B n ord)(bZ:ord.length<n)(ha:W.cell? ⟨A,0,none⟩=some (.int .i64 x)):
  (Builtin.append_ #[130,130] 130 #[.slice (some ⟨B,0,none⟩) ord.length n,.slice (some ⟨A,0,none⟩) 1 1]).run ar W=.ok (.slice (some ⟨B,0,none⟩) (ord.length+1) n) (W.setCell ⟨B,ord.length,none⟩ (.int .i64 x)):=by
 obtain⟨i,hi,oF⟩:=Option.map_eq_some_iff.1 L8;simp only[WS] at oF;have:=run_append_room_cells (P:=ar) W 130 130 3 i underlying130 hi B 0 ord.length n ⟨A,0,none⟩ 1 1 [.int .i64 x] (by simp[oF.2.1]) (fun j u hj=>by
  cases j with
  |zero=>simp at hj;subst hj;simpa[Addr.add] using ha
  |succ j=>simp at hj) (by simp;rfl) aa (fun j hj=>by
   simp at hj;subst hj;rw[oF.2.1];simp[h.cell bZ]) (fun j hj=>by
   simp at hj;subst hj;rw[oF.2.1];have:=h.frozen ord.length;simpa using this)
 rw[oF.2.1] at this;simpa[World.setCells] using this
theorem kI.put{w:ae}{B n:Nat}{ord:List Nat}(h:kI w B n ord)(bZ:ord.length<n)(x:Nat):kI (w.setCell ⟨B,ord.length,none⟩ (.int .i64 x)) B n (ord++[x]):=by
 refine(World.rowIs.set h ord.length (.int .i64 x)).congr fun j hj=>?_;by_cases e:j=ord.length
 ·subst e;simp
 ·rw[if_neg e];by_cases e':j<ord.length
  ·simp[List.getD,e',List.getElem?_append_left e']
  ·simp[List.getD,List.getElem?_eq_none (show ord.length<=j by omega),List.getElem?_eq_none (show(ord++[x]).length<=j by simp;omega)]
end
section
open Go.RowKit
theorem fM{P:Program}{w w':ae}{ops:Array Oper}{rest:List Oper}{o:Oper}{a:Act}{Q:Exit->Act->ae->Prop}{v xv v':Value}(hgd:o.guard=none)(s x:Operand)(t:TypeId)(ho:o.op=.call {callee:=.builtin .append,args:=#[s,x],argTypes:=#[t,t]})(hs:a.eval s=v)(hx:a.eval x=xv)(hr:(Builtin.append_ #[t,t] o.type #[v,xv]).run P w=.ok v' w')(h:wpList P ops Q rest (a.put o.dst v') w'):wpList P ops Q (o::rest) a w :=
 wpList_plain hgd fun _ hK=>by
  unfold Oper.wp execOp;simp only[ho,resolve,invoke,builtin,Sem.run_bind,Sem.run_pure,Result.andThen_ok,List.map_toArray,bU,oe,hs,hx,hr];exact hK _ _ h
theorem jR(w:ae)(x:Obj):(w.alloc x).heap[w.heap.size]?=some x:=by
 show(w.heap.push x)[w.heap.size]?=_;simp
theorem vw(w:ae)(cs:Array Value)(t:TypeId)(j:Nat):(w.alloc (.cells cs t)).cell? ⟨w.heap.size,j,none⟩=cs[j]?:=by
 simp only[World.cell?];rw[jR];rfl
theorem nF.room{n:Nat}{ord:List Nat}(h:nF n ord){s:Nat}(hs:s<n)(hc:ord.contains s=false):ord.length<n:=by
 have hm:s∉ord:=fun hm=>by rw[List.contains_iff_mem.2 hm] at hc;cases hc
 have:=tR n (ord++[s]) (by
  rw[List.nodup_append];refine⟨h.1,an,fun a ha b hb=>?_⟩;simp at hb;subst hb;exact fun e=>hm (e▸ha)) (fun x hx=>by
  simp at hx;rcases hx with hx|rfl
  ·exact h.2 x hx
  ·exact hs)
 simp at this;omega
theorem H5(St n sc:Nat)(out:Nat->ah)(eD:Nat->Int)(ins:Nat->List (Bool×Nat))(cw:Nat->Nat)(w:ae)(hn:n<=1000)(X8:St<w.heap.size)(dW:oE w St n out eD ins cw):
  Calls ar 150 #[.slice (some ⟨St,0,none⟩) n sc] w fun e w'=>e=.returned (.slice (some ⟨w.heap.size,0,none⟩) (dK ins n n).length n)/\Below w.heap.size w w'/\w.heap.size<w'.heap.size/\kI w' w.heap.size n (dK ins n n):=by
 have LV:=Go.run_make_room (P:=ar) 130 3 (.int .i64 0) 8 underlying130 L8 rfl .i64 .i64 n aa aa;go_enter func150,ntmps150;go_wp2;go_loopw [3,11] (fun v i w'=>∃r:Nat,r<=n/\i=.int .i64 r/\v=.slice (some ⟨w.heap.size,0,none⟩) (dK ins n r).length n/\Below w.heap.size w w'/\w.heap.size<w'.heap.size/\kI w' w.heap.size n (dK ins n r)) (fun v i _=>n-(intOf i).toNat)
 case atStart=>exact⟨0,aQ _,rfl,rfl,(Below.refl _ _).alloc (ag _) _,an,by simpa[kI,dK] using World.rowIs_made w _ _ _⟩
 case round =>
  obtain⟨r,hr,rfl,rfl,gv,hz,b6⟩:=hrel;by_cases bZ:r<n
  ·go_wp2;go_loopw [3,15] (fun v i w'=>∃k:Nat,k<=n/\i=.int .i64 k/\v=.slice (some ⟨w.heap.size,0,none⟩) (mh ins (dK ins n r) k).length n/\Below w.heap.size w w'/\w.heap.size<w'.heap.size/\kI w' w.heap.size n (mh ins (dK ins n r) k)) (fun v i _=>n-(intOf i).toNat)
   case atStart=>exact⟨0,aQ _,rfl,by simp[mh],gv,hz,by simpa[mh] using b6⟩
   case round =>
    clear gv hz b6;obtain⟨k,hk,rfl,rfl,gv,hz,b6⟩:=hrel;by_cases I4:k<n
    ·have ja:nF n (mh ins (dK ins n r) k):=(nF.all n ins r).pass ins k hk;have wX:=pw ins (dK ins n r) k;have hle:=tR n _ ja.1 ja.2;generalize abp:mh ins (dK ins n r) k=ord at *;have c0:=(gv.cell (p:=⟨St,k*3,none⟩) X8).trans (dW.out k I4);have c1:=(gv.cell (p:=⟨St,k*3+1,none⟩) X8).trans (dW.eD k I4);have c2:=(gv.cell (p:=⟨St,k*3+2,none⟩) X8).trans (dW.zJ k I4);have VZ:ord.length<=100000:=aa;generalize X9:wr.alloc (.cells #[.string (out k),.int .i64 (eD k),.slice (some ⟨cw k,0,none⟩) (ins k).length (ins k).length] 220)=wa;have ca:wa.cell? ⟨wr.heap.size,2,none⟩=some (.slice (some ⟨cw k,0,none⟩) (ins k).length (ins k).length):=by rw[<- X9];exact vw _ _ _ 2
     have hba:Below w.heap.size w wa:=X9▸gv.alloc aa _;have uj:wa.heap.size=wr.heap.size+1:=by rw[<- X9];simp
     have Um:kI wa w.heap.size n ord:=X9▸World.rowIs.alloc b6 _;have sd:=wW w.heap.size n ord k wa VZ (Um.nums hle);have SV:rS wa (cw k) (ins k):=(dW.Bw k I4).below (dW.lt k I4) hba;have VO:=dW.lt k I4;have gY:=Fa w.heap.size n (cw k) (ins k).length ord (ins k) wa VZ (dW.short k I4) aa aa (Um.nums hle) SV;cases NZ:ord.contains k
     ·rw[NZ] at sd;have hll:ord.length<n:=ja.room I4 NZ;cases qg:(ins k).all (mg ord)
      ·rw[qg] at gY;have GH:pv ins ord k=ord:=by simp only[pv];rw[if_neg];rw[qg];simp
       rw[GH] at wX;go_wp2_with (first|(go_at_call 190;(try rw[X9]);refine sd.mono ?_;rintro e w' ⟨rfl,rfl⟩)|(go_at_call 191;refine gY.mono ?_;rintro e w2 ⟨rfl,pE,Ya⟩));exact⟨⟨k+1,aa,by go_num,by rw[wX],hba.trans (pE.mono aa),aa,by rw[wX];exact World.rowIs.of_block Um (pE.block _ aa)⟩,by simp[intOf];omega⟩
      ·rw[qg] at gY;have GH:pv ins ord k=ord++[k]:=by simp only[pv];rw[if_pos ⟨NZ,qg⟩]
       rw[GH] at wX;have afq:∀w2:ae,kI w2 w.heap.size n ord->(Builtin.append_ #[130,130] 130 #[.slice (some ⟨w.heap.size,0,none⟩) ord.length n,.slice (some ⟨w2.heap.size,0,none⟩) 1 1]).run ar (w2.alloc (.cells #[.int .i64 k] 3))=.ok (.slice (some ⟨w.heap.size,0,none⟩) (ord.length+1) n) ((w2.alloc (.cells #[.int .i64 k] 3)).setCell ⟨w.heap.size,ord.length,none⟩ (.int .i64 k)):=fun w2 h2=>BH _ w.heap.size n k ord w2.heap.size (World.rowIs.alloc h2 _) hll (vw _ _ _ 0);go_wp2_with (first|(go_at_call 190;(try rw[X9]);refine sd.mono ?_;rintro e w' ⟨rfl,rfl⟩)|(go_at_call 191;refine gY.mono ?_;rintro e w2 ⟨rfl,pE,Ya⟩;have Kp:kI w2 w.heap.size n ord:=World.rowIs.of_block Um (pE.block _ aa);have hap:=afq w2 Kp)|(at_builtin;refine fM rfl _ _ 130 rfl rfl rfl hap ?_));refine⟨⟨k+1,aa,by go_num,by rw[wX];simp,?_,by simp[World.setCell];omega,?_⟩,by simp[intOf];omega⟩
       ·exact((hba.trans (pE.mono aa)).alloc aa _).setCell (ag _) _
       ·rw[wX];exact kI.put (World.rowIs.alloc Kp _) hll k
     ·rw[NZ] at sd;have GH:pv ins ord k=ord:=by simp only[pv];rw[if_neg];rw[NZ];simp
      rw[GH] at wX;go_wp2_with (go_at_call 190;(try rw[X9]);refine sd.mono ?_;rintro e w' ⟨rfl,rfl⟩);exact⟨⟨k+1,aa,by go_num,by rw[wX],hba,aa,by rw[wX];exact Um⟩,by simp[intOf];omega⟩
    ·have e:k=n:=aa;subst e;go_wp2;exact⟨⟨r+1,aa,by go_num,rfl,gv,hz,b6⟩,by simp[intOf];omega⟩
  ·go_wp2;go_ret;have e:r=n:=aa;subst e;exact⟨rfl,gv,hz,b6⟩
end
section
open Go.RowKit
def mO(ins:Nat->List (Bool×Nat))(ord:List Nat):Prop:=∀i (h:i<ord.length),∀m,(true,m)∈ins ord[i]->∃k,∃hk:k<ord.length,k<i/\ord[k]=m
theorem BJ(ins:Nat->List (Bool×Nat))(ord:List Nat)(s x:Nat)(h:x∈ord):x∈pv ins ord s:=by
 unfold pv;split
 ·simp[h]
 ·exact h
theorem BK(ins:Nat->List (Bool×Nat))(ord:List Nat)(x:Nat)(h:x∈ord):∀k,x∈mh ins ord k
 |0=>by simpa[mh] using h
 |k+1=>by rw[pw];exact BJ _ _ _ _ (BK ins ord x h k)
theorem mO.step{ins:Nat->List (Bool×Nat)}{ord:List Nat}(h:mO ins ord)(s:Nat):mO ins (pv ins ord s):=by
 unfold pv;split
 ·rename_i hc;intro i hi m hm;have gY:=hc.2;rw[List.all_eq_true] at gY;by_cases bZ:i<ord.length
  ·rw[eW bZ] at hm;obtain⟨k,hk,h1,h2⟩:=h i bZ m hm;exact⟨k,eR,h1,by rw[eW hk];exact h2⟩
  ·have e:i=ord.length:=by simp at hi;omega
   subst e;simp at hm;have:=gY _ hm;simp[mg] at this;obtain⟨k,hk,e⟩:=a8 this;exact⟨k,eR,hk,by rw[eW hk];exact e⟩
 ·exact h
theorem mO.pass{ins:Nat->List (Bool×Nat)}{ord:List Nat}(h:mO ins ord):∀k,mO ins (mh ins ord k)
 |0=>by simpa[mh] using h
 |k+1=>by rw[pw];exact(mO.pass h k).step k
theorem mO.all(ins:Nat->List (Bool×Nat))(n:Nat):∀r,mO ins (dK ins n r)
 |0=>fun i h=>by simp[dK] at h
 |r+1=>(mO.all ins n r).pass n
theorem Ea(ins:Nat->List (Bool×Nat))(ord:List Nat)(s:Nat)(h:∀m,(true,m)∈ins s->m∈ord):∀k,s<k->s∈mh ins ord k
 |0,hk=>aa
 |k+1,hk=>by
  rw[pw];by_cases e:s=k
  ·subst e;unfold pv;split
   ·simp
   ·rename_i hc;have gY:(ins s).all (mg (mh ins ord s))=true:=by
     rw[List.all_eq_true];rintro⟨b,m⟩ hm;cases b
     ·simp[mg]
     ·have:=BK ins ord m (h m hm) s;simp[mg,this]
    cases Js:(mh ins ord s).contains s
    ·exact absurd ⟨Js,gY⟩ hc
    ·simpa using Js
  ·exact BJ _ _ _ _ (Ea ins ord s h k aa)
theorem BL(ins:Nat->List (Bool×Nat))(n:Nat)(rk:Nat->Nat)(Un:∀s,s<n->∀m,(true,m)∈ins s->m<n/\rk m<rk s):∀r s,s<n->rk s<r->s∈dK ins n r
 |0,s,_,h=>aa
 |r+1,s,hs,h=>by
  refine Ea ins _ s (fun m hm=>?_) n hs;obtain⟨h1,h2⟩:=Un s hs m hm;exact BL ins n rk Un r m h1 aa
theorem KD(n:Nat)(l:List Nat)(hd:l.Nodup)(hl:∀x∈l,x<n)(h:∀s,s<n->s∈l):l.length=n:=by
 have h1:=tR n l hd hl;have h2:∀k,k<=n->∀l:List Nat,l.Nodup->(∀s,s<k->s∈l)->k<=l.length:=by
  intro k
  induction k with
  |zero=>intro _ l _ _;exact aQ _
  |succ k ih =>
   intro hk l hd h;have h3:=ih aa (l.erase k) (hd.erase k) (fun s hs=>(hd.mem_erase_iff).2 ⟨aa,h s aa⟩);have h4:=List.length_erase (a:=k) (l:=l);rw[if_pos (h k aa)] at h4;have:0<l.length:=jS (h k aa);omega
 have:=h2 n (ag _) l hd h;omega
theorem Q1(ins:Nat->List (Bool×Nat))(n:Nat)(rk:Nat->Nat)(hb:∀s,s<n->rk s<n)(Un:∀s,s<n->∀m,(true,m)∈ins s->m<n/\rk m<rk s):
  (dK ins n n).length=n/\nF n (dK ins n n)/\(∀s,s<n->s∈dK ins n n)/\mO ins (dK ins n n):=by
 have h1:=nF.all n ins n;have h2:∀s,s<n->s∈dK ins n n:=fun s hs=>BL ins n rk Un n s hs (hb s hs);exact⟨KD n _ h1.1 h1.2 h2,h1,h2,mO.all ins n n⟩
end
end Go.Proofs.Kz
namespace Go.Proofs
section
open Go.Shelf
end
end Go.Proofs
namespace Go.Proofs.Kz
open Go.Proofs.Tryz
open Go.Proofs.Tryz renaming prog → ar
open _root_.ByteArray renaming empty → aN
open Go.Proofs
section
open Go.RowKit
theorem tn:∀a b:List UInt8,Op.bytesLess a b=decide (Lib.compareBytes a b<0)
 | [],[]=>by simp[Op.bytesLess,Lib.compareBytes]
 | [],_::_=>by simp[Op.bytesLess,Lib.compareBytes]
 |_::_,[]=>by simp[Op.bytesLess,Lib.compareBytes]
 |x::r,y::s=>by
  simp only[Op.bytesLess,Lib.compareBytes];by_cases h1:x<y
  ·simp[h1]
  ·by_cases h2:y<x
   ·have:x≠y:=fun e=>by subst e;exact UInt8.lt_irrefl _ h2
    simp[h1,h2,this]
   ·have e:x=y:=gH (UInt8.not_lt.1 h2) (UInt8.not_lt.1 h1);subst e;simp[h1,tn r s]
theorem Fb(less:Nat->Bool)(n:Nat)(hm:∀i j,i<=j->j<n->less j=true->less i=true):∀f lo hi,lo<=hi->hi<=n->hi-lo<=f->(∀t,t<lo->less t=true)->(∀t,hi<=t->t<n->less t=false) ->
  lo<=Lib.bsGo less f lo hi/\Lib.bsGo less f lo hi<=hi/\(∀t,t<Lib.bsGo less f lo hi->less t=true)/\∀t,Lib.bsGo less f lo hi<=t->t<n->less t=false
 |0,lo,hi,h1,h2,h3,h4,h5=>by
  have e:lo=hi:=aa;subst e;exact⟨ag _,ag _,h4,h5⟩
 |f+1,lo,hi,h1,h2,h3,h4,h5=>by
  simp only[Lib.bsGo];by_cases bZ:lo<hi
  ·rw[if_pos bZ];cases hl:less ((lo+hi)/2)
   ·simp only[fl,if_false];obtain⟨k1,k2,k3,k4⟩:=Fb less n hm f lo ((lo+hi)/2) aa aa aa h4 (fun t ht Uo=>by
     cases hq:less t
     ·rfl
     ·have:=hm _ t ht Uo hq;rw[hl] at this;cases this)
    exact⟨k1,aa,k3,k4⟩
   ·simp only[if_true];obtain⟨k1,k2,k3,k4⟩:=Fb less n hm f ((lo+hi)/2+1) hi aa h2 aa (fun t ht=>hm t _ aa aa hl) h5;exact⟨aa,k2,k3,k4⟩
  ·rw[if_neg bZ];have e:lo=hi:=aa;subst e;exact⟨ag _,ag _,h4,h5⟩
def px(xs:List ah)(x:ah):Nat:=Lib.bsGo (fun t=>Op.bytesLess (xs.getD t aN).toList x.toList) xs.length 0 xs.length
def r8(xs:List ah)(x:ah):Bool:=decide (px xs x<xs.length/\xs.getD (px xs x) aN=x)
theorem KE(b c:Nat)(p:Option Addr)(xs:List ah)(x:ah)(w:ae)(hn:xs.length<=100000)(hp:xs≠[]->p=some ⟨b,0,none⟩)(ht:dP w b 0 xs):
  Calls ar 77 #[.slice p xs.length c,.string x] w fun e w'=>e=.returned (.tuple #[.int .i64 (px xs x:Nat),.bool (r8 xs x)])/\∃q,w'=w.drewN q:=by
 by_cases h0:xs=[]
 ·subst h0;exact(Any2.slices_BinarySearch_string_empty Tryz.HA p c x w).mono fun e w' hq=>by
   obtain⟨rfl,rfl⟩:=hq;exact⟨by simp[px,r8,Lib.bsGo],0,rfl⟩
 ·obtain rfl:=hp h0;exact Any2.slices_BinarySearch_string Tryz.HA b 0 xs.length c (fun j=>xs.getD j aN) x w aa fun j hj=>by
   rw[ht j hj];simp[hj]
def nY(xs:List ah):Prop:=∀i j (hi:i<xs.length) (hj:j<xs.length),i<j->Lib.compareBytes xs[i].toList xs[j].toList<0
theorem Ah(xs:List ah)(hs:nY xs)(x:ah):r8 xs x=true↔x∈xs:=by
 have LD:∀i j,i<=j->j<xs.length->Op.bytesLess (xs.getD j aN).toList x.toList=true->Op.bytesLess (xs.getD i aN).toList x.toList=true:=by
  intro i j DU hj hl;by_cases e:i=j
  ·subst e;exact hl
  ·rw[tn] at *;have hi:i<xs.length:=aa;have h1:=hs i j hi hj aa;simp only[List.getD_eq_getElem?_getD,cp hi,cp hj,y7,decide_eq_true_eq] at *;exact mN _ _ _ h1 hl
 obtain⟨k1,k2,k3,k4⟩:=Fb _ xs.length LD xs.length 0 xs.length (aQ _) (ag _) aa (fun t ht=>aa) (fun t ht h=>aa);constructor
 ·intro h;simp only[r8,decide_eq_true_eq] at h;obtain⟨h1,h2⟩:=h;rw[<- h2];simp[h1]
 ·intro hx;obtain⟨j,hj,rfl⟩:=a8 hx;have PZ:Op.bytesLess (xs.getD j aN).toList xs[j].toList=false:=by
   rw[tn];simp[hj,tP]
  have hle:px xs xs[j]<=j:=cL fun bZ=>by
   have:=k3 j bZ;rw[PZ] at this;cases this
  have Nc:j<=px xs xs[j]:=cL fun bZ=>by
   have h1:=k4 (px xs xs[j]) (ag _) aa;have hp:px xs xs[j]<xs.length:=aa;have h2:=hs (px xs xs[j]) j hp hj bZ;rw[tn] at h1;simp only[List.getD_eq_getElem?_getD,cp hp,y7] at h1;simp at h1;omega
  have e:px xs xs[j]=j:=aa;simp only[r8,decide_eq_true_eq];rw[e];exact⟨hj,by simp[hj]⟩
end
section
open Go.RowKit
theorem Up:(ar.info? 280).map (fun i=>(i.zero,i.size,i.bytes))=some (some (.agg #[.bool false,.int .i64 0]),2,16):=af
theorem Fc(w:ae)(n:Nat)(hn:n<=100000):(Instr.makeSlice 218 (.int .i64 (n:Int)) (.int .i64 (n:Int))).run ar w=.ok (.slice (some ⟨w.heap.size,0,none⟩) n n) (w.alloc (.cells (madeCells #[.bool false,.int .i64 0] (n*2)) 280)):=by
 obtain⟨i,hi,hz⟩:=Option.map_eq_some_iff.1 Up;simp only[WS] at hz;obtain⟨hz,hs,hb⟩:=hz;have:=run_make (P:=ar) w 218 280 i _ underlying218 hi hz .i64 .i64 n n aa (fh _) (by rw[hb];omega) aa;rw[this,hs];simp[Value.cells]
def jZ(l:List (Bool×Nat))(j:Nat):Value:=if j%2=0 then .bool (l.getD (j/2) (false,0)).1 else .int .i64 ((l.getD (j/2) (false,0)).2:Nat)
def pS(outs sources:List ah)(x:ah):Bool×Nat:=(r8 outs x,if r8 outs x then px outs x else px sources x)
theorem y6(b c:Nat)(p:Option Addr)(xs:List ah)(x:ah)(w:ae)(hn:xs.length<=100000)(hp:xs≠[]->p=some ⟨b,0,none⟩)(ht:dP w b 0 xs):
  Calls ar 77 #[.slice p xs.length c,.string x] w fun e w'=>e=.returned (.tuple #[.int .i64 (px xs x:Nat),.bool (r8 xs x)])/\w'.heap=w.heap/\∀w0 B,Below B w0 w->Below B w0 w' :=
 (KE b c p xs x w hn hp ht).mono fun e w' ⟨h1,q,h2⟩=>⟨h1,by rw[h2];rfl,fun w0 B hb=>by rw[h2];exact⟨hb.os,hb.tape,hb.output,hb.size,hb.block⟩⟩
theorem qy{w w':ae}(h:w'.heap=w.heap)(a:Addr):w'.cell? a=w.cell? a:=by simp[World.cell?,h]
theorem za{w w':ae}(h:w'.heap=w.heap)(a:Addr):w'.frozen? a=w.frozen? a:=by simp[World.frozen?,h]
theorem Q2{w:ae}{B t n k:Nat}{lk:List (Bool×Nat)}{b:Bool}{m:Nat}(b6:w.rowIs B t (n*2) fun j=>if j<k*2 then jZ lk j else jZ [] j)(hl:lk.getD k (false,0)=(b,m)):
  ((w.setCell ⟨B,k*2,none⟩ (.bool b)).setCell ⟨B,k*2+1,none⟩ (.int .i64 m)).rowIs B t (n*2) fun j=>if j<(k+1)*2 then jZ lk j else jZ [] j:=by
 refine((b6.set (k*2) _).set (k*2+1) _).congr fun j hj=>?_;by_cases e1:j=k*2+1
 ·subst e1;rw[if_pos rfl,if_pos aa];have h1:(k*2+1)%2=1:=aa;have h2:(k*2+1)/2=k:=aa;simp only[jZ,h1,h2,hl];rfl
 ·by_cases e2:j=k*2
  ·subst e2;rw[if_neg e1,if_pos rfl,if_pos aa];have h1:(k*2)%2=0:=aa;have h2:(k*2)/2=k:=aa;simp only[jZ,h1,h2,hl];rfl
  ·rw[if_neg e1,if_neg e2];by_cases e3:j<k*2
   ·rw[if_pos e3,if_pos aa]
   ·rw[if_neg e3,if_neg aa]
theorem KF(nb nc ob oc sb sc:Nat)(np sp:Option Addr)(names outs sources:List ah)(w:ae)(h1:names.length<=100000)(h2:outs.length<=100000)(h3:sources.length<=100000)(ug:names≠[]->np=some ⟨nb,0,none⟩/\nb<w.heap.size)(xB:sources≠[]->sp=some ⟨sb,0,none⟩/\sb<w.heap.size)(fD:ob<w.heap.size)(hn:dP w nb 0 names)(ho:dP w ob 0 outs)(hs:dP w sb 0 sources):
  Calls ar 149 #[.slice np names.length nc,.slice (some ⟨ob,0,none⟩) outs.length oc,.slice sp sources.length sc] w fun e w'=>e=.returned (.slice (some ⟨w.heap.size,0,none⟩) names.length names.length)/\Below w.heap.size w w'/\w.heap.size<w'.heap.size /\
   w'.rowIs w.heap.size 280 (names.length*2) (jZ (names.map (pS outs sources))):=by
 have LV:=fun w=>Fc w names.length h1;go_enter func149,ntmps149;go_wp2;go_loopw [17] (fun i w'=>∃k:Nat,k<=names.length/\i=.int .i64 k/\Below w.heap.size w w'/\w.heap.size<w'.heap.size/\w'.rowIs w.heap.size 280 (names.length*2) (fun j=>if j<k*2 then jZ (names.map (pS outs sources)) j else jZ [] j)) (fun i _=>names.length-(intOf i).toNat)
 case atStart =>
  refine⟨0,aQ _,rfl,(Below.refl _ _).alloc (ag _) _,an,_,jR _ _,by simp[size_madeCells],fun j hj=>?_⟩;simp only[madeCells,br,Array.getElem?_range,hj,if_true,cR];rcases fL j with e|e<;>simp[e,jZ]
 case round =>
  obtain⟨k,hk,rfl,gv,hz,b6⟩:=hrel;by_cases bZ:k<names.length
  ·obtain⟨rfl,EK⟩:=ug (fun e=>by rw[e] at bZ;simp at bZ);have c0:=hn.below EK gv k bZ;rw[bh] at c0;have hse:=y6 ob oc (some ⟨ob,0,none⟩) outs names[k] wr h2 (fun _=>rfl) (ho.below fD gv);have hss:∀w2:ae,w2.heap=wr.heap->Calls ar 77 #[.slice sp sources.length sc,.string names[k]] w2 fun e w'=>e=.returned (.tuple #[.int .i64 (px sources names[k]:Nat),.bool (r8 sources names[k])])/\w'.heap=w2.heap/\∀w0 B,Below B w0 w2->Below B w0 w':=fun w2 zP =>
    y6 sb sc sp sources names[k] w2 h3 (fun h=>(xB h).1) (fun j hj=>by
     obtain⟨_,VC⟩:=xB (fun e=>by rw[e] at hj;simp at hj);rw[qy zP];exact hs.below VC gv j hj)
   have d0:wr.cell? ⟨w.heap.size,k*2,none⟩=some (.bool false):=by rw[b6.cell aa,if_neg aa];simp[jZ]
   have d1:wr.cell? ⟨w.heap.size,k*2+1,none⟩=some (.int .i64 0):=by rw[b6.cell aa,if_neg aa];simp[jZ]
   have f0:∀j,wr.frozen? ⟨w.heap.size,j,none⟩=false:=fun j=>b6.frozen j;have L9:(names.map (pS outs sources)).getD k (false,0)=pS outs sources names[k]:=by simp[bZ]
   generalize hx:names[k]=x at *;have MY:pS outs sources x=(r8 outs x,if r8 outs x then px outs x else px sources x):=rfl;clear hn ho hs ug;generalize r8 outs x=ho at *;generalize px outs x=po at *;generalize px sources x=ps at *;generalize r8 sources x=ts at *;generalize names.map (pS outs sources)=lk at *;generalize pS outs sources x=lx at *;cases ho
   ·go_wp2_with (first|(go_at_call 77;refine A4.mono ?_;rintro e w3 ⟨rfl,hw3,vE⟩;have g0:=(qy (hw3.trans zP) _).trans d0;have g1:=(qy (hw3.trans zP) _).trans d1;have g2:=fun j=>(za (hw3.trans zP) _).trans (f0 j))|(go_at_call 77;refine hse.mono ?_;rintro e w2 ⟨rfl,zP,pE⟩;have A4:=hss w2 zP));refine⟨⟨k+1,aa,by go_num,((vE _ _ (pE _ _ gv)).setCell (ag _) _).setCell (ag _) _,?_,?_⟩,by simp[intOf];omega⟩
    ·simp[World.setCell,hw3,zP];exact hz
    ·exact Q2 (b6.of_block (by rw[hw3,zP])) (by rw[L9,MY];rfl)
   ·go_wp2_with (go_at_call 77;refine hse.mono ?_;rintro e w2 ⟨rfl,zP,pE⟩;have g0:=(qy zP _).trans d0;have g1:=(qy zP _).trans d1;have g2:=fun j=>(za zP _).trans (f0 j));refine⟨⟨k+1,aa,by go_num,((pE _ _ gv).setCell (ag _) _).setCell (ag _) _,?_,?_⟩,by simp[intOf];omega⟩
    ·simp[World.setCell,zP];exact hz
    ·exact Q2 (b6.of_block (by rw[zP])) (by rw[L9,MY];rfl)
  ·go_wp2;go_ret;exact⟨rfl,gv,hz,b6.congr fun i hi=>by rw[if_pos aa]⟩
end
section
open Go.RowKit
def rT(outs:List ah)(l:List ah):List ah:=l.filter fun x=>!Lib.containsS outs x
def ll(outs:List ah)(nm:Nat->List ah):Nat->List ah
 |0=>[]
 |k+1=>ll outs nm k++rT outs (nm k)
theorem py(outs:List ah)(nm:Nat->List ah)(n:Nat)(h:∀i,i<n->(nm i).length<=4):∀k,k<=n->(ll outs nm k).length<=4*k
 |0,_=>by simp[ll]
 |k+1,hk=>by
  have h1:=py outs nm n h k aa;have h2:=h k aa;have h3:(rT outs (nm k)).length<=(nm k).length:=eC _ _;simp[ll];omega
theorem KG(outs:List ah)(l:List ah)(j:Nat)(h:j<l.length):rT outs (l.take (j+1))=rT outs (l.take j)++(if Lib.containsS outs l[j] then[] else[l[j]]):=by
 rw[take_succ l j h];simp only[rT,List.filter_append,List.filter_cons,List.filter_nil];cases Lib.containsS outs l[j]<;>simp
structure wY(w:ae)(b:Nat)(rs:List aL)(nm:Nat->List ah)(nb:Nat->Nat):Prop where
 at_:dX w b rs
 len:∀i (h:i<rs.length),rs[i].sl=(nm i).length
 ptr:∀i (h:i<rs.length),nm i≠[]->rs[i].sa=some ⟨nb i,0,none⟩/\nb i<w.heap.size
 txt:∀i,i<rs.length->dP w (nb i) 0 (nm i)
 four:∀i,i<rs.length->(nm i).length<=4
theorem wZ(b c:Nat)(xs:List ah)(x:ah)(w:ae)(hn:xs.length<=100000)(ht:dP w b 0 xs):
  Calls ar 80 #[.slice (some ⟨b,0,none⟩) xs.length c,.string x] w fun e w'=>e=.returned (.bool (Lib.containsS xs x))/\w'=w:=by
 have:=Tryz.slices_Contains_string b 0 xs.length c xs x w (ag _) aa (fun j hj=>by rw[ht j hj];simp[hj]);rw[dz] at this;exact this
theorem pz(W:ae)(lo:Nat)(v:Value)(xs:List ah)(x:ah)(A:Nat)(h:W.ownsRow lo 9 1 v xs.length (xs.map .string))(hn:xs.length<=100000)(uL:lo<=W.heap.size)(ha:W.cell? ⟨A,0,none⟩=some (.string x)):
  ∃v' W',(Builtin.append_ #[40,40] 40 #[v,.slice (some ⟨A,0,none⟩) 1 1]).run ar W=.ok v' W'/\W'.ownsRow lo 9 1 v' (xs++[x]).length ((xs++[x]).map .string)/\W.grownBy W' v.ownBlock:=by
 obtain⟨i,hi,oF⟩:=Option.map_eq_some_iff.1 pq;simp only[WS] at oF;obtain⟨v',W',e1,e2,e3,_⟩:=run_append_own (P:=ar) W lo 40 40 9 i _ 1 16 underlying40 hi oF.1 oF.2.1 oF.2.2 rfl aa v xs.length (xs.map .string) h ⟨A,0,none⟩ 1 1 [.string x] rfl (fun j u hj=>by
  cases j with
  |zero=>simp at hj;subst hj;simpa[Addr.add] using ha
  |succ j=>simp at hj) (by simp;rfl) (by simp[maxLen];omega) aa uL
 exact⟨v',W',e1,by simpa using e2,e3⟩
theorem yh{w:ae}{lo e sz n:Nat}{v:Value}{xs:List Value}(h:w.ownsRow lo e sz v n xs):∀k,v.ownBlock=some k->lo<=k:=fun k hk=>by
 obtain⟨_,hc⟩:=h;rcases hc with⟨rfl,_⟩|⟨g,cap,cur,rfl,h1,_⟩
 ·cases hk
 ·cases hk;exact h1
end
section
open Go.RowKit
theorem oP{w:ae}{lo e sz n:Nat}{v:Value}{xs:List Value}(h:w.ownsRow lo e sz v n xs)(x:Obj):(w.alloc x).ownsRow lo e sz v n xs:=cQ h fun g hg QV=>by
 obtain⟨_,hc⟩:=h;rcases hc with⟨rfl,_⟩|⟨g',cap,cur,rfl,h5,h6,_⟩
 ·cases hg
 ·have e:g=g':=aK hg;subst e;exact Below.heap_alloc _ _ _ (Array.getElem?_eq_some_iff.1 h6).1
theorem Fe(b c ob oc:Nat)(p:Option Addr)(rs:List aL)(nm:Nat->List ah)(nb:Nat->Nat)(outs:List ah)(w:ae)(h1:rs.length<=1000)(h2:outs.length<=100000)(hp:rs≠[]->p=some ⟨b,0,none⟩/\b<w.heap.size)(fD:ob<w.heap.size)(hr:wY w b rs nm nb)(ho:dP w ob 0 outs){S C:ae->Value->ae->Prop}(JY:∀W v,W.ownsRow w.heap.size 9 1 v (ll outs nm rs.length).length ((ll outs nm rs.length).map .string)->Calls ar 188 #[v] W fun e w'=>e=.returned (.tuple #[])/\S W v w')(hco:∀W v W1,W.ownsRow w.heap.size 9 1 v (ll outs nm rs.length).length ((ll outs nm rs.length).map .string)->S W v W1->Calls ar 189 #[v] W1 fun e w'=>∃v',e=.returned v'/\C W v' w'):
  Calls ar 148 #[.slice p rs.length c,.slice (some ⟨ob,0,none⟩) outs.length oc] w fun e w'=>∃v' W,e=.returned v'/\Below w.heap.size w W/\w.heap.size<=W.heap.size/\C W v' w':=by
 go_enter func148,ntmps148;go_wp2;go_loopw [5,12] (fun v i w'=>∃k:Nat,k<=rs.length/\i=.int .i64 k/\Below w.heap.size w w'/\w.heap.size<=w'.heap.size/\w'.ownsRow w.heap.size 9 1 v (ll outs nm k).length ((ll outs nm k).map .string)) (fun v i _=>rs.length-(intOf i).toNat)
 case atStart=>exact⟨0,aQ _,rfl,Below.refl _ _,ag _,by simp[ll],.inl ⟨rfl,rfl⟩⟩
 case round =>
  obtain⟨k,hk,rfl,gv,hz,b6⟩:=hrel;by_cases bZ:k<rs.length
  ·obtain⟨rfl,hb⟩:=hp (fun e=>by rw[e] at bZ;simp at bZ);obtain⟨c0,c1,c2⟩:=hr.at_.below hb gv k bZ;have hlen:=hr.len k bZ;have abt:=hr.ptr k bZ;have htx:=hr.txt k bZ;have h4:=hr.four k bZ;have VW:=py outs nm rs.length hr.four k hk;have C5:ll outs nm (k+1)=ll outs nm k++rT outs (nm k):=rfl;generalize ll outs nm k=raw at *;generalize hri:rs[k]=r at *;obtain⟨out,eD,sa,sl,sc⟩:=r;simp only at c0 c1 c2 hlen abt;subst hlen;go_wp2;go_loopw [5,19] (fun v i w'=>∃j:Nat,j<=(nm k).length/\i=.int .i64 j/\Below w.heap.size w w'/\w.heap.size<=w'.heap.size/\w'.ownsRow w.heap.size 9 1 v (raw++rT outs ((nm k).take j)).length ((raw++rT outs ((nm k).take j)).map .string)) (fun v i _=>(nm k).length-(intOf i).toNat)
   case atStart=>exact⟨0,aQ _,rfl,gv.alloc aa _,eR,by simpa[rT] using oP b6 _⟩
   case round =>
    clear gv hz b6;obtain⟨j,hj,rfl,gv,hz,b6⟩:=hrel;by_cases sf:j<(nm k).length
    ·obtain⟨rfl,EK⟩:=abt (fun e=>by rw[e] at sf;simp at sf);have d0:=htx.below EK gv j sf;rw[bh] at d0;have sd:=wZ ob oc outs (nm k)[j] wr h2 (ho.below fD gv);have V2:=KG outs (nm k) j sf;generalize hx:(nm k)[j]=x at *;have Cy:(rT outs ((nm k).take j)).length<=j:=aR (eC _ _) eR;cases NZ:Lib.containsS outs x
     ·rw[NZ] at sd V2;simp only[fl,if_false] at V2;obtain⟨v',W',e1,e2,e3⟩:=pz (wr.alloc (.cells #[.string x] 9)) w.heap.size _ _ x wr.heap.size (oP b6 _) eR eR (vw _ _ _ 0);have vE:=Below.grown (gv.alloc aa _) e3 eR (yh b6);go_wp2_with (first|(go_at_call 80;refine sd.mono ?_;rintro e w' ⟨rfl,rfl⟩)|(at_builtin;refine fM rfl _ _ 40 rfl rfl rfl e1 ?_));exact⟨⟨j+1,aa,by go_num,vE,vE.size,by rw[V2,<- List.append_assoc];exact e2⟩,by simp[intOf];omega⟩
     ·rw[NZ] at sd V2;simp only[if_true,List.append_nil] at V2;go_wp2_with (go_at_call 80;refine sd.mono ?_;rintro e w' ⟨rfl,rfl⟩);exact⟨⟨j+1,aa,by go_num,gv,hz,by rw[V2];exact b6⟩,by simp[intOf];omega⟩
    ·have e:j=(nm k).length:=aa;subst e;rw[dz] at b6;go_wp2;exact⟨⟨k+1,aa,by go_num,gv,hz,by rw[C5];exact b6⟩,by simp[intOf];omega⟩
  ·have e:k=rs.length:=aa;subst e;have hs:=JY _ _ b6;go_wp2_with (first|(go_at_call 188;refine hs.mono ?_;rintro e w' ⟨rfl,hS⟩;have hc:=hco _ _ _ b6 hS)|(go_at_call 189;refine hc.mono ?_;rintro e w2 ⟨v',rfl,hC⟩));go_ret;exact⟨v',wr,rfl,gv,hz,hC⟩
end
section
open Go.RowKit Go.Sort Go.Lib
def bytesOf(x:ah):List UInt8:=x.data.toList
def jD(raw:List ah):List (List UInt8):=(raw.map bytesOf).mergeSort fun x y=>decide (x<=y)
def ju(raw:List ah):List ah:=(Lib.compact (jD raw)).map fun l=>⟨l.toArray⟩
theorem Q3(w:ae):Calls ar 188 #[.slice none 0 0] w fun e w'=>e=.returned (.tuple #[])/\w'.heap=w.heap:=by
 have hl:=E7 0 w aa;have h2:∀W,Calls ar 225 #[.slice none 0 0,.int .i64 0,.int .i64 0] W fun e w'=>e=.returned (.tuple #[])/\w'.heap=W.heap:=fun W=>by
  go_enter func225,ntmps225;go_wp2;refine wp_loop_rounds 1 ?_;rw[rounds_succ];go_wp2
  go_end0
  exact⟨rfl,rfl⟩
 have h3:∀W lim,Calls ar 207 #[.slice none 0 0,.int .i64 0,.int .i64 0,.int .i64 lim] W fun e w'=>e=.returned (.tuple #[])/\w'.heap=W.heap:=fun W lim=>by
  go_enter func207,ntmps207;go_wp2;refine wp_loop_rounds 1 ?_;rw[rounds_succ];go_wp2_with (go_at_call 225;refine(h2 _).mono ?_;rintro e w' ⟨rfl,hw⟩)
  (try simp only[Exit.inBlock,Exit.then])
  refine bodyPost_ret (results_none af _ _).1 rfl ?_;exact⟨rfl,hw⟩
 go_enter func188,ntmps188;go_wp2_with (first|(go_at_call 205;refine hl.mono ?_;rintro e w' ⟨⟨l,rfl⟩,rfl⟩)|(go_at_call 207;refine(h3 _ _).mono ?_;rintro e w' ⟨rfl,hw⟩))
 go_end0
 exact⟨rfl,hw⟩
def Q4(lo:Nat)(raw:List ah)(W:ae)(v:Value)(W1:ae):Prop :=
 (v=.slice none 0 0/\raw=[]/\W1.heap=W.heap)\/∃g cap,v=.slice (some ⟨g,0,none⟩) raw.length cap/\raw.length<=cap/\lo<=g/\g<W.heap.size/\W.heap.size<=W1.heap.size/\(∀b,b<W.heap.size->b≠g->W1.heap[b]?=W.heap[b]?)/\Holds encStr W1 g 0 (jD raw).toArray
theorem qz(raw:List ah):(jD raw).length=raw.length:=by simp[jD,List.length_mergeSort]
theorem Q5(lo:Nat)(raw:List ah)(W:ae)(v:Value)(h:W.ownsRow lo 9 1 v raw.length (raw.map .string))(hn:raw.length<=100000):
  Calls ar 188 #[v] W fun e w'=>e=.returned (.tuple #[])/\Q4 lo raw W v w':=by
 obtain⟨_,hc⟩:=h;rcases hc with⟨rfl,h0⟩|⟨g,cap,cur,rfl,h1,h2,h3,h4,h5,h6⟩
 ·exact(Q3 W).mono fun e w' ⟨h1,h2⟩=>⟨h1,.inl ⟨rfl,List.length_eq_zero_iff.1 h0,h2⟩⟩
 ·have hg:g<W.heap.size:=(Array.getElem?_eq_some_iff.1 h2).1;have hH:Holds encStr W g 0 (raw.map bytesOf).toArray:=fun j hj=>by
   have rY:j<raw.length:=by simpa using hj
   rw[bh];refine⟨?_,by simp[World.frozen?,h2]⟩;have e:(raw.map Value.string)[j]?=cur[j]?:=by
    rw[<- h6,eU aa,Array.getElem?_toList]
   simp only[World.cell?,h2];simp only[Option.isSome_none,fl,if_false];rw[<- e];simp[rY,encStr,bytesOf]
  have hs:=Tryz.slices_Sort_string g 0 cap (raw.map bytesOf) W hH hg eR;rw[bG] at hs;refine hs.mono fun e w' hq=>?_;obtain⟨rfl,n,os,rfl⟩:=hq;have pE:g<(putRow encStr (Go.Sort.ahead W n) g 0 (jD raw).toArray).heap.size:=by simp[putRow,mapBlock,Go.Sort.ahead];exact hg
  refine⟨rfl,.inr ⟨g,cap,rfl,h3,h1,hg,?_,fun b hb cV=>?_,?_⟩⟩
  ·simp[Go.Sort.grow,putRow,mapBlock,Go.Sort.ahead]
  ·rw[heap_grow_old _ _ (by simp[putRow,mapBlock,Go.Sort.ahead];exact hb)];simp only[putRow,mapBlock,Go.Sort.ahead];rw[er,if_neg (fun e=>cV e.symm)]
  ·exact holds_grow encStr _ os g 0 _ pE (holds_putRow encStr _ g 0 _ _ hH (by simp[List.length_mergeSort]))
end
section
open Go.RowKit Go.Sort Go.Lib
def Yb(lo:Nat)(raw:List ah)(W:ae)(v:Value)(W1:ae):Prop :=
 (v=.slice none 0 0/\ju raw=[]/\W1.heap=W.heap)\/∃g cap,v=.slice (some ⟨g,0,none⟩) (ju raw).length cap/\(ju raw).length<=cap/\lo<=g/\g<W.heap.size/\W.heap.size<=W1.heap.size/\(∀b,b<W.heap.size->b≠g->W1.heap[b]?=W.heap[b]?)/\dP W1 g 0 (ju raw)
theorem BM{α:Type}[Inhabited α][DecidableEq α](zs:List α):(Lib.compact zs).length<=zs.length:=by
 unfold Lib.compact Lib.compactUpTo;rw[bG];exact aR (eC _ _) an
theorem H6(lo:Nat)(raw:List ah)(W:ae)(v:Value)(W1:ae)(hn:raw.length<=100000)(hS:Q4 lo raw W v W1):
  Calls ar 189 #[v] W1 fun e w'=>∃v',e=.returned v'/\Yb lo raw W v' w':=by
 rcases hS with⟨rfl,rfl,h0⟩|⟨g,cap,rfl,h1,h2,h3,h4,h5,h6⟩
 ·refine(Tryz.slices_Compact_string_empty none 0 W1).mono fun e w' hq=>?_;obtain⟨rfl,rfl⟩:=hq;exact⟨_,rfl,.inl ⟨rfl,by simp[ju,jD,Lib.compact,Lib.compactUpTo],h0⟩⟩
 ·have hc:=Tryz.slices_Compact_string g 0 cap (jD raw) W1 h6 (by rw[qz];omega) (by rw[qz];exact h1);rw[qz] at hc;refine hc.mono fun e w' hq=>?_;obtain⟨rfl,q,rfl⟩:=hq;have hle:(Lib.compact (jD raw)).length<=raw.length:=by rw[<- qz raw];exact BM _
  have hl:(ju raw).length=(Lib.compact (jD raw)).length:=by simp[ju]
  refine⟨_,rfl,.inr ⟨g,cap,by rw[hl],aa,h2,h3,?_,fun b hb cV=>?_,fun k hk=>?_⟩⟩
  ·simp[putRow,mapBlock,Go.Sort.ahead];exact h4
  ·simp only[putRow,mapBlock,Go.Sort.ahead];rw[er,if_neg (fun e=>cV e.symm)];exact h5 b hb cV
  ·have kY:k<(Lib.compact (jD raw)).length:=aa;have:=(holds_putRow encStr (Go.Sort.ahead W1 q) g 0 _ (Lib.compact (jD raw)++List.replicate (raw.length-(Lib.compact (jD raw)).length) []).toArray h6 (by simp[qz];omega) k eR).1;rw[this];rw[dT _ k eR];simp only[List.getElem_toArray];rw[eW kY];simp[ju,encStr]
theorem C6(b c ob oc:Nat)(p:Option Addr)(rs:List aL)(nm:Nat->List ah)(nb:Nat->Nat)(outs:List ah)(w:ae)(h1:rs.length<=1000)(h2:outs.length<=100000)(hp:rs≠[]->p=some ⟨b,0,none⟩/\b<w.heap.size)(fD:ob<w.heap.size)(hr:wY w b rs nm nb)(ho:dP w ob 0 outs):
  Calls ar 148 #[.slice p rs.length c,.slice (some ⟨ob,0,none⟩) outs.length oc] w fun e w'=>∃v' W,e=.returned v'/\Go.RowKit.Below w.heap.size w W/\w.heap.size<=W.heap.size/\Yb w.heap.size (ll outs nm rs.length) W v' w':=by
 have hl:=py outs nm rs.length hr.four rs.length (ag _);exact Fe b c ob oc p rs nm nb outs w h1 h2 hp fD hr ho (S:=Q4 w.heap.size (ll outs nm rs.length)) (C:=Yb w.heap.size (ll outs nm rs.length)) (fun W v h=>Q5 _ _ W v h aa) (fun W v W1 _ hS=>H6 _ _ W v W1 aa hS)
end
section
open Go.Lib
theorem Yc(a b:List UInt8):a<b↔compareBytes a b<0:=by
 have h1:=tn a b;rw[bytesLess_eq] at h1;exact decide_eq_decide.1 h1
theorem KH(a b:List UInt8):a<=b↔compareBytes a b<=0:=by
 have h:=qw a b;rw[show a<=b↔¬b<a from cG,Yc];omega
theorem Ff(a b c:List UInt8)(h1:compareBytes a b<=0)(h2:compareBytes b c<=0):compareBytes a c<=0:=by
 rcases gn h1 with h3|h3
 ·rcases gn h2 with h4|h4
  ·exact Int.le_of_lt (mN a b c h3 h4)
  ·rw[<- rA b c h4];omega
 ·rw[rA a b h3];exact h2
theorem N6(a b c:List UInt8)(h1:compareBytes a b<=0)(h2:compareBytes b c<0):compareBytes a c<0:=by
 rcases gn h1 with h3|h3
 ·exact mN a b c h3 h2
 ·rw[rA a b h3];exact h2
theorem Fg(raw:List ah):(jD raw).Pairwise fun x y=>compareBytes x y<=0:=by
 have h:=List.pairwise_mergeSort (le:=fun x y:List UInt8=>decide (x<=y)) (fun a b c h1 h2=>by
  simp only[decide_eq_true_eq,KH] at *;exact Ff a b c h1 h2) (fun a b=>by
  have:=qw a b;simp only[Bool.or_eq_true,decide_eq_true_eq,KH];omega) (raw.map bytesOf)
 exact h.imp fun h=>(KH _ _).1 (by simpa using h)
theorem tq(d:Array (List UInt8))(hs:∀i j,i<j->j<d.size->compareBytes d[i]! d[j]!<=0):∀m,m<=d.size->(compactUpTo d m).Pairwise (fun x y=>compareBytes x y<0)/\(∀x,x∈compactUpTo d m↔∃j,j<m/\x=d[j]!)
 |0,_=>by simp[compactUpTo]
 |m+1,hm=>by
  obtain⟨k1,k2⟩:=tq d hs m aa;rw[compactUpTo_succ];cases hk:keeps d m
  ·simp only[keeps,decide_eq_false_iff_not,not_or] at hk;have e:d[m]! = d[m-1]!:=Classical.not_not.1 hk.2;simp only[fl,if_false,List.append_nil];refine⟨k1,fun x=>⟨fun h=>?_,fun⟨j,hj,hx⟩=>?_⟩⟩
   ·obtain⟨j,hj,hx⟩:=(k2 x).1 h;exact⟨j,aa,hx⟩
   ·by_cases ej:j=m
    ·subst ej;rw[e] at hx;exact(k2 x).2 ⟨j-1,aa,hx⟩
    ·exact(k2 x).2 ⟨j,aa,hx⟩
  ·simp only[if_true];refine⟨?_,fun x=>⟨fun h=>?_,fun⟨j,hj,hx⟩=>?_⟩⟩
   ·rw[List.pairwise_append];refine⟨k1,an,fun x hx y hy=>?_⟩;simp at hy;subst hy;obtain⟨j,hj,rfl⟩:=(k2 x).1 hx;simp only[keeps,decide_eq_true_eq] at hk;have kY:d[m]!≠d[m-1]!:=hk.resolve_left aa;have h1:compareBytes d[m-1]! d[m]!<0:=by
     have:=hs (m-1) m aa aa;rcases gn this with h|h
     ·exact h
     ·exact absurd (rA _ _ h).symm kY
    by_cases ej:j=m-1
    ·subst ej;exact h1
    ·exact N6 _ _ _ (hs j (m-1) aa aa) h1
   ·rw[dZ] at h;rcases h with h|h
    ·obtain⟨j,hj,hx⟩:=(k2 x).1 h;exact⟨j,aa,hx⟩
    ·simp at h;exact⟨m,aa,h⟩
   ·rw[dZ];by_cases ej:j=m
    ·subst ej;exact .inr (by simp[hx])
    ·exact .inl ((k2 x).2 ⟨j,aa,hx⟩)
theorem pA(raw:List ah):nY (ju raw)/\∀x,x∈ju raw↔x∈raw:=by
 have hs:=Fg raw;obtain⟨k1,k2⟩:=tq (jD raw).toArray (fun i j DU hj=>by
  have rY:j<(jD raw).length:=by simpa using hj
  rw[dT _ i eR,dT _ j hj];exact List.pairwise_iff_getElem.1 hs i j aa rY DU) (jD raw).length an
 refine⟨fun i j hi hj DU=>?_,fun x=>?_⟩
 ·have lQ:i<(Lib.compact (jD raw)).length:=by simpa[ju] using hi
  have rY:j<(Lib.compact (jD raw)).length:=by simpa[ju] using hj
  have:=List.pairwise_iff_getElem.1 k1 i j lQ rY DU;simp only[ju,List.getElem_map,ByteArray.toList_mk];exact this
 ·have hb:∀l:List UInt8,l∈Lib.compact (jD raw)↔l∈raw.map bytesOf:=fun l=>by
   have h1:l∈Lib.compact (jD raw)↔l∈jD raw:=by
    rw[show Lib.compact (jD raw)=compactUpTo (jD raw).toArray (jD raw).length from rfl,k2];constructor
    ·rintro⟨j,hj,rfl⟩;rw[dT _ j (by simpa using hj)];simp
    ·intro h;obtain⟨j,hj,rfl⟩:=a8 h;exact⟨j,hj,by rw[dT _ j (by simpa using hj)];simp⟩
   rw[h1];simp[jD,List.mem_mergeSort]
  simp only[ju,List.mem_map];constructor
  ·rintro⟨l,hl,rfl⟩;have:=(hb l).1 hl;rw[List.mem_map] at this;obtain⟨y,hy,rfl⟩:=this;exact hy
  ·intro hx;exact⟨bytesOf x,(hb _).2 (List.mem_map.2 ⟨x,hx,rfl⟩),rfl⟩
end
open Go.Ren Go.Conc Go.ConcN
section
variable {Fin:bH} {o:aM} {w:ae}
structure fw(o:aM)(w:ae)(v:Value)(o':aM)(w':ae):Prop where
 own:o'=grow o w w'
 ay:bE ar L0 o' w'
 size:w.heap.size<=w'.heap.size
 old:∀b,b<w.heap.size->w'.heap[b]?=w.heap[b]?
 cl:Cl ar L0 o' v
theorem Ma{P:Program}{L:Nat->Bool}{o:aM}{vs:Array Value}(h:∀x∈vs,Cl P L o x):∀g,(lR P L o).has g->vs.map (val g)=vs:=fun g hg=>by
 apply iR;intro i;rw[br];cases e:vs[i]? with
 |none=>rfl
 |some x=>rw[cR,h x (ew e) g hg]
theorem dS{f:FuncId}{vs:Array Value}(hL:L0 f=true)(hF:bE ar L0 o w)(sS:∀x∈vs,Cl ar L0 o x){Q:ae->Value->ae->Prop}(hQ:∀wl Ai v w1 w2,Ai.heap=wl.heap->w2.heap=w1.heap->Q wl v w1->Q Ai v w2)(hC:∀wl,wl.heap.size=w.heap.size->(∀b,o b->wl.heap[b]?=w.heap[b]?)->Calls ar f vs wl fun e w'=>∃v,e=.returned v/\wl.heap.size<=w'.heap.size/\(∀b,b<wl.heap.size->w'.heap[b]?=wl.heap[b]?)/\Q wl v w'):
  bp ar (XB ar Fin 0) f vs o w fun v o' w'=>fw o w v o' w'/\∃wl aI,wl.heap.size=w.heap.size/\aI.heap.size=w'.heap.size/\(∀b,w.heap.size<=b->b<w'.heap.size->w'.heap[b]?=aI.heap[b]?)/\Q wl v aI:=by
 refine re aX hL hF (Ma sS) (R:=fun wl v aI=>wl.heap.size<=aI.heap.size/\(∀b,b<wl.heap.size->aI.heap[b]?=wl.heap[b]?)/\Q wl v aI) (fun wl v w1 τ d h=>⟨h.1,h.2.1,hQ wl wl v w1 (WT w1 τ d) rfl rfl h.2.2⟩) (fun wl τ d v w' h=>⟨h.1,h.2.1,hQ (WT wl τ d) wl v w' w' rfl rfl h.2.2⟩) (fun wl hz aE=>hC wl hz aE) ?_;rintro wl v aI w' hz aE ⟨h1,h2,h3⟩ B;refine⟨⟨rfl,B.ay,B.gO,fun b hb=>?_,B.val⟩,wl,aI,hz,B.size.symm,fun b hb mo=>B.same b (.inr ⟨hb,mo⟩),h3⟩;by_cases ho:o b
 ·rw[B.same b (.inl ho),h2 b aa,aE b ho]
 ·exact B.rest b hb ho
theorem gp{w w':ae}{b:Nat}{rs:List aL}(h:dX w b rs)(e:w'.heap[b]?=w.heap[b]?):dX w' b rs:=fun i hi=>by
 obtain⟨c0,c1,c2⟩:=h i hi;exact⟨(cell_of e).trans c0,(cell_of e).trans c1,(cell_of e).trans c2⟩
theorem cI{w w':ae}{b off:Nat}{ts:List ah}(h:dP w b off ts)(e:w'.heap[b]?=w.heap[b]?):dP w' b off ts:=fun i hi=>(cell_of e).trans (h i hi)
theorem Q6(hF:bE ar L0 o w)(b c:Nat)(p:Option Addr)(rs:List aL)(hn:rs.length<=100000)(hp:rs≠[]->p=some ⟨b,0,none⟩/\o b)(hv:dX w b rs)(hc:Cl ar L0 o (.slice p rs.length c)):
  bp ar (XB ar Fin 0) 147 #[.slice p rs.length c] o w fun v o' w'=>fw o w v o' w'/\v=.slice (some ⟨w.heap.size,0,none⟩) rs.length rs.length/\w.heap.size<w'.heap.size/\dP w' w.heap.size 0 (rs.map (·.out)):=by
 have eY:∀x∈#[Value.slice p rs.length c],Cl ar L0 o x:=fun x hx=>by
  simp at hx;subst hx;exact hc
 refine bp.mono (dS af hF eY (Q:=fun wl v w'=>v=.slice (some ⟨wl.heap.size,0,none⟩) rs.length rs.length/\wl.heap.size<w'.heap.size/\w'.rowIs wl.heap.size 9 rs.length (fun j=>.string ((rs.map (·.out)).getD j aN))) (fun wl Ai v w1 w2 e1 e2 h=>?_) (fun wl hz aE=>?_)) (fun v o' w' hq=>?_)
 ·rw[e1,e2];exact⟨h.1,h.2.1,h.2.2.of_block (by rw[e2])⟩
 ·refine(KC b c p rs wl hn (fun h=>⟨(hp h).1,by rw[hz];exact hF.lt (hp h).2⟩) ?_).mono fun e w' hq=>?_
  ·intro i hi;exact gp hv (aE b (hp (fun e=>by rw[e] at hi;simp at hi)).2) i hi
  ·obtain⟨rfl,h1,h2,h3⟩:=hq;exact⟨_,rfl,h1.size,fun b hb=>h1.block b hb,rfl,h2,h3⟩
 ·obtain⟨hN,wl,aI,z1,z2,hs,rfl,h2,h3⟩:=hq;rw[z1] at h2 h3 hN |-;refine⟨hN,rfl,aa,fun k hk=>?_⟩;have kY:k<rs.length:=by simpa using hk
  have:=(h3.of_block (hs _ (ag _) aa)).cell kY;rw[bh,this];simp[kY]
theorem iW{w w':ae}{St n:Nat}{out:Nat->ah}{eD:Nat->Int}{ins:Nat->List (Bool×Nat)}{cw:Nat->Nat}(h:oE w St n out eD ins cw)(e:w'.heap[St]?=w.heap[St]?)(ei:∀s,s<n->w'.heap[cw s]?=w.heap[cw s]?)(hz:w.heap.size<=w'.heap.size):oE w' St n out eD ins cw where
 out s hs:=(cell_of e).trans (h.out s hs)
 eD s hs:=(cell_of e).trans (h.eD s hs)
 zJ s hs:=(cell_of e).trans (h.zJ s hs)
 Bw s hs j hj:=⟨(cell_of (ei s hs)).trans (h.Bw s hs j hj).1,(cell_of (ei s hs)).trans (h.Bw s hs j hj).2⟩
 lt s hs:=bm (h.lt s hs) hz
 short:=h.short
theorem N9(hF:bE ar L0 o w)(St n sc:Nat)(out:Nat->ah)(eD:Nat->Int)(ins:Nat->List (Bool×Nat))(cw:Nat->Nat)(hn:n<=1000)(X8:o St)(dW:oE w St n out eD ins cw)(hio:∀s,s<n->o (cw s)):
  bp ar (XB ar Fin 0) 150 #[.slice (some ⟨St,0,none⟩) n sc] o w fun v o' w'=>fw o w v o' w'/\v=.slice (some ⟨w.heap.size,0,none⟩) (dK ins n n).length n/\w.heap.size<w'.heap.size/\kI w' w.heap.size n (dK ins n n):=by
 have eY:∀x∈#[Value.slice (some ⟨St,0,none⟩) n sc],Cl ar L0 o x:=fun x hx=>by
  simp at hx;subst hx;exact di X8
 refine bp.mono (dS af hF eY (Q:=fun wl v w'=>v=.slice (some ⟨wl.heap.size,0,none⟩) (dK ins n n).length n/\wl.heap.size<w'.heap.size/\kI w' wl.heap.size n (dK ins n n)) (fun wl Ai v w1 w2 e1 e2 h=>?_) (fun wl hz aE=>?_)) (fun v o' w' hq=>?_)
 ·rw[e1,e2];exact⟨h.1,h.2.1,World.rowIs.of_block h.2.2 (by rw[e2])⟩
 ·refine(H5 St n sc out eD ins cw wl hn (by rw[hz];exact hF.lt X8) (iW dW (aE St X8) (fun s hs=>aE _ (hio s hs)) aa)).mono fun e w' hq=>?_;obtain⟨rfl,h1,h2,h3⟩:=hq;exact⟨_,rfl,h1.size,fun b hb=>h1.block b hb,rfl,h2,h3⟩
 ·obtain⟨hN,wl,aI,z1,z2,hs,rfl,h2,h3⟩:=hq;rw[z1] at h2 h3 hN |-;exact⟨hN,rfl,aa,World.rowIs.of_block h3 (hs _ (ag _) aa)⟩
theorem Q7(hF:bE ar L0 o w)(nb nc ob oc sb sc:Nat)(np sp:Option Addr)(names outs sources:List ah)(h1:names.length<=100000)(h2:outs.length<=100000)(h3:sources.length<=100000)(ug:names≠[]->np=some ⟨nb,0,none⟩/\o nb)(xB:sources≠[]->sp=some ⟨sb,0,none⟩/\o sb)(fD:o ob)(hn:dP w nb 0 names)(ho:dP w ob 0 outs)(hs:dP w sb 0 sources)(Zf:Cl ar L0 o (.slice np names.length nc))(Vq:Cl ar L0 o (.slice sp sources.length sc)):
  bp ar (XB ar Fin 0) 149 #[.slice np names.length nc,.slice (some ⟨ob,0,none⟩) outs.length oc,.slice sp sources.length sc] o w fun v o' w'=>fw o w v o' w'/\v=.slice (some ⟨w.heap.size,0,none⟩) names.length names.length/\w.heap.size<w'.heap.size /\
   w'.rowIs w.heap.size 280 (names.length*2) (jZ (names.map (pS outs sources))):=by
 have eY:∀x∈#[Value.slice np names.length nc,.slice (some ⟨ob,0,none⟩) outs.length oc,.slice sp sources.length sc],Cl ar L0 o x:=fun x hx=>by
  simp at hx;rcases hx with rfl|rfl|rfl
  ·exact Zf
  ·exact di fD
  ·exact Vq
 refine bp.mono (dS af hF eY (Q:=fun wl v w'=>v=.slice (some ⟨wl.heap.size,0,none⟩) names.length names.length/\wl.heap.size<w'.heap.size/\w'.rowIs wl.heap.size 280 (names.length*2) (jZ (names.map (pS outs sources)))) (fun wl Ai v w1 w2 e1 e2 h=>?_) (fun wl hz aE=>?_)) (fun v o' w' hq=>?_)
 ·rw[e1,e2];exact⟨h.1,h.2.1,World.rowIs.of_block h.2.2 (by rw[e2])⟩
 ·refine(KF nb nc ob oc sb sc np sp names outs sources wl h1 h2 h3 (fun h=>⟨(ug h).1,by rw[hz];exact hF.lt (ug h).2⟩) (fun h=>⟨(xB h).1,by rw[hz];exact hF.lt (xB h).2⟩) (by rw[hz];exact hF.lt fD) ?_ (cI ho (aE _ fD)) ?_).mono fun e w' hq=>?_
  ·intro i hi;exact cI hn (aE nb (ug (fun e=>by rw[e] at hi;simp at hi)).2) i hi
  ·intro i hi;exact cI hs (aE sb (xB (fun e=>by rw[e] at hi;simp at hi)).2) i hi
  obtain⟨rfl,h1,h2,h3⟩:=hq;exact⟨_,rfl,h1.size,fun b hb=>h1.block b hb,rfl,h2,h3⟩
 ·obtain⟨hN,wl,aI,z1,z2,hs,rfl,h2,h3⟩:=hq;rw[z1] at h2 h3 hN |-;exact⟨hN,rfl,aa,World.rowIs.of_block h3 (hs _ (ag _) aa)⟩
end
theorem KI(v:Value)(p:Option Addr)(n c:Nat)(w:ae):Calls ar 145 #[.slice p n c] w fun e w'=>e=.returned (.func (.func 186) #[] #[.pointer (some ⟨w.heap.size,0,none⟩)])/\w'=w.alloc (.cells #[.slice p n c] 35):=by
 go_enter func145,ntmps145;go_wp2;go_ret;exact⟨rfl,rfl⟩
section
variable {Fin:bH} {o:aM} {w:ae}
theorem Q8(hF:bE ar L0 o w)(p:Option Addr)(n c:Nat)(hc:Cl ar L0 o (.slice p n c)):
  bp ar (XB ar Fin 0) 145 #[.slice p n c] o w fun v o' w'=>fw o w v o' w'/\v=.func (.func 186) #[] #[.pointer (some ⟨w.heap.size,0,none⟩)]/\w.heap.size<w'.heap.size/\w'.heap[w.heap.size]?=some (.cells #[.slice p n c] 35):=by
 have eY:∀x∈#[Value.slice p n c],Cl ar L0 o x:=fun x hx=>by
  simp at hx;subst hx;exact hc
 refine bp.mono (dS af hF eY (Q:=fun wl v w'=>v=.func (.func 186) #[] #[.pointer (some ⟨wl.heap.size,0,none⟩)]/\wl.heap.size<w'.heap.size/\w'.heap[wl.heap.size]?=some (.cells #[.slice p n c] 35)) (fun wl Ai v w1 w2 e1 e2 h=>?_) (fun wl hz aE=>?_)) (fun v o' w' hq=>?_)
 ·rw[e1,e2];exact h
 ·refine(KI undef p n c wl).mono fun e w' hq=>?_;obtain⟨rfl,rfl⟩:=hq;exact⟨_,rfl,an,fun b hb=>Go.RowKit.Below.heap_alloc _ _ b hb,rfl,an,jR _ _⟩
 ·obtain⟨hN,wl,aI,z1,z2,hs,rfl,h2,h3⟩:=hq;rw[z1] at h2 h3 hN |-;exact⟨hN,rfl,aa,(hs _ (ag _) aa).trans h3⟩
def ga(lo:Nat)(ts:List ah)(v:Value)(w':ae):Prop:=(v=.slice none 0 0/\ts=[])\/∃g cap,v=.slice (some ⟨g,0,none⟩) ts.length cap/\ts.length<=cap/\lo<=g/\g<w'.heap.size/\dP w' g 0 ts
theorem H7(hF:bE ar L0 o w)(b c ob oc:Nat)(p:Option Addr)(rs:List aL)(nm:Nat->List ah)(nb:Nat->Nat)(outs:List ah)(h1:rs.length<=1000)(h2:outs.length<=100000)(hp:rs≠[]->p=some ⟨b,0,none⟩/\o b)(fD:o ob)(hr:wY w b rs nm nb)(KJ:∀i,i<rs.length->nm i≠[]->o (nb i))(ho:dP w ob 0 outs)(hc:Cl ar L0 o (.slice p rs.length c)):
  bp ar (XB ar Fin 0) 148 #[.slice p rs.length c,.slice (some ⟨ob,0,none⟩) outs.length oc] o w fun v o' w'=>fw o w v o' w'/\ga w.heap.size (ju (ll outs nm rs.length)) v w':=by
 have eY:∀x∈#[Value.slice p rs.length c,.slice (some ⟨ob,0,none⟩) outs.length oc],Cl ar L0 o x:=fun x hx=>by
  simp at hx;rcases hx with rfl|rfl
  ·exact hc
  ·exact di fD
 refine bp.mono (dS af hF eY (Q:=fun wl v w'=>ga wl.heap.size (ju (ll outs nm rs.length)) v w') (fun wl Ai v w1 w2 e1 e2 h=>?_) (fun wl hz aE=>?_)) (fun v o' w' hq=>?_)
 ·rcases h with h|⟨g,cap,k1,k2,k3,k4,k5⟩
  ·exact .inl h
  ·exact .inr ⟨g,cap,k1,k2,by rw[e1];exact k3,by rw[e2];exact k4,cI k5 (by rw[e2])⟩
 ·have SJ:wY wl b rs nm nb:=by
   refine⟨fun i hi=>gp hr.at_ (aE b (hp (fun e=>by rw[e] at hi;simp at hi)).2) i hi,hr.len,fun i hi cV=>⟨(hr.ptr i hi cV).1,by rw[hz];exact(hr.ptr i hi cV).2⟩,fun i hi j hj=>?_,hr.four⟩;exact cI (hr.txt i hi) (aE _ (KJ i hi (fun e=>by rw[e] at hj;simp at hj))) j hj
  refine(C6 b c ob oc p rs nm nb outs wl h1 h2 (fun h=>⟨(hp h).1,by rw[hz];exact hF.lt (hp h).2⟩) (by rw[hz];exact hF.lt fD) SJ (cI ho (aE _ fD))).mono fun e w' hq=>?_;obtain⟨v',W,rfl,hB,hW,hC⟩:=hq;rcases hC with⟨rfl,k1,k2⟩|⟨g,cap,k1,k2,k3,k4,k5,k6,k7⟩
  ·exact⟨_,rfl,by rw[k2];exact hW,fun b hb=>by rw[k2];exact hB.block b hb,.inl ⟨rfl,k1⟩⟩
  ·exact⟨_,rfl,aa,fun b hb=>(k6 b aa aa).trans (hB.block b hb),.inr ⟨g,cap,k1,k2,k3,aa,k7⟩⟩
 ·obtain⟨hN,wl,aI,z1,z2,hs,hq⟩:=hq;refine⟨hN,?_⟩;rw[z1] at hq;rcases hq with h|⟨g,cap,k1,k2,k3,k4,k5⟩
  ·exact .inl h
  ·exact .inr ⟨g,cap,k1,k2,k3,aa,cI k5 (hs g k3 aa)⟩
end
section
open Go.RowKit
theorem H8:(ar.info? 65).map (fun i=>(i.zero,i.size,i.bytes))=some (some (.agg #[.string aN,.string aN,.bool false]),3,40):=af
theorem yi(w:ae)(n:Nat)(hn:n<=100000):(Instr.makeSlice 46 (.int .i64 (n:Int)) (.int .i64 (n:Int))).run ar w=.ok (.slice (some ⟨w.heap.size,0,none⟩) n n) (w.alloc (.cells (madeCells #[.string aN,.string aN,.bool false] (n*3)) 65)):=by
 obtain⟨i,hi,hz⟩:=Option.map_eq_some_iff.1 H8;simp only[WS] at hz;obtain⟨hz,hs,hb⟩:=hz;have:=run_make (P:=ar) w 46 65 i _ underlying46 hi hz .i64 .i64 n n aa (fh _) (by rw[hb];omega) aa;rw[this,hs];simp[Value.cells]
def gq(out:Nat->ah)(res:Nat->V)(k j:Nat):Value :=
 if j<k*3 then(if j%3=0 then .string (out (j/3)) else if j%3=1 then .string (res (j/3)).2 else .bool (!(res (j/3)).1))
 else(if j%3=0 then .string aN else if j%3=1 then .string aN else .bool false)
theorem Uq{w:ae}{B t n k:Nat}{out:Nat->ah}{res:Nat->V}(h:w.rowIs B t (n*3) (gq out res k)):
  (((w.setCell ⟨B,k*3,none⟩ (.string (out k))).setCell ⟨B,k*3+1,none⟩ (.string (res k).2)).setCell ⟨B,k*3+2,none⟩ (.bool (!(res k).1))).rowIs B t (n*3) (gq out res (k+1)):=by
 refine(((h.set (k*3) _).set (k*3+1) _).set (k*3+2) _).congr fun j hj=>?_;by_cases e2:j=k*3+2
 ·subst e2;have h1:(k*3+2)%3=2:=aa;have h2:(k*3+2)/3=k:=aa;simp[gq,h1,h2,show k*3+2<(k+1)*3 by omega]
 ·by_cases e1:j=k*3+1
  ·subst e1;have h1:(k*3+1)%3=1:=aa;have h2:(k*3+1)/3=k:=aa;simp[gq,h1,h2,show k*3+1<(k+1)*3 by omega]
  ·by_cases e0:j=k*3
   ·subst e0;have h1:(k*3)%3=0:=aa;have h2:(k*3)/3=k:=aa;simp[gq,h1,h2,show k*3<(k+1)*3 by omega]
   ·rw[if_neg e2,if_neg e1,if_neg e0];by_cases e3:j<k*3
    ·simp only[gq,if_pos e3,if_pos (show j<(k+1)*3 by omega)]
    ·simp only[gq,if_neg e3,if_neg (show ¬j<(k+1)*3 by omega)]
structure oG(w:ae)(bn Lb Lo St Rb Nb n:Nat)(out:Nat->ah)(eD:Nat->Int)(ins:Nat->List (Bool×Nat))(cw:Nat->Nat)(res:Nat->V)(ku:Nat->Bool):Prop where
 b0:w.cell? ⟨bn,0,none⟩=some (.pointer (some ⟨Lb,Lo,none⟩))
 b2:w.cell? ⟨bn,2,none⟩=some (.slice (some ⟨Rb,0,none⟩) n n)
 b3:w.cell? ⟨bn,3,none⟩=some (.slice (some ⟨Nb,0,none⟩) n n)
 st:w.cell? ⟨Lb,Lo,none⟩=some (.slice (some ⟨St,0,none⟩) n n)
 steps:oE w St n out eD ins cw
 r2:∀s,s<n->w.cell? ⟨Rb,s*4+2,none⟩=some (.bool (res s).1)
 r3:∀s,s<n->w.cell? ⟨Rb,s*4+3,none⟩=some (.string (res s).2)
 ku:∀s,s<n->w.cell? ⟨Nb,s,none⟩=some (.bool (ku s))
 lbn:bn<w.heap.size
 lLb:Lb<w.heap.size
 lSt:St<w.heap.size
 lRb:Rb<w.heap.size
 lNb:Nb<w.heap.size
theorem H9(bn Lb Lo St Rb Nb n:Nat)(out:Nat->ah)(eD:Nat->Int)(ins:Nat->List (Bool×Nat))(cw:Nat->Nat)(res:Nat->V)(ku:Nat->Bool)(w:ae)(hn:n<=1000)(h:oG w bn Lb Lo St Rb Nb n out eD ins cw res ku):
  Calls ar 75 #[.pointer (some ⟨bn,0,none⟩)] w fun e w'=>e=.returned (.slice (some ⟨w.heap.size,0,none⟩) n n)/\Below w.heap.size w w'/\w.heap.size<w'.heap.size/\w'.rowIs w.heap.size 65 (n*3) (gq out res n):=by
 have LV:=fun w=>yi w n aa;obtain⟨b0,b2,b3,st,dW,r2,r3,rr,l1,l2,l3,l4,l5⟩:=h;have cA:∀(w':ae),Below w.heap.size w w'->∀b off,b<w.heap.size->w'.cell? ⟨b,off,none⟩=w.cell? ⟨b,off,none⟩:=fun w' hb b off hl=>(uM hb).1 _ _ hl;have a0:∀x,(w.alloc x).cell? ⟨bn,0,none⟩=some (.pointer (some ⟨Lb,Lo,none⟩)):=fun x=>by rw[cA _ ((Below.refl _ _).alloc (ag _) _) _ _ l1];exact b0
 have a1:∀x,(w.alloc x).cell? ⟨Lb,Lo,none⟩=some (.slice (some ⟨St,0,none⟩) n n):=fun x=>by rw[cA _ ((Below.refl _ _).alloc (ag _) _) _ _ l2];exact st
 go_enter func75,ntmps75;go_wp2;go_loopw [24] (fun i w'=>∃k:Nat,k<=n/\i=.int .i64 k/\Below w.heap.size w w'/\w.heap.size<w'.heap.size/\w'.rowIs w.heap.size 65 (n*3) (gq out res k)) (fun i _=>n-(intOf i).toNat)
 case atStart =>
  refine⟨0,aQ _,rfl,(Below.refl _ _).alloc (ag _) _,an,_,jR _ _,by simp[size_madeCells],fun j hj=>?_⟩;simp only[madeCells,br,Array.getElem?_range,hj,if_true,cR,gq,Nat.zero_mul,Nat.not_lt_zero,if_false];have hm:j%3=0\/j%3=1\/j%3=2:=aa;rcases hm with e|e|e<;>simp[e]
 case round =>
  obtain⟨k,hk,rfl,gv,hz,b6⟩:=hrel;by_cases bZ:k<n
  ·have c0:=(cA _ gv St (k*3) l3).trans (dW.out k bZ);have c1:=(cA _ gv St (k*3+1) l3).trans (dW.eD k bZ);have c2:=(cA _ gv St (k*3+2) l3).trans (dW.zJ k bZ);have c3:=(cA _ gv bn 2 l1).trans b2;have c4:=(cA _ gv Rb (k*4+2) l4).trans (r2 k bZ);have c5:=(cA _ gv Rb (k*4+3) l4).trans (r3 k bZ);have d0:wr.cell? ⟨w.heap.size,k*3,none⟩=some (.string aN):=by rw[b6.cell aa];simp[gq]
   have d1:wr.cell? ⟨w.heap.size,k*3+1,none⟩=some (.string aN):=by
    have h1:(k*3+1)%3=1:=aa;rw[b6.cell aa];simp[gq,h1,show ¬k*3+1<k*3 by omega]
   have d2:wr.cell? ⟨w.heap.size,k*3+2,none⟩=some (.bool false):=by
    have h1:(k*3+2)%3=2:=aa;rw[b6.cell aa];simp[gq,h1,show ¬k*3+2<k*3 by omega]
   have f0:=b6.frozen;have g1:bn<wr.heap.size:=aa;have g4:Rb<wr.heap.size:=aa;have p3:∀x y,((wr.alloc x).alloc y).cell? ⟨bn,2,none⟩=some (.slice (some ⟨Rb,0,none⟩) n n):=fun x y=>by rw[cA _ ((gv.alloc aa _).alloc eR _) _ _ l1];exact b2
   have q3:∀x,(wr.alloc x).cell? ⟨bn,2,none⟩=some (.slice (some ⟨Rb,0,none⟩) n n):=fun x=>by rw[cA _ (gv.alloc aa _) _ _ l1];exact b2
   have q4:∀x,(wr.alloc x).cell? ⟨Rb,k*4+2,none⟩=some (.bool (res k).1):=fun x=>by rw[cA _ (gv.alloc aa _) _ _ l4];exact r2 k bZ
   have q5:∀x,(wr.alloc x).cell? ⟨Rb,k*4+3,none⟩=some (.string (res k).2):=fun x=>by rw[cA _ (gv.alloc aa _) _ _ l4];exact r3 k bZ
   clear dW r2 r3 rr cA a0 a1;go_wp2;refine⟨⟨k+1,aa,by go_num,((((gv.setCell (ag _) _).setCell (ag _) _).setCell (ag _) _).alloc (by simp[World.setCell];omega) _).alloc (by simp[World.setCell];omega) _,by simp[World.setCell];omega,?_⟩,by simp[intOf];omega⟩;exact((Uq b6).alloc _).alloc _
  ·go_wp2;go_ret;have:k=n:=aa;subst this;exact⟨rfl,gv,hz,b6⟩
def qA(out:Nat->ah)(ku:Nat->Bool):Nat->List ah
 |0=>[]
 |k+1=>qA out ku k++(if ku k then[out k] else[])
theorem BN(out:Nat->ah)(ku:Nat->Bool):∀k,(qA out ku k).length<=k
 |0=>by simp[qA]
 |k+1=>by
  have:=BN out ku k;simp only[qA,List.length_append];split<;>simp<;>omega
theorem Ia(bn Lb Lo St Rb Nb n:Nat)(out:Nat->ah)(eD:Nat->Int)(ins:Nat->List (Bool×Nat))(cw:Nat->Nat)(res:Nat->V)(ku:Nat->Bool)(w:ae)(hn:n<=1000)(h:oG w bn Lb Lo St Rb Nb n out eD ins cw res ku):
  Calls ar 76 #[.pointer (some ⟨bn,0,none⟩)] w fun e w'=>∃v,e=.returned v/\Below w.heap.size w w'/\w.heap.size<=w'.heap.size/\w'.ownsRow w.heap.size 9 1 v (qA out ku n).length ((qA out ku n).map .string):=by
 obtain⟨b0,b2,b3,st,dW,r2,r3,rr,l1,l2,l3,l4,l5⟩:=h;have cA:∀(w':ae),Below w.heap.size w w'->∀b off,b<w.heap.size->w'.cell? ⟨b,off,none⟩=w.cell? ⟨b,off,none⟩:=fun w' hb b off hl=>(uM hb).1 _ _ hl;go_enter func76,ntmps76;clear cA;go_wp2;have cA:∀(w':ae),Below w.heap.size w w'->∀b off,b<w.heap.size->w'.cell? ⟨b,off,none⟩=w.cell? ⟨b,off,none⟩:=fun w' hb b off hl=>(uM hb).1 _ _ hl;go_loopw [3,14] (fun v i w'=>∃k:Nat,k<=n/\i=.int .i64 k/\Below w.heap.size w w'/\w.heap.size<=w'.heap.size/\w'.ownsRow w.heap.size 9 1 v (qA out ku k).length ((qA out ku k).map .string)) (fun v i _=>n-(intOf i).toNat)
 case atStart=>exact⟨0,aQ _,rfl,Below.refl _ _,ag _,by simp[qA],.inl ⟨rfl,rfl⟩⟩
 case round =>
  obtain⟨k,hk,rfl,gv,hz,b6⟩:=hrel;by_cases bZ:k<n
  ·have c0:=(cA _ gv St (k*3) l3).trans (dW.out k bZ);have c1:=(cA _ gv St (k*3+1) l3).trans (dW.eD k bZ);have c2:=(cA _ gv St (k*3+2) l3).trans (dW.zJ k bZ);have q3:∀x,(wr.alloc x).cell? ⟨bn,3,none⟩=some (.slice (some ⟨Nb,0,none⟩) n n):=fun x=>by rw[cA _ (gv.alloc aa _) _ _ l1];exact b3
   have q4:∀x,(wr.alloc x).cell? ⟨Nb,k,none⟩=some (.bool (ku k)):=fun x=>by rw[cA _ (gv.alloc aa _) _ _ l5];exact rr k bZ
   have g1:bn<wr.heap.size:=aa;have g5:Nb<wr.heap.size:=aa;have hl:=BN out ku k;have C5:qA out ku (k+1)=qA out ku k++(if ku k then[out k] else[]):=rfl;generalize qA out ku k=raw at *;generalize ja:out k=x at *;generalize Un:ku k=rk at *;clear dW r2 r3 rr cA;have e0:=oP b6 (.cells #[.string x,.int .i64 (eD k),.slice (some ⟨cw k,0,none⟩) (ins k).length (ins k).length] 220);cases rk
   ·go_wp2;refine⟨⟨k+1,aa,by go_num,gv.alloc aa _,eR,?_⟩,by simp[intOf];omega⟩;rw[C5];simpa using e0
   ·obtain⟨v',W',e1,e2,e3⟩:=pz ((wr.alloc (.cells #[.string x,.int .i64 (eD k),.slice (some ⟨cw k,0,none⟩) (ins k).length (ins k).length] 220)).alloc (.cells #[.string x] 9)) w.heap.size _ _ x (wr.heap.size+1) (oP e0 _) aa eR an;have vE:=Below.grown ((gv.alloc aa _).alloc eR _) e3 eR (yh b6);go_wp2_with (at_builtin;refine fM rfl _ _ 40 rfl rfl rfl e1 ?_);exact⟨⟨k+1,aa,by go_num,vE,vE.size,by rw[C5];exact e2⟩,by simp[intOf];omega⟩
  ·go_wp2;go_ret;have:k=n:=aa;subst this;exact⟨_,rfl,gv,hz,b6⟩
end
theorem Oa:(ar.info? 220).map (fun i=>(i.zero,i.size,i.bytes))=some (some (.agg #[.string aN,.int .i64 0,.slice none 0 0]),3,48):=af
theorem BO(w:ae)(n:Nat)(hn:n<=100000):(Instr.makeSlice 143 (.int .i64 (n:Int)) (.int .i64 (n:Int))).run ar w=.ok (.slice (some ⟨w.heap.size,0,none⟩) n n) (w.alloc (.cells (madeCells #[.string aN,.int .i64 0,.slice none 0 0] (n*3)) 220)):=by
 obtain⟨i,hi,hz⟩:=Option.map_eq_some_iff.1 Oa;simp only[WS] at hz;obtain⟨hz,hs,hb⟩:=hz;have:=run_make (P:=ar) w 143 220 i _ underlying143 hi hz .i64 .i64 n n aa (fh _) (by rw[hb];omega) aa;rw[this,hs];simp[Value.cells]
def fN(out:Nat->ah)(eD:Nat->Int)(ins:Nat->List (Bool×Nat))(cw:Nat->Nat)(k j:Nat):Value :=
 if j<k*3 then(if j%3=0 then .string (out (j/3)) else if j%3=1 then .int .i64 (eD (j/3)) else .slice (some ⟨cw (j/3),0,none⟩) (ins (j/3)).length (ins (j/3)).length)
 else(if j%3=0 then .string aN else if j%3=1 then .int .i64 0 else .slice none 0 0)
theorem Oc(w:ae)(n:Nat)(out:Nat->ah)(eD:Nat->Int)(ins:Nat->List (Bool×Nat))(cw:Nat->Nat)(St:Nat)(h:w.heap[St]?=some (.cells (madeCells #[.string aN,.int .i64 0,.slice none 0 0] (n*3)) 220)):w.rowIs St 220 (n*3) (fN out eD ins cw 0):=by
 refine⟨_,h,by simp[size_madeCells],fun j hj=>?_⟩;simp only[madeCells,br,Array.getElem?_range,hj,if_true,cR,fN,Nat.zero_mul,Nat.not_lt_zero,if_false];have hm:j%3=0\/j%3=1\/j%3=2:=aa;rcases hm with e|e|e<;>simp[e]
theorem Q9{w:ae}{St n k:Nat}{out:Nat->ah}{eD:Nat->Int}{ins:Nat->List (Bool×Nat)}{cw:Nat->Nat}(h:w.rowIs St 220 (n*3) (fN out eD ins cw k)):
  (((w.setCell ⟨St,k*3,none⟩ (.string (out k))).setCell ⟨St,k*3+1,none⟩ (.int .i64 (eD k))).setCell ⟨St,k*3+2,none⟩ (.slice (some ⟨cw k,0,none⟩) (ins k).length (ins k).length)).rowIs St 220 (n*3) (fN out eD ins cw (k+1)):=by
 refine(((h.set (k*3) _).set (k*3+1) _).set (k*3+2) _).congr fun j hj=>?_;by_cases e2:j=k*3+2
 ·subst e2;have h1:(k*3+2)%3=2:=aa;have h2:(k*3+2)/3=k:=aa;simp[fN,h1,h2,show k*3+2<(k+1)*3 by omega]
 ·by_cases e1:j=k*3+1
  ·subst e1;have h1:(k*3+1)%3=1:=aa;have h2:(k*3+1)/3=k:=aa;simp[fN,h1,h2,show k*3+1<(k+1)*3 by omega]
  ·by_cases e0:j=k*3
   ·subst e0;have h1:(k*3)%3=0:=aa;have h2:(k*3)/3=k:=aa;simp[fN,h1,h2,show k*3<(k+1)*3 by omega]
   ·rw[if_neg e2,if_neg e1,if_neg e0];by_cases e3:j<k*3
    ·simp only[fN,if_pos e3,if_pos (show j<(k+1)*3 by omega)]
    ·simp only[fN,if_neg e3,if_neg (show ¬j<(k+1)*3 by omega)]
theorem Od{w:ae}{b t n:Nat}{l:List (Bool×Nat)}(hn:n=l.length)(h:w.rowIs b t (n*2) (jZ l)):rS w b l:=fun j hj=>by
 have h0:(j*2)%2=0:=aa;have h1:(j*2+1)%2=1:=aa;have d0:(j*2)/2=j:=aa;have d1:(j*2+1)/2=j:=aa;refine⟨?_,?_⟩
 ·rw[h.cell aa];simp only[jZ,h0,d0];simp[hj]
 ·rw[h.cell aa];simp only[jZ,h1,d1];simp[hj]
theorem Oe{w:ae}{St n:Nat}{out:Nat->ah}{eD:Nat->Int}{ins:Nat->List (Bool×Nat)}{cw:Nat->Nat}(h:w.rowIs St 220 (n*3) (fN out eD ins cw n))(hi:∀s,s<n->rS w (cw s) (ins s))(hl:∀s,s<n->cw s<w.heap.size)(hs:∀s,s<n->(ins s).length<=100000):oE w St n out eD ins cw where
 out s hs:=by
  have h1:(s*3)%3=0:=aa;have h2:(s*3)/3=s:=aa;rw[h.cell aa];simp[fN,h1,h2,show s*3<n*3 by omega]
 eD s hs:=by
  have h1:(s*3+1)%3=1:=aa;have h2:(s*3+1)/3=s:=aa;rw[h.cell aa];simp[fN,h1,h2,show s*3+1<n*3 by omega]
 zJ s hs:=by
  have h1:(s*3+2)%3=2:=aa;have h2:(s*3+2)/3=s:=aa;rw[h.cell aa];simp[fN,h1,h2,show s*3+2<n*3 by omega]
 Bw:=hi
 lt:=hl
 short:=hs
end Go.Proofs.Kz
namespace Go.Ren
open Go.Conc Go.ConcN
section
variable {w w':ae} {b:Nat} {t:TypeId} {x y z u v x' y' z' u' v':Value}
theorem BP(h:w.heap[b]?=some (.cells #[x] t)):w.cell? ⟨b,0,none⟩=some x/\w.frozen? ⟨b,0,none⟩=false:=by simp[World.cell?,World.frozen?,h]
theorem bT(h:w.heap[b]?=some (.cells #[x,y] t)):w.cell? ⟨b,0,none⟩=some x/\w.cell? ⟨b,1,none⟩=some y/\w.frozen? ⟨b,0,none⟩=false/\w.frozen? ⟨b,1,none⟩=false:=by simp[World.cell?,World.frozen?,h]
theorem eE(h:w.heap[b]?=some (.cells #[x,y,z] t)):w.cell? ⟨b,0,none⟩=some x/\w.cell? ⟨b,1,none⟩=some y/\w.cell? ⟨b,2,none⟩=some z/\w.frozen? ⟨b,0,none⟩=false/\w.frozen? ⟨b,1,none⟩=false/\w.frozen? ⟨b,2,none⟩=false:=by simp[World.cell?,World.frozen?,h]
theorem nG(h:w.heap[b]?=some (.cells #[x,y] t)):((w.setCell ⟨b,0,none⟩ x').setCell ⟨b,1,none⟩ y').heap[b]?=some (.cells #[x',y'] t):=by simp[World.setCell,er,h]
theorem KL(h:w.heap[b]?=some (.cells #[x,y,z] t)):(((w.setCell ⟨b,0,none⟩ x').setCell ⟨b,1,none⟩ y').setCell ⟨b,2,none⟩ z').heap[b]?=some (.cells #[x',y',z'] t):=by simp[World.setCell,er,h]
def cN(b:Nat)(w w':ae):Prop:=w'.heap.size=w.heap.size/\∀c,c≠b->w'.heap[c]?=w.heap[c]?
theorem cN.refl:cN b w w:=⟨rfl,fun _ _=>rfl⟩
theorem cN.set{a:Addr}(h:cN b w w')(ha:a.block=b):cN b w (w'.setCell a v):=by
 refine⟨by simp[World.setCell,h.1],fun c hc=>?_⟩;rw[<- h.2 c hc];obtain⟨ab,ao,az⟩:=a;simp only at ha;subst ha;simp[World.setCell,er];exact fun e=>absurd e.symm hc
theorem cN.at(h:cN b w w')(off:Nat)(v:Value):cN b w (w'.setCell ⟨b,off,none⟩ v):=h.set rfl
theorem fW(w:ae)(b i:Nat)(x:Value):cN b w (w.setCell ⟨b,i,none⟩ x):=cN.refl.at i x
theorem iB(w:ae)(b i j:Nat)(x y:Value):cN b w ((w.setCell ⟨b,i,none⟩ x).setCell ⟨b,j,none⟩ y):=(fW w b i x).at j y
theorem uR(w:ae)(b i j k:Nat)(x y z:Value):cN b w (((w.setCell ⟨b,i,none⟩ x).setCell ⟨b,j,none⟩ y).setCell ⟨b,k,none⟩ z):=(iB w b i j x y).at k z
end
section
variable {P:Program} {L:Nat->Bool} {o:aM} {w w' wl aI:ae} {v:Value}
theorem kS.only(h:kS P L o w w' aI v)(ha:im o w wl){A:Nat}(hA:o A)(hs:cN A wl aI):cN A w w'/\w'.heap[A]?=aI.heap[A]?/\grow o w w'=o:=by
 obtain⟨h1,h2,h3,h4⟩:=h.store ha hA hs.1 hs.2;exact⟨⟨h1,h2⟩,h3,h4⟩
end
end Go.Ren
namespace Go.Proofs.Kz
open Go.Proofs.Tryz
open Go.Proofs.Tryz renaming prog → ar
open _root_.ByteArray renaming empty → aN
open Go.Ren Go.Conc Go.Proofs Go.ConcN
section
variable {Fin:bH} {o:aM} {w:ae}
theorem tQ.view{rs:List aL}{v:Value}{o':aM}{w':ae}(S:tQ o w rs v o' w')(hF:bE ar L0 o w)(WO:∃b,o b):∃g p cap b5,v=.slice p b5.length cap/\(b5≠[]->p=some ⟨g,0,none⟩/\w.heap.size<=g)/\o' g/\dX w' g b5/\b5.Perm rs/\(∀i j (hi:i<b5.length) (hj:j<b5.length),i<j->¬qx b5[j] b5[i]<0)/\Cl ar L0 o' (.slice p b5.length cap):=by
 rcases S.row with⟨rfl,rfl⟩|⟨g,cap,b5,h1,h2,h3,h4,h5,h6,h7⟩
 ·obtain⟨b,hb⟩:=WO;exact⟨b,none,0,[],rfl,fun h=>absurd rfl h,by rw[S.own];exact .inl hb,fun i hi=>by simp at hi,List.Perm.refl _,fun i j hi=>by simp at hi,gS⟩
 ·have hg:o' g:=by rw[S.own];exact .inr ⟨h3,h4⟩
  exact⟨g,_,cap,b5,by rw[h1,h5.length_eq],fun _=>⟨rfl,h3⟩,hg,h7,h5,h6,di hg⟩
def qC(rs:List aL)(i:Nat):ah:=((rs[i]?).map (·.out)).getD aN
def yj(rs:List aL)(i:Nat):Int:=((rs[i]?).map (·.eD)).getD 0
def Fh(NM:aL->List ah)(rs:List aL)(i:Nat):List ah:=((rs[i]?).map NM).getD []
def nbF(NB:aL->Nat)(rs:List aL)(i:Nat):Nat:=((rs[i]?).map NB).getD 0
def iq(NM:aL->List ah)(rs:List aL):List ah:=ju (ll (rs.map (·.out)) (Fh NM rs) rs.length)
def lH(NM:aL->List ah)(rs:List aL)(i:Nat):List (Bool×Nat):=(Fh NM rs i).map (pS (rs.map (·.out)) (iq NM rs))
theorem xa(raw:List ah):(ju raw).length<=raw.length:=by
 unfold ju;rw[bG];refine aR (BM _) ?_;simp[jD]
structure uS(lo:Nat)(NM:aL->List ah)(b5:List aL)(St Or:Nat)(cw:Nat->Nat)(sv v:Value)(w':ae):Prop where
 val:v=.agg #[.slice (some ⟨St,0,none⟩) b5.length b5.length,.slice (some ⟨Or,0,none⟩) (dK (lH NM b5) b5.length b5.length).length b5.length,sv]
 steps:oE w' St b5.length (qC b5) (yj b5) (lH NM b5) cw
 ord:kI w' Or b5.length (dK (lH NM b5) b5.length b5.length)
 src:ga lo (iq NM b5) sv w'
 st:lo<=St/\St<w'.heap.size
 or:lo<=Or/\Or<w'.heap.size
 ib:∀s,s<b5.length->lo<=cw s
theorem zb{w w':ae}{b:Nat}{l:List (Bool×Nat)}(h:rS w b l)(e:w'.heap[b]?=w.heap[b]?):rS w' b l:=fun j hj=>⟨(cell_of e).trans (h j hj).1,(cell_of e).trans (h j hj).2⟩
theorem C7{out:Nat->ah}{eD:Nat->Int}{ins:Nat->List (Bool×Nat)}{cw xc:Nat->Nat}{k:Nat}(h:∀s,s<k->cw s=xc s)(j:Nat):fN out eD ins cw k j=fN out eD ins xc k j:=by
 unfold fN;by_cases hj:j<k*3
 ·rw[if_pos hj,if_pos hj,h (j/3) aa]
 ·rw[if_neg hj,if_neg hj]
theorem Fi{o:aM}{w w1 w2:ae}(h:w1.heap.size=w2.heap.size):grow o w w1=grow o w w2:=by unfold grow;rw[h]
theorem kJ{lo Ra:Nat}{ts:List ah}{v:Value}{w w':ae}(h:ga lo ts v w)(uL:Ra<=lo)(hz:w.heap.size<=w'.heap.size)(e:∀b,lo<=b->b<w.heap.size->w'.heap[b]?=w.heap[b]?):ga Ra ts v w':=by
 rcases h with h|⟨g,cap,h1,h2,h3,h4,h5⟩
 ·exact .inl h
 ·exact .inr ⟨g,cap,h1,h2,aa,aa,cI h5 (e g h3 h4)⟩
structure afu(o6:aM)(w6:ae)(R St ob n:Nat)(q:Option Addr)(cap:Nat)(sv:Value)(out:Nat->ah)(eD:Nat->Int)(ins:Nat->List (Bool×Nat))(k:Nat)(a:Act)(o':aM)(w':ae):Prop where
 size:a.tmps.size=46
 df:a.defers=[]
 t2:a.eval (.tmp 2)=.pointer (some ⟨R,0,none⟩)
 t4:a.eval (.tmp 4)=.slice (some ⟨ob,0,none⟩) n n
 t5:a.eval (.tmp 5)=sv
 t6:a.eval (.tmp 6)=.slice (some ⟨St,0,none⟩) n n
 t20:a.eval (.tmp 20)=.slice q n cap
 t21:a.eval (.tmp 21)=.int .i64 n
 t22:a.eval (.tmp 22)=.int .i64 k
 own:o'=grow o6 w6 w'
 ay:bE ar L0 o' w'
 gO:w6.heap.size<=w'.heap.size
 old:∀b,b<w6.heap.size->b≠St->w'.heap[b]?=w6.heap[b]?
 row:∃cw:Nat->Nat,w'.rowIs St 220 (n*3) (fN out eD ins cw k)/\∀s,s<k->rS w' (cw s) (ins s)/\w6.heap.size<=cw s/\cw s<w'.heap.size
theorem Fj(hF:bE ar L0 o w)(Ru c:Nat)(p:Option Addr)(rs:List aL)(hn:rs.length<=8)(hp:rs≠[]->p=some ⟨Ru,0,none⟩)(xz:o Ru)(xU:dX w Ru rs)(eY:∀r∈rs,Cl ar L0 o (.slice r.sa r.sl r.sc))(hc:Cl ar L0 o (.slice p rs.length c))(NM:aL->List ah)(NB:aL->Nat)(xV:∀r∈rs,r.sl=(NM r).length/\(NM r≠[]->r.sa=some ⟨NB r,0,none⟩/\o (NB r))/\dP w (NB r) 0 (NM r)/\(NM r).length<=4):
  bp ar (XB ar Fin 0) 112 #[.slice p rs.length c] o w fun v o' w'=>fw o w v o' w'/\∃b5 St Or cw sv,b5.Perm rs/\(∀i j (hi:i<b5.length) (hj:j<b5.length),i<j->¬qx b5[j] b5[i]<0)/\uS w.heap.size NM b5 St Or cw sv v w':=by
 have W:=bJ (P:=ar) (Fin:=Fin) (d:=0);refine dJ W func112 ai ?_;refine aA ?_;refine cq aX hF rfl ai ai kp rfl (R:=fun wl v aI=>v=.pointer (some ⟨wl.heap.size,0,none⟩)/\aI=wl.alloc (Obj.cells #[.slice none 0 0,.slice none 0 0,.slice none 0 0] 145)) (fun wl aE=>⟨_,_,fa,rfl,rfl⟩) fun wl v1 aI w1 aE hR ba=>?_;obtain⟨rfl,hR⟩:=hR;obtain⟨z1,k1,k2⟩:=ba.alloc hF aE hR;have mw:=ba.ay;rw[aE.size];clear hR ba aE wl aI;refine aA ?_;refine aF W rfl ai rfl func145 af rfl aC rfl ((Q8 mw p rs.length c (hc.up iK)).mono fun v2 o2 w2 hq=>?_);obtain⟨N2,rfl,z2,kb⟩:=hq;walk_nrm;have u2:∀b,o b->o2 b:=fun b hb=>by rw[N2.own];exact .inl (.inl hb)
 have abu:∀b,b<w.heap.size->w2.heap[b]?=w.heap[b]?:=fun b hb=>(N2.old b aa).trans (k1 b hb);have QL:o2 w1.heap.size:=by rw[N2.own];exact .inr ⟨ag _,z2⟩
 refine aF W rfl ai rfl func144 af rfl aC rfl ((E9 N2.ay w1.heap.size Ru c p rs hn QL (by simp[World.cell?,kb]) hp (u2 _ xz) (gp xU (abu Ru (hF.lt xz))) (fun r hr=>(eY r hr).up u2)).mono fun v3 o3 w3 S=>?_);refine aA ?_;obtain⟨g,q,cap,b5,rfl,hq,SU,C2,hpm,JY,hcq⟩:=S.view N2.ay ⟨_,QL⟩;have hl':b5.length<=8:=by rw[hpm.length_eq];exact hn
 refine aF W rfl ai rfl func147 af rfl aC rfl ((Q6 S.ay g cap q b5 aa (fun h=>⟨(hq h).1,SU⟩) C2 hcq).mono fun v4 o4 w4 hq4=>?_);obtain⟨N4,rfl,z4,t4⟩:=hq4;refine aA ?_;have zz2:=N2.size;have zz3:=S.size;have zz4:=N4.size;have u4:∀b,o2 b->o4 b:=fun b hb=>by rw[N4.own,S.own];exact .inl (.inl hb)
 have u34:∀b,o3 b->o4 b:=fun b hb=>by rw[N4.own];exact .inl hb
 have QU:∀b,b<w.heap.size->w4.heap[b]?=w.heap[b]?:=fun b hb=>(N4.old b aa).trans ((S.old b aa).trans (abu b hb));have ho4:o4 w3.heap.size:=by rw[N4.own];exact .inr ⟨ag _,z4⟩
 have pd:∀i (h:i<b5.length),b5[i]∈rs:=fun i h=>hpm.subset (aD h);obtain⟨nm,Rc⟩:∃nm,Fh NM b5=nm:=⟨_,rfl⟩;obtain⟨nb,afw⟩:∃nb,nbF NB b5=nb:=⟨_,rfl⟩;have enm:∀i (h:i<b5.length),nm i=NM b5[i]:=fun i h=>by simp[<- Rc,Fh,h]
 have enb:∀i (h:i<b5.length),nb i=NB b5[i]:=fun i h=>by simp[<- afw,nbF,h]
 have Ur:wY w4 g b5 nm nb:=by
  refine⟨gp C2 (N4.old g (S.ay.lt SU)),fun i h=>?_,fun i h cV=>?_,fun i h=>?_,fun i h=>?_⟩
  ·rw[enm i h];exact(xV _ (pd i h)).1
  ·rw[enm i h] at cV;rw[enb i h];have:=(xV _ (pd i h)).2.1 cV;exact⟨this.1,by have:=hF.lt this.2;omega⟩
  ·rw[enm i h,enb i h];intro k hk;have h3:=(xV _ (pd i h)).2.1 (fun e=>by rw[e] at hk;simp at hk);exact cI (xV _ (pd i h)).2.2.1 (QU _ (hF.lt h3.2)) k hk
  ·rw[enm i h];exact(xV _ (pd i h)).2.2.2
 have KJ:∀i,i<b5.length->nm i≠[]->o4 (nb i):=fun i h cV=>by
  rw[enm i h] at cV;rw[enb i h];exact u4 _ (u2 _ ((xV _ (pd i h)).2.1 cV).2)
 have abw:=H7 (Fin:=Fin) N4.ay g cap w3.heap.size b5.length q b5 nm nb (b5.map (·.out)) aa eR (fun h=>⟨(hq h).1,u34 _ SU⟩) ho4 Ur KJ t4 (hcq.up u34);rw[bG] at abw;refine aF W rfl ai rfl func148 af rfl aC rfl (abw.mono fun v5 o5 w5 hq5=>?_);obtain⟨N5,t5⟩:=hq5;refine aA ?_;refine cq aX N5.ay rfl ai ai ?_ rfl (R:=fun wl v aI=>v=.slice (some ⟨wl.heap.size,0,none⟩) b5.length b5.length/\aI=wl.alloc (.cells (madeCells #[.string aN,.int .i64 0,.slice none 0 0] (b5.length*3)) 220)) (fun wl aE=>⟨_,_,by simp[go_sem,BO wl b5.length aa],rfl,rfl⟩) fun wl v6 aI w6 aE hR ba=>?_
 ·exact cj bN
 obtain⟨rfl,hR⟩:=hR;obtain⟨z6,k6,Us⟩:=ba.alloc N5.ay aE hR;have C3:=ba.ay;rw[aE.size];clear hR ba aE wl aI;refine aA ?_;have al7:=C3;have ho6:grow o5 w5 w6 w5.heap.size:=.inr ⟨ag _,aa⟩;obtain⟨out,V3⟩:∃f,qC b5=f:=⟨_,rfl⟩;obtain⟨eD,V4⟩:∃f,yj b5=f:=⟨_,rfl⟩;obtain⟨ins,Ic⟩:∃f,lH NM b5=f:=⟨_,rfl⟩;rw[<- Rc,show ju (ll (b5.map (·.out)) (Fh NM b5) b5.length)=iq NM b5 from rfl] at t5;have abx:(iq NM b5).length<=100000:=by
  have h1:=xa (ll (b5.map (·.out)) (Fh NM b5) b5.length);have h2:=py (b5.map (·.out)) nm b5.length Ur.four b5.length (ag _);rw[<- Rc] at h2;have:(iq NM b5).length<=(ll (b5.map (·.out)) (Fh NM b5) b5.length).length:=h1;omega
 obtain⟨SR,Yd⟩:∃f,iq NM b5=f:=⟨_,rfl⟩;rw[Yd] at t5 abx;have hv5:∃sp sb sc,v5=.slice sp SR.length sc/\(SR≠[]->sp=some ⟨sb,0,none⟩/\o5 sb)/\dP w5 sb 0 SR:=by
  rcases t5 with⟨h1,h2⟩|⟨g2,c2,h1,h2,h3,h4,h5⟩
  ·exact⟨none,0,0,by rw[h1,h2];rfl,fun h=>absurd h2 h,fun i hi=>by rw[h2] at hi;simp at hi⟩
  ·exact⟨_,g2,c2,h1,fun _=>⟨rfl,by rw[N5.own];exact .inr ⟨h3,h4⟩⟩,h5⟩
 obtain⟨sp,sb,sc,rfl,xB,aby⟩:=hv5;refine nu W (fun m a o' w'=>∃k,m+k=b5.length/\afu (grow o5 w5 w6) w6 w.heap.size w5.heap.size w3.heap.size b5.length q cap (.slice sp SR.length sc) out eD ins k a o' w') (N:=b5.length) ⟨0,an,?_⟩ ?_
 ·refine⟨rfl,rfl,aC,aC,aC,aC,aC,aC,aC,(bS _ _).symm,C3,ag _,fun _ _ _=>rfl,fun _=>0,Oc _ _ _ _ _ _ _ Us,fun s hs=>aa⟩
 have hgw:g<w5.heap.size:=by have:=S.ay.lt SU;have:=N5.size;omega
 have u5:∀b,o4 b->o5 b:=fun b hb=>by rw[N5.own];exact .inl hb
 have zz5:=N5.size;rintro m a o1 w7 ⟨k,LV,ft,pF,i2,i4,i5,i6,i20,i21,i22,rfl,Ie,V5,abz,cw,abA,KM⟩;obtain⟨tm,df⟩:=a;simp only at ft pF;subst pF;obtain⟨gs,rfl⟩:=fA ft;clear ft;simp only[List.range,List.range.loop,bU,oe] at i2 i4 i5 i6 i20 i21 i22 |-;simp[Act.eval] at i2 i4 i5 i6 i20 i21 i22;simp only[i2,i4,i5,i6,i20,i21,i22];clear i2 i4 i5 i6 i20 i21 i22;have u7:∀b,o5 b->grow (grow o5 w5 w6) w6 w7 b:=fun b hb=>.inl (.inl hb);have Re:∀b,b<w5.heap.size->w7.heap[b]?=w5.heap[b]?:=fun b hb=>(abz b aa aa).trans (k6 b hb);have hr7:dX w7 g b5:=gp Ur.at_ ((Re g hgw).trans (N5.old g (by have:=S.ay.lt SU;omega)));have Ut:grow (grow o5 w5 w6) w6 w7 g:=u7 _ (u5 _ (u34 _ SU));generalize XP:grow (grow o5 w5 w6) w6 w7=o7 at *;rcases aZ m with hm|hm
 ·have hk:k=b5.length:=aa;subst hk;have abB:o7 w5.heap.size:=by rw[<- XP];exact .inl ho6
  have hio:∀s,s<b5.length->o7 (cw s):=fun s hs=>by rw[<- XP];exact .inr ⟨(KM s hs).2.1,(KM s hs).2.2⟩
  have abC:oE w7 w5.heap.size b5.length out eD ins cw:=Oe abA (fun s hs=>(KM s hs).1) (fun s hs=>(KM s hs).2.2) (fun s hs=>by
   have h4:=Ur.four s hs;rw[<- Ic];simp only[lH,List.length_map,Rc];omega)
  have Jh:grow o w w1 w.heap.size:=.inr ⟨ag _,aa⟩;have hR2:o2 w.heap.size:=by rw[N2.own];exact .inl Jh
  have Of:o7 w.heap.size:=u7 _ (u5 _ (u4 _ hR2));have kR7:w7.heap[w.heap.size]?=some (Obj.cells #[.slice none 0 0,.slice none 0 0,.slice none 0 0] 145):=by
   rw[Re _ aa,N5.old _ aa,N4.old _ aa,S.old _ aa,N2.old _ aa];exact k2
  refine aA ?_;refine aF W rfl ai rfl func150 af rfl aC rfl ((N9 Ie w5.heap.size b5.length b5.length out eD ins cw aa abB abC hio).mono fun v8 o8 w8 hq8=>?_);obtain⟨N8,rfl,z8,abp⟩:=hq8;refine aA ?_;have u8:∀b,o7 b->o8 b:=fun b hb=>by rw[N8.own];exact .inl hb
  have hOr:o8 w7.heap.size:=by rw[N8.own];exact .inr ⟨ag _,z8⟩
  have kR8:=(N8.old w.heap.size (Ie.lt Of)).trans kR7;generalize hol:(dK ins b5.length b5.length).length=ol;have Ue:Cl ar L0 o8 (.agg #[.slice (some ⟨w5.heap.size,0,none⟩) b5.length b5.length,.slice (some ⟨w7.heap.size,0,none⟩) ol b5.length,.slice sp SR.length sc]):=cJ (vs:=[_,_,_]) (fun x hx=>by
   simp at hx;rcases hx with rfl|rfl|rfl
   ·exact di (u8 _ abB)
   ·exact di hOr
   ·exact N5.cl.up fun b hb=>u8 _ (u7 _ hb))
  refine bD aX N8.ay rfl ai ai ?_ rfl (R:=fun wl aI=>aI=((wl.setCell ⟨w.heap.size,0,none⟩ (.slice (some ⟨w5.heap.size,0,none⟩) b5.length b5.length)).setCell ⟨w.heap.size,1,none⟩ (.slice (some ⟨w7.heap.size,0,none⟩) ol b5.length)).setCell ⟨w.heap.size,2,none⟩ (.slice sp SR.length sc)) (fun wl aE=>⟨_,?_,rfl⟩) fun wl aI w9 aE hR ba=>?_
  ·refine dU ?_ ?_
   ·exact aH (u8 _ Of)
   ·exact Ue
  ·obtain⟨e0,e1,e2,f0,f1,f2⟩:=eE ((aE.heap _ (u8 _ Of)).trans kR8);simp[go_sem,e0,e1,e2,f0,f1,f2]
  have hO:cN w.heap.size wl aI:=by rw[hR];exact uR _ _ _ _ _ _ _ _
  obtain⟨kK,kr,e9⟩:=ba.only aE (u8 _ Of) hO;rw[hR,KL ((aE.heap _ (u8 _ Of)).trans kR8)] at kr;have gw:=ba.ay;rw[e9] at gw |-;clear hR ba aE hO wl aI kR8 e9;refine aA ?_;have c9:∀n,(w9.at n).cell? ⟨w.heap.size,0,none⟩=some (.slice (some ⟨w5.heap.size,0,none⟩) b5.length b5.length)/\(w9.at n).cell? ⟨w.heap.size,1,none⟩=some (.slice (some ⟨w7.heap.size,0,none⟩) ol b5.length)/\(w9.at n).cell? ⟨w.heap.size,2,none⟩=some (.slice sp SR.length sc):=fun n=>⟨(eE kr).1,(eE kr).2.1,(eE kr).2.2.1⟩;have zz8:=N8.size;have z9:=kK.1;refine⟨.inr trivial,trivial,.agg #[.slice (some ⟨w5.heap.size,0,none⟩) b5.length b5.length,.slice (some ⟨w7.heap.size,0,none⟩) ol b5.length,.slice sp SR.length sc],p7 (fun n=>?_) (fun n e he=>?_),⟨?_,gw,aa,fun b hb=>?_,Ue⟩,b5,w5.heap.size,w7.heap.size,cw,.slice sp SR.length sc,hpm,JY,?_⟩
  ·obtain⟨c0,c1,c2⟩:=c9 n;simp[results,results112,go_sem,c0,c1,c2]
  ·obtain⟨c0,c1,c2⟩:=c9 n;simp[results,results112,go_sem,c0,c1,c2] at he;rcases he with rfl|rfl|rfl;all_goals exact⟨_,_,_,rfl,u8 _ Of⟩
  ·rw[N8.own,<- XP,grow_grow V5 rfl zz8,grow_grow (w:=w5) aa rfl aa,N5.own,grow_grow zz5 rfl aa,N4.own,grow_grow zz4 rfl aa,S.own,grow_grow zz3 rfl aa,N2.own,grow_grow zz2 rfl aa,grow_grow (w:=w) aa rfl aa];exact Fi z9.symm
  ·rw[kK.2 b aa,N8.old b aa,Re b aa,N5.old b aa];exact QU b hb
  ·have Ye:∀b,b<w7.heap.size->b≠w.heap.size->w9.heap[b]?=w7.heap[b]?:=fun b hb cV=>(kK.2 b cV).trans (N8.old b hb);refine⟨by rw[Ic,hol],?_,?_,?_,⟨aa,aa⟩,⟨aa,aa⟩,fun s hs=>by have:=(KM s hs).2.1;omega⟩
   ·rw[V3,V4,Ic];exact iW abC (Ye _ aa aa) (fun s hs=>by obtain⟨-,h1,h2⟩:=KM s hs;exact Ye _ h2 aa) aa
   ·rw[Ic];exact World.rowIs.of_block abp (kK.2 _ aa)
   ·rw[Yd];exact kJ t5 aa aa fun b h1 h2=>(Ye b aa aa).trans (Re b h2)
 ·have hk:k<b5.length:=aa;have Yf:(k:Int)<(b5.length:Int):=aa;obtain⟨rfl,QV⟩:=hq (fun e=>by rw[e] at hk;simp at hk);refine aA ?_;obtain⟨c0,c1,c2⟩:=hr7 k hk;generalize uG:b5[k].out=ro at c0;generalize Y4:b5[k].eD=rr at c1;generalize Um:b5[k].sa=ra at c2;generalize VW:b5[k].sl=rl at c2;generalize DH:b5[k].sc=rc at c2;refine aP aX Ie rfl ai ai ?_ rfl (v:=.agg #[.string ro,.int .i64 rr,.slice ra rl rc]) (fun wl aE=>?_) fun Ui=>?_
  ·exact cj (aH Ut)
  ·simp[go_sem,(aE.cell Ut).trans c0,(aE.cell Ut).trans c1,(aE.cell Ut).trans c2]
  refine aA ?_;refine cq aX Ie rfl ai ai kp rfl (R:=fun wl v aI=>v=.pointer (some ⟨wl.heap.size,0,none⟩)/\aI=wl.alloc (Obj.cells #[.string aN,.int .i64 0,.slice none 0 0] 42)) (fun wl aE=>⟨_,_,by simp[go_sem];rfl,rfl,rfl⟩) fun wl v8 aI w8 aE hR ba=>?_;obtain⟨rfl,hR⟩:=hR;obtain⟨z8,k8,Zt⟩:=ba.alloc Ie aE hR;have C8:=ba.ay;rw[aE.size];clear hR ba aE wl aI;refine aA ?_;have KN:grow o7 w7 w8 w7.heap.size:=.inr ⟨ag _,aa⟩;refine bD aX C8 rfl ai ai ?_ rfl (R:=fun wl aI=>aI=((wl.setCell ⟨w7.heap.size,0,none⟩ (.string ro)).setCell ⟨w7.heap.size,1,none⟩ (.int .i64 rr)).setCell ⟨w7.heap.size,2,none⟩ (.slice ra rl rc)) (fun wl aE=>⟨_,?_,rfl⟩) fun wl aI w9 aE hR ba=>?_
  ·refine dU ?_ ?_
   ·exact aH KN
   ·exact Ui.up iK
  ·obtain⟨e0,e1,e2,f0,f1,f2⟩:=eE ((aE.heap _ KN).trans Zt);simp[go_sem,e0,e1,e2,f0,f1,f2]
  have hO:cN w7.heap.size wl aI:=by rw[hR];exact uR _ _ _ _ _ _ _ _
  obtain⟨kK,kr,e9⟩:=ba.only aE KN hO;rw[hR,KL ((aE.heap _ KN).trans Zt)] at kr;have gw:=ba.ay;rw[e9] at gw |-;clear hR ba aE hO wl aI Zt e9;have Uu:∀b,b<w7.heap.size->w9.heap[b]?=w7.heap[b]?:=fun b hb=>(kK.2 b aa).trans (k8 b hb);have z9:w9.heap.size=w7.heap.size+1:=by rw[kK.1,z8]
  have e89:grow o7 w7 w8=grow o7 w7 w9:=by unfold grow;rw[kK.1]
  rw[e89] at gw KN |-;clear kK k8 z8 C8 e89;clear w8;walk_nrm;refine sR W ?_;simp only[gN,cZ,if_true,if_false,reduceIte,Nat.reduceEqDiff];have Fl:ins k=(nm k).map (pS (b5.map (·.out)) SR):=by rw[<- Ic,<- Rc,<- Yd];rfl
  have afz:out k=ro:=by rw[<- V3,<- uG];simp[qC,hk]
  have afA:eD k=rr:=by rw[<- V4,<- Y4];simp[yj,hk]
  have Yg:(nm k).length=rl:=by rw[<- VW];exact(Ur.len k hk).symm
  have Rf:∀b,b<w5.heap.size->w9.heap[b]?=w5.heap[b]?:=fun b hb=>(Uu b aa).trans (Re b hb);have u9:∀b,o5 b->grow o7 w7 w9 b:=fun b hb=>.inl (u7 b hb);obtain⟨a0,a1,a2,-⟩:=eE kr;have abD:Cl ar L0 (grow o7 w7 w9) (.slice ra rl rc):=by rw[<- Um,<- VW,<- DH];exact(eY _ (pd k hk)).up (fun b hb=>u9 b (u5 b (u4 b (u2 b hb))))
  have afB:nm k≠[]->ra=some ⟨nb k,0,none⟩:=fun h=>by rw[<- Um];exact(Ur.ptr k hk h).1
  clear uG Y4 Um VW DH c0 c1 c2;obtain⟨o9,ho9⟩:∃x,x=grow o7 w7 w9:=⟨_,rfl⟩;rw[<- ho9] at gw KN u9 abD |-;have hAw:w7.heap.size<w9.heap.size:=aa;refine dq mixed af [some none,some none,some none,some (some (.string ro)),some none,some (some (.int .i64 rr)),some none,some (some (.slice ra rl rc)),some none,some none,none,some none,some none,none]
   (S:=fun σ o' w'=>(σ 13=none/\(o'=grow o9 w9 w'/\bE ar L0 o' w'/\w9.heap.size<=w'.heap.size/\(∀b,b<w9.heap.size->w'.heap[b]?=w9.heap[b]?))/\(σ 10=none->o'=o9/\w'=w9)/\(∀y,σ 10=some y->y=.slice (some ⟨w9.heap.size,0,none⟩) rl rl/\w9.heap.size<w'.heap.size/\w'.rowIs w9.heap.size 280 (rl*2) (jZ (ins k)))) \/
    (σ 13≠none/\o'=grow (grow o5 w5 w6) w6 w'/\bE ar L0 o' w'/\w6.heap.size<=w'.heap.size/\(∀b,b<w6.heap.size->b≠w5.heap.size->w'.heap[b]?=w6.heap[b]?)/\∃cw:Nat->Nat,w'.rowIs w5.heap.size 220 (b5.length*3) (fN out eD ins cw (k+1))/\∀s,s<k+1->rS w' (cw s) (ins s)/\w6.heap.size<=cw s/\cw s<w'.heap.size)) ?_ fun v=>?_
  ·exact .inl ⟨rfl,⟨(bS _ _).symm,gw,ag _,fun _ _=>rfl⟩,fun _=>⟨rfl,rfl⟩,fun y hy=>by cases hy⟩
  refine dp ?_;refine bO ?_;refine bK aX rfl rfl rfl ai ai (fun σ o' w' H hS=>?_) ?_
  ·rcases hS with⟨zK,⟨e1,e2,e3,e4⟩,-,-⟩|⟨zK,-⟩
   ·have V6:o' w7.heap.size:=by rw[e1];exact .inl KN
    refine⟨e2,fun y hy=>?_,fun wl aE=>?_⟩
    ·simp[Op.operands] at hy;subst hy;simp[Act.eval];exact aH V6
    ·simp[go_sem,(aE.cell V6).trans ((cell_of (e4 _ hAw)).trans a0)]
   ·exact absurd (H.sg 13 af) zK
  refine bO ?_;refine bK aX rfl rfl rfl ai ai (fun σ o' w' H hS=>?_) ?_
  ·rcases hS with⟨zK,⟨e1,e2,e3,e4⟩,-,-⟩|⟨zK,-⟩
   ·have V6:o' w7.heap.size:=by rw[e1];exact .inl KN
    refine⟨e2,fun y hy=>?_,fun wl aE=>?_⟩
    ·simp[Op.operands] at hy;subst hy;simp[Act.eval];exact aH V6
    ·simp[go_sem,(aE.cell V6).trans ((cell_of (e4 _ hAw)).trans a1)]
   ·exact absurd (H.sg 13 af) zK
  refine bO ?_;refine bK aX rfl rfl rfl ai ai (fun σ o' w' H hS=>?_) ?_
  ·rcases hS with⟨zK,⟨e1,e2,e3,e4⟩,-,-⟩|⟨zK,-⟩
   ·have V6:o' w7.heap.size:=by rw[e1];exact .inl KN
    refine⟨e2,fun y hy=>?_,fun wl aE=>?_⟩
    ·simp[Op.operands] at hy;subst hy;simp[Act.eval];exact aH V6
    ·simp[go_sem,(aE.cell V6).trans ((cell_of (e4 _ hAw)).trans a2)]
   ·exact absurd (H.sg 13 af) zK
  refine bO ?_;refine rj rfl rfl ai rfl func149 af rfl (av:=#[.slice ra rl rc,.slice (some ⟨w3.heap.size,0,none⟩) b5.length b5.length,.slice sp SR.length sc]) aC (fun σ o' w' H oq hS=>?_) ?_
  ·rcases hS with⟨zK,-,h5,-⟩|⟨zK,-⟩
   ·obtain⟨rfl,rfl⟩:=h5 oq;have abE:nm k≠[]->nb k<w4.heap.size:=fun h=>(Ur.ptr k hk h).2;have hL:=Q7 (Fin:=Fin) gw (nb k) rc w3.heap.size b5.length sb sc ra sp (nm k) (b5.map (·.out)) SR (by have:=Ur.four k hk;omega) eR abx (fun h=>⟨afB h,u9 _ (u5 _ (KJ k hk h))⟩) (fun h=>⟨(xB h).1,u9 _ (xB h).2⟩) (u9 _ (u5 _ ho4)) (fun i hi=>?_) (cI t4 ((Rf _ aa).trans (N5.old _ aa))) (fun i hi=>?_) (Yg.symm▸abD) ?_
    ·rw[bG,Yg,<- Fl] at hL;refine hL.mono ?_;rintro y o2 w2 ⟨N,rfl,h1,h2⟩;refine .inl ⟨by simpa[dB] using zK,⟨N.own,N.ay,N.size,N.old⟩,fun h=>by simp[dB] at h,fun y hy=>?_⟩;simp only[dB,if_true,en] at hy;subst hy;exact⟨rfl,h1,h2⟩
    ·have cV:nm k≠[]:=fun e=>by rw[e] at hi;simp at hi
     have:=abE cV;exact cI (Ur.txt k hk) ((Rf _ aa).trans (N5.old _ (abE cV))) i hi
    ·have cV:SR≠[]:=fun e=>by rw[e] at hi;simp at hi
     have:=N5.ay.lt (xB cV).2;exact cI aby (Rf _ this) i hi
    ·exact N5.cl.up u9
   ·exact absurd (H.sg 13 af) zK
  walk_nrm;refine wM (v 10=.slice (some ⟨w9.heap.size,0,none⟩) rl rl) (.agg #[.string ro,.int .i64 rr,.slice (some ⟨w9.heap.size,0,none⟩) rl rl]) rfl rfl rfl ai (fun σ o' w' H hS=>?_) (fun hv w1=>?_) (fun hv w1=>?_) fun y38 afE=>?_
  ·rcases hS with⟨-,-,-,h6⟩|⟨zK,-⟩
   ·exact(h6 _ (H.done 10 af rfl)).1
   ·exact absurd (H.sg 13 af) zK
  ·simp[go_sem,Act.eval,hv]
  ·simp[go_sem,Act.eval,hv]
  refine bO ?_;have hlen:(ins k).length=rl:=by rw[Fl,bG,Yg]
  have afF:w5.heap.size<w7.heap.size:=aa;have afG:o9 w5.heap.size:=by rw[ho9,<- XP];exact .inl (.inl ho6)
  refine jg aX rfl rfl rfl ai ai (fun σ o' w' H zK hS=>?_) ?_
  ·rcases hS with⟨-,⟨e1,e2,e3,e4⟩,-,h6⟩|⟨afH,-⟩
   ·obtain⟨hy,hz,b6⟩:=h6 _ (H.done 10 af rfl);have Uv:o' w5.heap.size:=by rw[e1];exact .inl afG
    have hn':o' w9.heap.size:=by rw[e1];exact .inr ⟨ag _,hz⟩
    have abF:=afE hy;subst abF;obtain⟨xc,V7⟩:∃f:Nat->Nat,f=fun s=>if s=k then w9.heap.size else cw s:=⟨_,rfl⟩
    have hib:xc k=w9.heap.size:=by rw[V7];simp
    have abH:∀s,s<k->cw s=xc s:=fun s hs=>by rw[V7];simp[show ¬s=k by omega]
    have abI:w'.rowIs w5.heap.size 220 (b5.length*3) (fN out eD ins xc k):=(World.rowIs.of_block abA ((e4 _ aa).trans (Uu _ afF))).congr fun j _=>C7 abH j;refine⟨e2,fun y Fo=>?_,fun wl aI=>aI=((wl.setCell ⟨w5.heap.size,k*3,none⟩ (.string ro)).setCell ⟨w5.heap.size,k*3+1,none⟩ (.int .i64 rr)).setCell ⟨w5.heap.size,k*3+2,none⟩ (.slice (some ⟨w9.heap.size,0,none⟩) rl rl),fun wl aE=>⟨_,?_,rfl⟩,fun wl aI w2 aE hR ba=>?_⟩
    ·simp[Op.operands] at Fo;rcases Fo with rfl|rfl
     ·simp[Act.eval];exact aH Uv
     ·simp[Act.eval];exact cJ (vs:=[_,_,_]) (fun x hx=>by
       simp at hx;rcases hx with rfl|rfl|rfl
       ·exact bf
       ·exact bN
       ·exact di hn')
    ·have Yh:=World.rowIs.of_block abI (aE.heap _ Uv);have q0:=Yh.cell (i:=k*3) aa;have q1:=Yh.cell (i:=k*3+1) aa;have q2:=Yh.cell (i:=k*3+2) aa;have f:=Yh.frozen;simp[go_sem,q0,q1,q2,f]
    ·have hO:cN w5.heap.size wl aI:=by rw[hR];exact uR _ _ _ _ _ _ _ _
     obtain⟨on,kbS,eg⟩:=ba.only aE Uv hO;have rh:=ba.ay;have abJ:=Q9 (World.rowIs.of_block abI (aE.heap _ Uv));rw[afz,afA,hib,hlen,<- hR] at abJ;have afI:=World.rowIs.of_block abJ kbS;refine .inr ⟨by simp[dB],?_,rh,by have:=on.1;omega,fun b hb cV=>?_,xc,afI,fun s hs=>?_⟩
     ·rw[eg,e1,ho9,<- XP,grow_grow (w:=w7) (w1:=w9) aa rfl e3,grow_grow V5 rfl aa];exact Fi on.1.symm
     ·rw[on.2 b cV,e4 b aa,Uu b aa];exact abz b hb cV
     ·by_cases hsk:s=k
      ·subst hsk;rw[hib];exact⟨zb (Od hlen.symm b6) (on.2 _ aa),aa,by rw[on.1];exact hz⟩
      ·obtain⟨p1,p2,p3⟩:=KM s aa;rw[<- abH s aa];exact⟨zb p1 (by rw[on.2 _ aa,e4 _ aa,Uu _ p3]),p2,by rw[on.1];omega⟩
   ·exact absurd zK afH
  walk_nrm;refine cd fun σ o' w' kP hS=>?_;rcases hS with⟨zK,-⟩|⟨-,e1,e2,e3,e4,xc,e5,e6⟩
  ·rw[kP 13 dh rfl] at zK;cases zK
  clear xB aby xV eY;simp only[gN,cZ,if_true,if_false,reduceIte,Nat.reduceEqDiff];refine aA ?_;have CP:IntKind.i64.wrap ((k:Int)+1)=((k+1:Nat):Int):=by rw[IntKind.wrap_i64]<;>omega
  refine⟨m-1,aa,k+1,aa,rfl,rfl,rfl,rfl,rfl,rfl,rfl,rfl,by simp[Act.eval,CP],e1,e2,e3,e4,xc,e5,e6⟩
end
end Go.Proofs.Kz
namespace Go.Ren
open Go.Conc Go.ConcN
section
variable {P:Program} {Fin:bH} {d:Nat} {o:aM} {w:ae} {fn:FuncId} {Q:Exit->Act->aM->ae->Prop} {a:Act} {ops:Array Oper} {i:Nat} {rest:List Nat} {op:Oper}
theorem pT{f:FuncId}{fc:Func}{args:Array Operand}{rR:Array TypeId}{e:Array Value->Sem Value}(ho:ops[i]?=some op)(hw:Region.wanted op (yielded ops a.tmps)=true)(eu:op.op=.call {callee:=.value (.func f),args,argTypes:=rR})(hf:P.funcs[f]?=some fc)(gF:(fc.name == "runtime.NumGoroutine")=false)(hb:fc.body.isNone=true)(hn:Extern.findNext fc=none)(he:Extern.find fc=some e){vs:Array Value}(Nk:args.map a.eval=vs){v:Value}{t:ae->ae}{evs:Array Event}{dd:Option Tmp}(hd:op.dst=dd)(nT:∀n,t (w.at n)=(t w).at n)(ft:(t w).heap.size=w.heap.size)(cm:∀n,(e vs).run P (w.at n)=.ok v (t (w.at n)))(iH:∀n,(e vs).events P (w.at n) #[⟨.mark (.extern f),false,true⟩]=#[⟨.mark (.extern f),false,true⟩]++evs)(hs:∀x∈evs,x.sync=true/\(∀g,x.loc≠.mark (.extern g))/\x.loc≠.mark .disable/\x.loc≠.mark .enable)(h:fu (XB P Fin d) fn ops rest Q (a.put dd v) o (t w))(Py:(t w).os=w.os/\(t w).output=w.output:=by exact⟨rfl,rfl⟩):fu (XB P Fin d) fn ops (i::rest) Q a o w:=fun b k cs mo hk hc =>
 xX ho hw hk eu hf gF hb hn he hd nT ft (fun n=>by rw[Nk];exact cm n) (fun n=>by rw[Nk];exact iH n) hs (h b k cs mo hk hc) Py
theorem KO(ho:ops[i]?=some op)(hw:Region.wanted op (yielded ops a.tmps)=true){v:Value}{dd:Option Tmp}(hd:op.dst=dd)(hr:∀n,(execOp a.eval op).run P (w.at n)=.ok (.value v) (w.at n))(iH:∀n,∀x∈(execOp a.eval op).events P (w.at n) #[],Xu Fin o x/\x.loc≠.mark .disable/\x.loc≠.mark .enable)(h:fu (XB P Fin d) fn ops rest Q (a.put dd v) o w):fu (XB P Fin d) fn ops (i::rest) Q a o w:=fun b k cs mo hk hc=>Hj ho hw hk hd hr iH (h b k cs mo hk hc)
theorem BQ(ho:ops[i]?=some op)(hw:Region.wanted op (yielded ops a.tmps)=true){v:Value}{dd:Option Tmp}(hd:op.dst=dd)(hr:∀n,(execOp a.eval op).run P (w.at n)=.ok (.value v) (w.at n))(iH:∀n,∀x∈(execOp a.eval op).events P (w.at n) #[],TB o x/\x.loc≠.mark .disable/\x.loc≠.mark .enable)(h:fu (XB P Fin d) fn ops rest Q (a.put dd v) o w):fu (XB P Fin d) fn ops (i::rest) Q a o w:=fun b k cs mo hk hc=>wE ho hw hk hd hr iH (h b k cs mo hk hc)
end
section
variable {P:Program} {L:Nat->Bool} {Fin:bH} {d:Nat} {fn:FuncId} {Q:Exit->Act->aM->ae->Prop} {a:Act} {ops:Array Oper} {S:(Nat->Option Value)->aM->ae->Prop} {kds:List Kd} {v:Nat->Value} {K:Act->Prop} {j:Nat} {l:List Nat} {xs:List Kd} {op:Oper} {dd:Option Tmp}
theorem Rg{f:FuncId}{fc:Func}{args:Array Operand}{rR:Array TypeId}{e:Array Value->Sem Value}(ho:ops[j]?=some op)(hd:op.dst=dd)(hw:Region.wanted op (yielded ops a.tmps)=true)(eu:op.op=.call {callee:=.value (.func f),args,argTypes:=rR})(hf:P.funcs[f]?=some fc)(gF:(fc.name == "runtime.NumGoroutine")=false)(hb:fc.body.isNone=true)(hn:Extern.findNext fc=none)(he:Extern.find fc=some e){av:Array Value}(has:args.map a.eval=av)(cm:∀σ o w,x7 ops kds v j σ->σ j=none->S σ o w->∃(y:Value) (t:ae->ae) (evs:Array Event),(∀n,t (w.at n)=(t w).at n)/\((t w).heap.size=w.heap.size/\(t w).os=w.os/\(t w).output=w.output)/\(∀n,(e av).run P (w.at n)=.ok y (t (w.at n)))/\(∀n,(e av).events P (w.at n) #[⟨.mark (.extern f),false,true⟩]=#[⟨.mark (.extern f),false,true⟩]++evs)/\(∀x∈evs,x.sync=true/\(∀g,x.loc≠.mark (.extern g))/\x.loc≠.mark .disable/\x.loc≠.mark .enable)/\S (dB σ j y) o (t w))(h:da P (Ad P (XB P Fin d) fn ops Q S kds v) ops K v l xs (a.put dd (v j))):da P (Ad P (XB P Fin d) fn ops Q S kds v) ops K v (j::l) (none::xs) a:=by
 refine fG ho hd (fun A rest σ o w h1 h2 h3 h4 hS hc=>?_) rfl h;obtain⟨y,t,evs,k1,k2,k3,k4,k5,k6⟩:=cm σ o w h3 (h4 rfl) hS;exact pT ho (h2.trans hw) eu hf gF hb hn he ((oz eu h1).trans has) rfl k1 k2.1 k3 k4 k5 (hc y o (t w) k6) k2.2
end
section
variable {P:Program} {w:ae} {ad:Addr}
theorem C9{k:IntKind}{x:Int}(hc:w.cell? ad=some (.int k x)):(Extern.Atomic.loadT (.int k) #[.pointer (some ad)]).run P w=.ok (.int k x) w:=by
 change Sem.run P (do Extern.Atomic.read (.int k) (<- asAddr (.pointer (some ad)))) w=_;simp[Extern.Atomic.read,asAddr,hc]
theorem yk{k:IntKind}{x:Int}(hc:w.cell? ad=some (.int k x))(es:Array Event):(Extern.Atomic.loadT (.int k) #[.pointer (some ad)]).events P w es=es.push ⟨.cell ad,false,true⟩:=by
 change Sem.events P (do Extern.Atomic.read (.int k) (<- asAddr (.pointer (some ad)))) w _=_;simp[Extern.Atomic.read,asAddr,hc,events_load]
theorem Da{p:Option Addr}(hc:w.cell? ad=some (.pointer p)):(Extern.Atomic.loadT .ptr #[.pointer (some ad)]).run P w=.ok (.pointer p) w:=by
 change Sem.run P (do Extern.Atomic.read .ptr (<- asAddr (.pointer (some ad)))) w=_;simp[Extern.Atomic.read,asAddr,hc]
theorem yl{p:Option Addr}(hc:w.cell? ad=some (.pointer p))(es:Array Event):(Extern.Atomic.loadT .ptr #[.pointer (some ad)]).events P w es=es.push ⟨.cell ad,false,true⟩:=by
 change Sem.events P (do Extern.Atomic.read .ptr (<- asAddr (.pointer (some ad)))) w _=_;simp[Extern.Atomic.read,asAddr,hc,events_load]
theorem BR{v u:Value}(hc:w.cell? ad=some u)(hz:w.frozen? ad=false)(hv:v.oneCell'=true):(Extern.Atomic.storeT #[.pointer (some ad),v]).run P w=.ok (.tuple #[]) (w.setCell ad v):=by
 change Sem.run P (do
  store (<- asAddr (.pointer (some ad))) v .atomic
  pure Extern.Atomic.none_) w=_
 simp[asAddr,Extern.Atomic.none_,run_store P w ad v .atomic hv,hc,hz]
theorem uT{v u:Value}(hc:w.cell? ad=some u)(hz:w.frozen? ad=false)(hv:v.oneCell'=true)(es:Array Event):(Extern.Atomic.storeT #[.pointer (some ad),v]).events P w es=es.push ⟨.cell ad,true,true⟩:=by
 change Sem.events P (do
  store (<- asAddr (.pointer (some ad))) v .atomic
  pure Extern.Atomic.none_) w _=_
 simp[asAddr,hc,hz,events_store P w _ ad v .atomic hv]
end
section
variable {P:Program} {m:Bool} {R:aM->ae->ae->Prop} {Gu:aM->ae->ae->Array Event->Prop} {X:aM->aS->ae->Prop} {o:aM} {w:ae} {f:FuncId} {Post:Value->aM->ae->Prop}
theorem Fp(W:fg P m R Gu X){g:FuncId}{gc:Func}{c:Code}{args tm:Array Value}{ds:List Deferred}(hg:P.funcs[g]?=some gc)(gF:(gc.name == "runtime.NumGoroutine")=false)(fo:gc.body=some c)(h:uJ X g c (fun e a' o' w'=>(e=.normal\/e=.ret)/\a'.defers=[]/\(∃v,ResultsC P gc a'.tmps v)/\jf X f Post ⟨tm,ds⟩ o' w') {tmps:=args++Array.replicate (gc.ntmps-args.size) undef,defers:=[]} o w):
  jf X f Post ⟨tm,{target:=.fn (.func g) #[],args}::ds⟩ o w:=by
 intro cf cs todo hc;refine W.go rfl (fun w1=>stepG_unwind_enter rfl hg gF fo) ?_;have leave:∀(a':Act) (o':aM) (w':ae) (td:List Item),a'.defers=[]->(∃v,ResultsC P gc a'.tmps v)->jf X f Post ⟨tm,ds⟩ o' w'->X o' (G {(baseD g).at a' td with mode:=.returning} ({(base f).at ⟨tm,ds⟩ todo with mode:=.returning}::cf::cs)) w':=by
  rintro a' o' w' td hd ⟨v,hr⟩ hl;exact W.go rfl (fun w1=>stepG_leave_deferred (b:=baseD g) rfl hd hg (hr w1).1 (hr w1).2 rfl) (hl cf cs todo hc)
 refine h (baseD g) [] _ rfl (by simp[baseD]) fun e a' o' w' q=>?_;obtain⟨he,hd,hr,hl⟩:=q;rcases he with rfl|rfl
 ·exact W.go rfl (fun _=>dG) (leave a' o' w' [] hd hr hl)
 ·exact fun td=>leave a' o' w' td hd hr hl
end
end Go.Ren
namespace Go.Proofs.Kz
open Go.Proofs.Tryz
open Go.Proofs.Tryz renaming prog → ar
open _root_.ByteArray renaming empty → aN
open Go.Ren Go.Conc Go.Proofs Go.ConcN
section
variable {Fin:bH} {o:aM} {w:ae}
theorem vx(K off:Nat)(x:Int)(hc:w.cell? ⟨K,off,none⟩=some (.int .u32 x)):
  bp ar (XB ar Fin 0) 142 #[.pointer (some ⟨K,off,none⟩)] o w fun v o' w'=>v=.bool (x != 0)/\o'=o/\w'=w:=by
 have W:=bJ (P:=ar) (Fin:=Fin) (d:=0);refine bA W func142 rfl ?_;walk_nrmf Tryz.f142;refine aA ?_;refine pT rfl ai rfl func182 af af af (e:=Extern.Atomic.loadT (.int .u32)) af (vs:=#[.pointer (some ⟨K,off,none⟩)]) aC (t:=id) rfl (fun n=>rfl) rfl (fun n=>C9 hc) (fun n=>by rw[yk (w:=w.at n) hc];rfl) (wV _ _) ?_;refine aA ?_;exact⟨.inr trivial,trivial,_,resultsC_tmp (t:=2) ai _,aC⟩
theorem abK:bp ar (XB ar Fin 0) 202 #[.bool true] o w fun v o' w'=>v=.int .u32 1/\o'=o/\w'=w:=by
 have W:=bJ (P:=ar) (Fin:=Fin) (d:=0);refine bA W func202 rfl ?_;walk_nrmf Tryz.f202;refine aA ?_;exact⟨.inr trivial,trivial,_,resultsC_tmp (t:=2) ai _,aC⟩
theorem KP{f:FuncId}{Post:Value->aM->ae->Prop}(K off:Nat)(x:Int)(hc:w.cell? ⟨K,off,none⟩=some (.int .u32 x))(hz:w.frozen? ⟨K,off,none⟩=false)(hF:bE ar L0 o w)(tm:Array Value)(ds:List Deferred)(h:jf (XB ar Fin 0) f Post ⟨tm,ds⟩ o (w.setCell ⟨K,off,none⟩ (.int .u32 1))):jf (XB ar Fin 0) f Post ⟨tm,{target:=.fn (.func 183) #[],args:=#[.pointer (some ⟨K,off,none⟩),.bool true]}::ds⟩ o w:=by
 have W:=bJ (P:=ar) (Fin:=Fin) (d:=0);refine Fp W func183 af rfl ?_;walk_nrmf Tryz.f183;refine dq mixed af [some none,some none,some none,some none,some (some (.int .u32 1)),none] (S:=fun σ o' w'=>o'=o/\(σ 5=none->w'=w)/\∀y,σ 5=some y->w'=w.setCell ⟨K,off,none⟩ (.int .u32 1)) ⟨rfl,fun _=>rfl,fun y hy=>by cases hy⟩ fun v=>?_;refine dp ?_;refine bO ?_;refine iL rfl rfl ai rfl func202 af rfl (av:=#[.bool true]) aC (fun σ o' w' H hS=>abK.mono ?_) ?_
 ·rintro v o2 w2 ⟨rfl,rfl,rfl⟩;exact⟨rfl,hS⟩
 walk_nrm;refine Rg rfl rfl ai rfl func201 af af af (e:=Extern.Atomic.storeT) af (av:=#[.pointer (some ⟨K,off,none⟩),.int .u32 1]) aC (fun σ o' w' H h5 hS=>?_) ?_
 ·obtain⟨rfl,h1,-⟩:=hS;obtain rfl:=h1 h5;exact⟨.tuple #[],fun w=>w.setCell ⟨K,off,none⟩ (.int .u32 1),#[⟨.cell ⟨K,off,none⟩,true,true⟩],fun n=>rfl,⟨wU _ _ _,rfl,rfl⟩,fun n=>BR hc hz rfl,fun n=>by rw[uT (w:=World.at _ n) hc hz rfl];rfl,wV _ _,rfl,fun h=>by simp[dB] at h,fun y _=>rfl⟩
 walk_nrm;refine cd fun σ o' w' kP hS=>?_;obtain⟨rfl,-,h2⟩:=hS;obtain rfl:=h2 _ (kP 5 dh rfl);exact⟨.inl trivial,rfl,⟨.tuple #[],fun w1=>results_none af _ _⟩,h⟩
theorem uU{f:FuncId}{Post:Value->aM->ae->Prop}(K off:Nat)(VV:o K)(hc:w.cell? ⟨K,off,none⟩=some (.int .i32 1))(hz:w.frozen? ⟨K,off,none⟩=false)(tm:Array Value)(ds:List Deferred)(h:jf (XB ar Fin 0) f Post ⟨tm,ds⟩ o (w.setCell ⟨K,off,none⟩ (.int .i32 0))):jf (XB ar Fin 0) f Post ⟨tm,{target:=.fn (.func 46) #[],args:=#[.pointer (some ⟨K,off,none⟩)]}::ds⟩ o w :=
 fun cf cs todo Js=>HW K off VV hc hz (base f) tm ds todo (cf::cs) (h cf cs todo Js)
theorem vy{P:Program}{src dst u e:TypeId}{j:TypeInfo}{cells:Nat}(a:Addr)(hs:P.underlying src=some .unsafePointer)(hd:P.underlying dst=some (.pointer u))(hu:P.info? u=some j)(se:w.shape? a.block=some (e,cells))(abL:liesAt P P.depth e (cells/P.cellsOf e) a.off u 1=true)(es:Array Event):
  (convert src dst (.pointer (some a))).events P w es=es:=by
 simp[convert,run_underlying hs,run_underlying hd,Conv.unsafePointer,Conv.seenAt,viewAt,se,variablesAt,abL,sizeOf,typeInfo,hu,Result.evThen]
theorem setInfo:∃j,ar.info? 59=some j/\j.size≠0:=by
 have:(ar.info? 59).map (fun i=>decide (i.size≠0))=some true:=af;obtain⟨j,h1,h2⟩:=Option.map_eq_some_iff.1 this;exact⟨j,h1,by simpa using h2⟩
theorem Eb(K off:Nat)(A:Nat)(x y z:Value)(hc:w.cell? ⟨K,off,none⟩=some (.pointer (some ⟨A,0,none⟩)))(hA:w.heap[A]?=some (.cells #[x,y,z] 59)):
  bp ar (XB ar Fin 0) 49 #[.pointer (some ⟨K,off,none⟩)] o w fun v o' w'=>v=.pointer (some ⟨A,0,none⟩)/\o'=o/\w'=w:=by
 have W:=bJ (P:=ar) (Fin:=Fin) (d:=0);refine bA W func49 rfl ?_;walk_nrmf Tryz.f49;refine aA ?_;refine pT rfl ai rfl func81 af af af (e:=Extern.Atomic.loadT .ptr) af (vs:=#[.pointer (some ⟨K,off,none⟩)]) aC (t:=id) rfl (fun n=>rfl) rfl (fun n=>Da hc) (fun n=>by rw[yl (w:=w.at n) hc];rfl) (wV _ _) ?_;walk_nrm;refine BQ rfl ai (v:=.pointer (some ⟨A,0,none⟩)) rfl (fun n=>?_) (fun n x hx=>?_) ?_
 ·obtain⟨j,hj,-⟩:=setInfo;have:=Lib.run_from_unsafe (P:=ar) (w:=w.at n) (src:=116) (dst:=113) (e:=59) (cells:=3) ⟨A,0,none⟩ underlying116 underlying113 hj (by simp[World.shape?,World.at,hA]) af;simp[go_sem,this]
 ·obtain⟨j,hj,-⟩:=setInfo;have:=vy (P:=ar) (w:=w.at n) (src:=116) (dst:=113) (e:=59) (cells:=3) ⟨A,0,none⟩ underlying116 underlying113 hj (by simp[World.shape?,World.at,hA]) af #[];simp[go_sem,this] at hx
 refine aA ?_;exact⟨.inr trivial,trivial,_,resultsC_tmp (t:=2) ai _,aC⟩
theorem BS(K off:Nat)(A:Nat)(x y z u:Value)(hc:w.cell? ⟨K,off,none⟩=some u)(hz:w.frozen? ⟨K,off,none⟩=false)(hA:w.heap[A]?=some (.cells #[x,y,z] 59)):
  bp ar (XB ar Fin 0) 61 #[.pointer (some ⟨K,off,none⟩),.pointer (some ⟨A,0,none⟩)] o w fun v o' w'=>v=.tuple #[]/\o'=o/\w'=w.setCell ⟨K,off,none⟩ (.pointer (some ⟨A,0,none⟩)):=by
 have W:=bJ (P:=ar) (Fin:=Fin) (d:=0);refine bA W func61 rfl ?_;walk_nrmf Tryz.f61;refine aA ?_;obtain⟨Xp,-⟩:=eE hA;have hcv:=fun n=>run_convert_to_unsafe (P:=ar) (w:=w.at n) underlying113 underlying116 af Xp;have hce:=fun n es=>events_convert_to_unsafe (P:=ar) (w:=w.at n) underlying113 underlying116 af Xp es;refine BQ rfl ai (v:=.pointer (some ⟨A,0,none⟩)) rfl (fun n=>by simp[go_sem,hcv n]) (fun n x hx=>by simp[go_sem,hce n] at hx) ?_;walk_nrm;refine pT rfl ai rfl func99 af af af (e:=Extern.Atomic.storeT) af (vs:=#[.pointer (some ⟨K,off,none⟩),.pointer (some ⟨A,0,none⟩)]) aC (t:=fun w=>w.setCell ⟨K,off,none⟩ (.pointer (some ⟨A,0,none⟩))) rfl (fun n=>rfl) (wU _ _ _) (fun n=>BR hc hz rfl) (fun n=>by rw[uT (w:=w.at n) hc hz rfl];rfl) (wV _ _) ?_;refine aA ?_;exact⟨.inl trivial,trivial,.tuple #[],fun w1=>results_none af _ _,an⟩
end
end Go.Proofs.Kz
