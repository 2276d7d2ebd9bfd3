/- Proved: whatever raw rules and whatever script are handed in, kilnkeep.Whole answers true, whichever way the goroutines are scheduled: each set that is published is what Clean makes of the files as they were at one moment between its Start and its Publish, and the moments go forward. Conditions: those of the given card, Rows.WholeCardSaid; none besides. -/
import Derived.Test.YtgjekaaknjgnmaaGreatDoorAj
import Derived.Test.YtgjekaaknjgnmaaGreatDoorAl
set_option linter.all false
set_option maxHeartbeats 40000000
set_option maxRecDepth 200000
namespace Go.Proofs.Kz
open Go.Proofs.Tryz
open Go.Proofs.Tryz renaming prog → au
open _root_.ByteArray renaming empty → aO
section
variable {K:pz} {s s1 s2:gQ} {fs EB H:List (af×af)} {gz:List (List (af×af))} {ed yV start ix:Nat} {kd a b n:Int} {y:af} {rs:List aI} {NM:aI->List af} {RK:af->Nat} {F:cY} {v:Value}
theorem sZ{m:Int}{x:af}(h:did n y=did m x):n=m:=by
 unfold did at h;injection h with h;have h0:=congrArg (fun a=>a[0]?) h;simp at h0;exact h0
theorem KG(st:List (af×Int))(x y:af)(v:Int):cg (gN st x v) y=if y=x then v else cg st y:=by
 unfold cg;rw[yO];split<;>rfl
def YK(s:gQ):Prop:=∀j (h:j<s.rd.length) (h':j<s.src.length),s.rd[j].2<=cg s.st s.src[j]/\(s.rd[j].2=cg s.st s.src[j]->s.rd[j].1=dU s.th s.src[j])
def FT(s:gQ)(H:List (af×af)):Prop:=∀j (h:j<s.rd.length) (h':j<s.src.length),(j<s.ck->s.rd[j].1=dU H s.src[j])/\(s.ck<=j->s.rd[j].2<=cg s.st s.src[j]/\(s.rd[j].2=cg s.st s.src[j]->s.rd[j].1=dU H s.src[j]))
structure nk(s:gQ)(gz:List (List (af×af)))(start ix ed:Nat):Prop where
 st:∀x,0<=cg s.st x/\cg s.st x<=ed
 two:s.phase=2->YK s
 three:s.phase=3->∃m,∃h:m<gz.length,start<=m/\ix<=m/\FT s gz[m]
 le:start<=gz.length/\ix<=gz.length
 num:0<=s.num/\s.num<=gz.length
theorem nk.zero(pb:Nat):nk (s0 pb) [] 0 0 0:=⟨fun x=>by simp[s0,cg,eT],fun q=>by simp[s0] at q,fun q=>by simp[s0] at q,aj,by simp[s0]⟩
theorem nk.edit(h:nk s gz start ix ed)(Us:ed<4611686018427387904)(x:af)(th':List (af×af))(UU:∀y,y≠x->eT th' y=eT s.th y)(qJ:Value)(qn':List af)(ae2:Bool):nk {s with th:=th',st:=gN s.st x (IntKind.i64.wrap (cg s.st x+1)),qv:=qJ,qn:=qn',lost:=ae2} (gz++[fs]) start ix (ed+1):=by
 have hx:=h.st x;have uW:IntKind.i64.wrap (cg s.st x+1)=cg s.st x+1:=by rw[IntKind.wrap_i64]<;>omega
 have hle:=h.le;have eG:∀y,cg (gN s.st x (IntKind.i64.wrap (cg s.st x+1))) y=if y=x then cg s.st x+1 else cg s.st y:=fun y=>by rw[KG,uW]
 have hV:∀y,y≠x->dU th' y=dU s.th y:=fun y hy=>by unfold dU;rw[UU y hy]
 refine⟨fun y=>?_,fun q j h1 h2=>?_,fun q=>?_,dV,by have:=h.num;simp;omega⟩
 ·simp only[eG];have:=h.st y;split<;>omega
 ·obtain⟨k1,k2⟩:=h.two q j h1 h2;simp only[eG];by_cases e:s.src[j]=x
  ·rw[if_pos e,<- e];exact⟨aa,fun q=>aa⟩
  ·rw[if_neg e,hV _ e];exact⟨k1,k2⟩
 ·obtain⟨m,hm,h1,h2,h3⟩:=h.three q;refine⟨m,dV,h1,h2,fun j k1 k2=>?_⟩;rw[bT hm];obtain⟨q1,q2⟩:=h3 j k1 k2;refine⟨q1,fun q=>?_⟩;obtain⟨r1,r2⟩:=q2 q;simp only[eG];by_cases e:s.src[j]=x
  ·rw[if_pos e,<- e];exact⟨aa,fun q=>aa⟩
  ·rw[if_neg e];exact⟨r1,r2⟩
theorem nk.still(h:nk s gz start ix ed)(e1:s2.st=s.st)(e2:s2.phase=s.phase)(e3:s2.rd=s.rd)(e4:s2.src=s.src)(e5:s2.ck=s.ck)(e6:s2.th=s.th)(e7:s2.num=s.num):nk s2 (gz++[fs]) start ix ed:=by
 have hle:=h.le;refine⟨by rw[e1];exact h.st,fun q=>?_,fun q=>?_,dV,by have:=h.num;rw[e7];simp;omega⟩
 ·have:=h.two aa;unfold YK at *;simp only[e1,e3,e4,e6];exact this
 ·obtain⟨m,hm,h1,h2,h3⟩:=h.three aa;refine⟨m,dV,h1,h2,?_⟩;rw[bT hm];unfold FT at *;simp only[e1,e3,e4,e5];exact h3
theorem nk.idle{mw pV:Nat}(h:nk s gz start ix ed)(e1:s2.st=s.st)(e2:s2.phase<=1)(hs:mw<=gz.length+1)(hm:pV<=gz.length+1)(e7:0<=s2.num/\s2.num<=gz.length+1):nk s2 (gz++[fs]) mw pV ed :=
 ⟨by rw[e1];exact h.st,fun q=>aa,fun q=>aa,dV,dV⟩
theorem FT.check(h:FT s1 H)(hlen:s1.rd.length=s1.src.length)(hc:Checked K s1 s2 F (fileOf s1.src (s1.rd.map (·.1))) v):
  (v=did 6 aO/\s2.phase=0/\s2.st=s1.st/\s2.num=IntKind.i64.wrap (s1.num+1)/\s2.res=nS K.B F (fileOf s1.src (s1.rd.map (·.1)))/\∀x∈s1.src,fileOf s1.src (s1.rd.map (·.1)) x=dU H x)\/(∃x,v=did 5 x/\s2.phase=1/\s2.st=s1.st/\s2.num=s1.num/\s2.res=s1.res)\/(∃x,v=did 4 x/\s2.phase=s1.phase/\s2.st=s1.st/\s2.num=s1.num/\s2.res=s1.res/\FT s2 H):=by
 rcases hc with⟨c1,e,ij,Qx,sn,sr,-,rfl⟩|⟨c1,c2,⟨c3,e,rfl⟩|⟨c3,e,rfl⟩⟩
 ·refine .inl ⟨e,rfl,rfl,rfl,rfl,fun x hx=>?_⟩;have hr:s1.rd.map (·.1)=s1.src.map (dU H):=by
   refine List.ext_getElem (by simp[hlen]) fun i h1 h2=>?_;simp at h1 h2;simp only[List.getElem_map];exact(h i h1 h2).1 aa
  rw[hr];exact zZ _ _ _ hx
 ·exact .inr (.inl ⟨_,e,rfl,rfl,rfl,rfl⟩)
 ·refine .inr (.inr ⟨_,e,rfl,rfl,rfl,rfl,fun j h1 h2=>?_⟩);obtain⟨q1,q2⟩:=h j h1 h2;refine⟨fun q=>?_,fun q=>?_⟩
  ·by_cases hj:j<s1.ck
   ·exact q1 hj
   ·have e:j=s1.ck:=by simp only at q;omega
    subst e;exact(q2 (ag _)).2 c3.symm
  ·exact q2 (by simp only at q;omega)
theorem nk.step(h:nk s gz start ix ed)(hs:Sound K s)(aT:gd s fs)(Q3:gx rs NM RK K.B)(Na:∀lo F,s.fd=some (lo,F)->zY K.B F)(Us:ed<4611686018427387904)(hhl:gz.length<4611686018427387904)(st:Du K kd a b s s2 fs EB ed yV n y):
  (n≠6/\s2.res=s.res/\s2.num=s.num/\nk s2 (gz++[fs]) (if n=2 then gz.length else start) ix yV) \/
  (n=6/\s2.num=s.num+1/\∃m,∃hm:m<(gz++[fs]).length,start<=m/\ix<=m/\lN rs NM RK (gz++[fs])[m] s2.res/\∀pV,pV<=m->nk s2 (gz++[fs]) start pV yV):=by
 have hle:=h.le;have EE:=h.num;have uW:IntKind.i64.wrap (s.num+1)=s.num+1:=by rw[IntKind.wrap_i64]<;>omega
 have Kl:∀(s1:gQ) (F:cY),s1.phase=3->(s.phase=2\/s.phase=3)->s1.rd=s.rd->s1.src=s.src->s1.st=s.st->s1.num=s.num->s1.res=s.res->s.rd.length=s.src.length->(∃m,∃hm:m<(gz++[fs]).length,start<=m/\ix<=m/\FT s1 (gz++[fs])[m])->(∃lo,s.fd=some (lo,F))->yV=ed->Checked K s1 s2 F (fileOf s.src (s.rd.map (·.1))) (did n y) ->
   (n≠6/\s2.res=s.res/\s2.num=s.num/\nk s2 (gz++[fs]) (if n=2 then gz.length else start) ix yV) \/
   (n=6/\s2.num=s.num+1/\∃m,∃hm:m<(gz++[fs]).length,start<=m/\ix<=m/\lN rs NM RK (gz++[fs])[m] s2.res/\∀pV,pV<=m->nk s2 (gz++[fs]) start pV yV):=by
  intro s1 F e1 e2 e3 e4 e5 e6 e7 e8 hS DO eed Hv;subst eed;obtain⟨m,hm,m1,m2,h3⟩:=hS;obtain⟨lo,vF⟩:=DO;rw[<- e3,<- e4] at Hv;rcases h3.check (by rw[e3,e4];exact e8) Hv with⟨d,p,c1,c2,c3,c4⟩|⟨x,d,p,c1,c2,c3⟩|⟨x,d,p,c1,c2,c3,c4⟩
  ·have Yz:m<gz.length+1:=by simpa using hm
   refine .inr ⟨sZ d,by rw[c2,e6,uW],m,hm,m1,m2,⟨K.B,F,Na lo F vF,Q3,?_⟩,fun pV XE=>h.idle (c1.trans e5) aa aa aa ?_⟩
   ·rw[c3];refine FO (Na lo F vF) fun x hx=>c4 x ?_;rw[e4,hs.src e2];exact hx
   ·rw[c2,e6,uW];omega
  ·have en:=sZ d;refine .inl ⟨aa,c3.trans e7,c2.trans e6,?_⟩;rw[if_neg aa];exact h.idle (c1.trans e5) aa aa aa (by rw[c2,e6];omega)
  ·have en:=sZ d;refine .inl ⟨aa,c3.trans e7,c2.trans e6,?_⟩;rw[if_neg aa];exact⟨by rw[c1,e5];exact h.st,fun q=>aa,fun _=>⟨m,hm,m1,m2,c4⟩,dV,by rw[c2,e6];simp;omega⟩
 rcases st with⟨-,e0,-,e,-,qJ,rfl⟩|⟨-,e0,-,-,⟨-,e,qJ,rfl⟩|⟨-,e,rfl⟩⟩|⟨-,e0,-,-,e,q⟩|⟨-,-,-,-,e,F,DO,hw⟩
 ·subst e e0;exact .inl ⟨aa,rfl,rfl,h.edit Us _ _ (fun y hy=>by rw[yO,if_neg hy]) _ _ _⟩
 ·subst e e0;exact .inl ⟨aa,rfl,rfl,h.edit Us _ _ (fun y hy=>by rw[Ds _ _ _ aT.tk.1,if_neg hy]) _ _ _⟩
 ·subst e e0;exact .inl ⟨aa,rfl,rfl,h.still rfl rfl rfl rfl rfl rfl rfl⟩
 ·subst e e0;rcases q with⟨-,rfl⟩|⟨-,rfl⟩
  ·exact .inl ⟨aa,rfl,rfl,h.still rfl rfl rfl rfl rfl rfl rfl⟩
  ·exact .inl ⟨aa,rfl,rfl,h.still rfl rfl rfl rfl rfl rfl rfl⟩
 ·subst e;rcases hw with⟨p2,⟨c1,c2⟩|⟨c1,d,MG,rfl⟩⟩|⟨p3,c2⟩|⟨n2,n3,hr⟩
  ·refine Kl {s with phase:=3} F rfl (.inl p2) rfl rfl rfl rfl rfl c1 ⟨gz.length,aj,hle.1,hle.2,fun j h1 h2=>?_⟩ (DO (.inl p2)) rfl c2;have ajV:s.ck=0:=hs.early p2;obtain⟨k1,k2⟩:=h.two p2 j h1 h2;simp only[List.getElem_concat_length,ajV];refine⟨fun q=>absurd q aa,fun _=>⟨k1,fun q=>?_⟩⟩;rw[k2 q];unfold dU;rw[aT.get]
  ·have en:=sZ d;refine .inl ⟨aa,rfl,rfl,?_⟩;rw[if_neg aa];refine⟨h.st,fun _ j h1 h2=>?_,fun q=>by have:s.phase=3:=q;omega,dV,dV⟩;simp only at h1 h2 |-;by_cases hj:j<s.rd.length
   ·rw[bT hj];exact h.two p2 j hj h2
   ·have e:j=s.rd.length:=by simp at h1;omega
    subst e;simp
  ·refine Kl s F p3 (.inr p3) rfl rfl rfl rfl rfl (hs.full p3) ?_ (DO (.inr p3)) rfl c2;obtain⟨m,hm,m1,m2,h3⟩:=h.three p3;exact⟨m,dV,m1,m2,by rw[bT hm];exact h3⟩
  ·have hp:s.phase<=1:=by have:=hs.ph;omega
   rcases hr with⟨-,d,rfl⟩|⟨-,hq,d,lo,F',MI,rfl⟩|⟨-,-,d,rfl⟩
   ·have en:=sZ d;refine .inl ⟨aa,rfl,rfl,?_⟩;rw[if_neg aa];exact h.idle rfl (ag _) aa aa (by show 0<=s.num/\s.num<=_;omega)
   ·have en:=sZ d;refine .inl ⟨aa,rfl,rfl,?_⟩;rw[if_pos en];exact⟨h.st,fun _ j h1 _=>by simp[gQ.stand] at h1,fun q=>by simp[gQ.stand] at q,dV,by show 0<=s.num/\s.num<=_;simp;omega⟩
   ·have en:=sZ d;refine .inl ⟨aa,rfl,rfl,?_⟩;rw[if_neg aa];exact h.still rfl rfl rfl rfl rfl rfl rfl
end
open Go.Ren Go.Conc Go.Proofs Go.ConcN
open Go.ConcR (Payload)
theorem QR:(au.info? 37).map (fun i=>(i.zero,i.size,i.bytes))=some (some (.slice none 0 0),1,24):=ah
theorem QS(W:ae)(lo:Nat)(v:Value)(n:Nat)(xs:List Value)(x:Value)(A:Nat)(h:W.ownsRow lo 37 1 v n xs)(hn:(n+1)*24<=140737488355328)(vF:lo<=W.heap.size)(ha:W.heap[A]?=some (.cells #[x] 37))(hx:x.oneCell'=true):
  ∃v' W',(Builtin.append_ #[67,67] 67 #[v,.slice (some ⟨A,0,none⟩) 1 1]).run au W=.ok v' W'/\W'.ownsRow lo 37 1 v' (n+1) (xs++[x])/\W.grownBy W' v.ownBlock/\(v'.ownBlock=v.ownBlock\/v'.ownBlock=some W.heap.size):=by
 obtain⟨i,hi,od⟩:=Option.map_eq_some_iff.1 QR;simp only[bt] at od;obtain⟨v',W',e1,e2,e3,_,e4⟩:=run_append_own_at (P:=au) W lo 67 67 37 i _ 1 24 underlying67 hi od.1 od.2.1 od.2.2 rfl aa v n xs h ⟨A,0,none⟩ 1 1 [x] rfl (fun j u hj=>by
  cases j with
  |zero=>simp at hj;subst hj;simp[Addr.add,World.cell?,ha]
  |succ j=>simp at hj) (by simpa using hx) (by simp[maxLen];omega) aa vF
 exact⟨v',W',e1,e2,e3,e4⟩
theorem ny.lC{o:aM}{w:ae}{lo e n:Nat}{v:Value}{xs:List Value}(h:ny o w lo e 1 v n xs)(hF:bM au L0 o w)(hn:0<n):∃b c,v=.slice (some ⟨b,0,none⟩) n c/\o b/\∀k (hk:k<xs.length),w.cell? ⟨b,k,none⟩=some xs[k]:=by
 have cj:=h.row;obtain⟨h0,hc⟩:=h.row;rcases hc with⟨e1,e2⟩|⟨g,cap,cur,e1,k1,k2,k3,k4,k5,k6⟩
 ·omega
 ·have lQ:=cj.cells (g:=g) (by rw[e1];rfl);have og:=gG hF h.cl g (by rw[e1];rfl);refine⟨g,cap,e1,og,fun i hi=>?_⟩;have:=lQ i xs[i] (by simp[hi]);have ha:(⟨g,0,none⟩:Addr).add i=⟨g,i,none⟩:=by simp[Addr.add];omega
  rw[ha] at this;exact this
structure HP where
 hv:Value
 gz:List (List (af×af))
 xT:List Value
 Wb:Nat
 wn:Int
 pa:Option Addr
 ba:Nat
 ca:Nat
 tv:Value
 wr:List (af×V)
def DD(P:HP)(fv:Value)(rs:List aI)(NM:aI->List af)(NB:aI->Nat)(rb g:Nat):Prop:=fv.ownBlock=some g\/(∃v∈P.xT,v.ownBlock=some g)\/nj rs NM NB rb g\/(P.wr≠[]/\P.ba=g)
section
variable {Fin:bK} {o o' o1 o2:aM} {w w' w1 w2:ae} {S:Nat} {K:pz} {P:HP} {s s' s2:gQ} {lab lab' dp fR:Nat->Nat} {rv fv MY:Value} {fs EB:List (af×af)} {ed yV cnt Hn:Nat} {rp:Option Addr} {rb rc:Nat} {rs:List aI} {NM:aI->List af} {NB:aI->Nat} {RK:af->Nat}
structure HS(o:aM)(w:ae)(S:Nat)(K:pz)(rp:Option Addr)(rb rc:Nat)(rs:List aI)(NM:aI->List af)(NB:aI->Nat)(P:HP)(s:gQ)(lab:Nat->Nat)(fv:Value)(fs:List (af×af))(ed cnt:Nat)(o':aM)(w':ae):Prop where
 ss:SS o w S K rp rb rc rs NM NB s lab fv fs ed cnt o' w'
 row:ny o' w' w.heap.size 37 1 P.hv P.gz.length P.xT
 len:P.xT.length=P.gz.length
 files:∀m (h:m<P.gz.length) (h':m<P.xT.length),pr o' w' P.xT[m] P.gz[m]
 ok:∀f∈P.gz,vw f
 was:w'.heap[P.Wb]?=some (.cells #[.int .i64 P.wn,.slice P.pa P.wr.length P.ca,P.tv] 59)
 own:o' P.Wb
 res:(P.wr≠[]->P.pa=some ⟨P.ba,0,none⟩/\o' P.ba)/\nC w' P.ba P.wr
 gT:P.wr.length<=1000
 keep:∀g,DD P fv rs NM NB rb g->lab g=7/\g≠S/\g≠P.Wb/\P.hv.ownBlock≠some g
 xj:lab P.Wb=7/\P.Wb≠S/\P.hv.ownBlock≠some P.Wb/\w.heap.size<=P.Wb
 Hq:∀g,P.hv.ownBlock=some g->lab g=7/\g≠S
theorem HS.lt(h:HS o w S K rp rb rc rs NM NB P s lab fv fs ed cnt o' w'){g:Nat}(hg:DD P fv rs NM NB rb g):g<w'.heap.size:=by
 have hF:=h.ss.cz.dF.aF;rcases hg with q|⟨v,hv,q⟩|q|⟨q,rfl⟩
 ·exact hF.lt (gG hF h.ss.cz.files.cl g q)
 ·obtain⟨m,hm,rfl⟩:=bc hv;exact hF.lt (gG hF (h.files m (by rw[<- h.len];exact hm) hm).cl g q)
 ·exact h.ss.hand.lt hF q
 ·exact hF.lt (h.res.1 q).2
theorem HS.go(h:HS o w S K rp rb rc rs NM NB P s dp fv fs ed cnt o1 w1)(sh:vJ o2 w2 S K s2 fR (.slice rp rs.length rc) MY EB yV)(U:gD S o1 w1 dp o2 w2 fR)(ht:Told K rs NM AF s2 yV Hn)(YJ:∀g,MY.ownBlock=some g->fv.ownBlock=some g\/w1.heap.size<=g):HS o w S K rp rb rc rs NM NB P s2 fR MY EB yV Hn o2 w2:=by
 have hF:=h.ss.cz.dF.aF;have lW:=hF.lt h.own;have stay:∀g,g<w1.heap.size->dp g=7/\g≠S->w2.heap[g]?=w1.heap[g]?:=fun g hg q=>U.br.same g hg aa;have lF:∀g,DD P fv rs NM NB rb g->w2.heap[g]?=w1.heap[g]?:=fun g hg=>stay g (h.lt hg) ⟨(h.keep g hg).1,(h.keep g hg).2.1⟩;refine⟨h.ss.go sh U ht,h.row.keep U.br.more U.br.size fun g hg=>stay g (h.row.lt g hg).2 (h.Hq g hg),h.len,fun m k1 k2=>(h.files m k1 k2).keep U.br.more fun g hg=>lF g (.inr (.inl ⟨_,aG k2,hg⟩)),h.ok,(stay _ lW ⟨h.xj.1,h.xj.2.1⟩).trans h.was,U.br.more _ h.own,⟨fun q=>⟨(h.res.1 q).1,U.br.more _ (h.res.1 q).2⟩,?_⟩,h.gT,fun g hg=>?_,⟨(U.lab _ lW).trans h.xj.1,h.xj.2⟩,fun g hg=>⟨(U.lab g (h.row.lt g hg).2).trans (h.Hq g hg).1,(h.Hq g hg).2⟩⟩
 ·by_cases q:P.wr=[]
  ·intro i hi;rw[q] at hi;simp at hi
  ·exact kn h.res.2 (lF _ (.inr (.inr (.inr ⟨q,rfl⟩))))
 ·have old:DD P fv rs NM NB rb g->fR g=7/\g≠S/\g≠P.Wb/\P.hv.ownBlock≠some g:=fun q=>⟨(U.lab g (h.lt q)).trans (h.keep g q).1,(h.keep g q).2⟩;rcases hg with q|q
  ·rcases YJ g q with q' | q'
   ·exact old (.inl q')
   ·exact⟨(sh.QI g q).1,(sh.QI g q).2,aa,fun e=>by have:=(h.row.lt g e).2;omega⟩
  ·exact old (.inr q)
theorem HS.k(h:HS o w S K rp rb rc rs NM NB P s dp fv fs ed cnt o1 w1)(T:cN o1 w1 dp o2 w2 fR)(hk:bm o2 w2 K s 0 fR):HS o w S K rp rb rc rs NM NB P s fR fv fs ed cnt o2 w2 :=
 h.go (h.ss.cz.work hk h.ss.cz.sound T rfl) ((gD.refl (S:=S) h.ss.cz.dF.aF).k T) h.ss.told fun g hg=>.inl hg
theorem SS.side{ex:Nat->Prop}(h:SS o w S K rp rb rc rs NM NB s dp fv fs ed cnt o1 w1)(q:bA ex o1 w1 o2 w2)(hx:∀b,ex b->dp b=7/\b≠S/\fv.ownBlock≠some b/\¬nj rs NM NB rb b/\w.heap.size<=b/\b<w1.heap.size):∃fR,SS o w S K rp rb rc rs NM NB s fR fv fs ed cnt o2 w2/\(∀b,b<w1.heap.size->fR b=dp b)/\∀b,w1.heap.size<=b->fR b=7:=by
 have hq:∀b,b<w1.heap.size->(if b<w1.heap.size then dp b else 7)=dp b:=fun b hb=>if_pos hb;have hF:=h.cz.dF.aF;have hk:=(h.cz.dF.J3 fun b hb=>hq b (hF.lt hb)).aside q (fun b hb=>by rw[hq b (hx b hb).2.2.2.2.2];exact(hx b hb).1);have sl:=hF.lt h.cz.own;have z1:=h.old.size;have z2:=q.size;have fl:∀g,fv.ownBlock=some g->g<w1.heap.size:=fun g hg=>hF.lt (gG hF h.cz.files.cl g hg);refine⟨_,⟨⟨hk,h.cz.sound,(q.same S sl fun e=>(hx S e).2.1 rfl).trans h.cz.blk,q.more _ h.cz.own,(hq S sl).trans h.cz.Xe,h.cz.files.keep q.more fun g hg=>q.same g (fl g hg) fun e=>(hx g e).2.2.1 hg,fun g hg=>⟨(hq g (fl g hg)).trans (h.cz.QI g hg).1,(h.cz.QI g hg).2⟩,h.cz.A4⟩,⟨q.aF,fun b hb=>q.more b (h.old.more b hb),fun b hb=>(q.new b hb).elim (fun q=>h.old.new b q) fun q=>.inr aa,aa,fun b hb hn=>(q.same b aa fun e=>?_).trans (h.old.same b hb hn)⟩,fun b hb=>by rw[hq b aa];exact h.aaQ b hb,h.sge,h.hand.keep q.more fun g hg=>q.same g (h.hand.lt hF hg) fun e=>(hx g e).2.2.2.1 hg,fun g hg=>⟨(hq g (h.hand.lt hF hg)).trans (h.lF g hg).1,(h.lF g hg).2⟩,h.told⟩,hq,fun b hb=>if_neg aa⟩;have:=(hx b e).2.2.2.2.1;omega
theorem HS.app{y:Value}(h:HS o w S K rp rb rc rs NM NB P s dp fv fs ed cnt o1 w1)(q1:ny o2 w2 w.heap.size 37 1 y (P.gz.length+1) (P.xT++[fv]))(q2:bA (fun b=>P.hv.ownBlock=some b) o1 w1 o2 w2)(q3:∀b,y.ownBlock=some b->P.hv.ownBlock=some b\/w1.heap.size<=b):∃fR,HS o w S K rp rb rc rs NM NB {P with hv:=y,gz:=P.gz++[fs],xT:=P.xT++[fv]} s fR fv fs ed cnt o2 w2:=by
 have hF:=h.ss.cz.dF.aF;have lW:=hF.lt h.own;obtain⟨fR,ss,hl,hn⟩:=h.ss.side q2 (fun b hb=>⟨(h.Hq b hb).1,(h.Hq b hb).2,fun e=>(h.keep b (.inl e)).2.2.2 hb,fun e=>(h.keep b (.inr (.inr (.inl e)))).2.2.2 hb,(h.row.lt b hb).1,(h.row.lt b hb).2⟩);have lF:∀g,DD P fv rs NM NB rb g->w2.heap[g]?=w1.heap[g]?:=fun g hg=>q2.same g (h.lt hg) fun e=>(h.keep g hg).2.2.2 e;have hy:∀g,g<w1.heap.size->P.hv.ownBlock≠some g->y.ownBlock≠some g:=fun g hg k e=>by
  rcases q3 g e with q|q
  ·exact k q
  ·omega
 refine⟨fR,ss,by simpa using q1,by simp[h.len],fun m k1 k2=>?_,fun f hf=>?_,(q2.same _ lW h.xj.2.2.1).trans h.was,q2.more _ h.own,⟨fun q=>⟨(h.res.1 q).1,q2.more _ (h.res.1 q).2⟩,?_⟩,h.gT,fun g hg=>?_,⟨(hl _ lW).trans h.xj.1,h.xj.2.1,hy _ lW h.xj.2.2.1,h.xj.2.2.2⟩,fun g hg=>?_⟩
 ·simp only at k1 k2 |-;have hlen:=h.len;by_cases hm:m<P.gz.length
  ·rw[bT hm,bT aa];exact(h.files m hm aa).keep q2.more fun g hg=>lF g (.inr (.inl ⟨_,aG _,hg⟩))
  ·have e:m=P.gz.length:=by simp at k1;omega
   subst e;rw[jJ (ag _),jJ aa];simp[hlen];exact h.ss.cz.files.keep q2.more fun g hg=>lF g (.inl hg)
 ·rcases List.mem_append.1 hf with q|q
  ·exact h.ok f q
  ·simp at q;rw[q];exact h.ss.cz.ok
 ·by_cases q:P.wr=[]
  ·intro i hi;simp only at hi;rw[q] at hi;simp at hi
  ·exact kn h.res.2 (lF _ (.inr (.inr (.inr ⟨q,rfl⟩))))
 ·have Am:DD P fv rs NM NB rb g:=by
   rcases hg with q|⟨v,hv,q⟩|q|q
   ·exact .inl q
   ·rcases List.mem_append.1 hv with k|k
    ·exact .inr (.inl ⟨v,k,q⟩)
    ·simp at k;subst k;exact .inl q
   ·exact .inr (.inr (.inl q))
   ·exact .inr (.inr (.inr q))
  obtain⟨k1,k2,k3,k4⟩:=h.keep g Am;exact⟨(hl g (h.lt Am)).trans k1,k2,k3,hy g (h.lt Am) k4⟩
 ·rcases q3 g hg with q|q
  ·exact⟨(hl g (h.row.lt g q).2).trans (h.Hq g q).1,(h.Hq g q).2⟩
  ·exact⟨hn g q,by have:=hF.lt h.ss.cz.own;omega⟩
theorem HS.put{wn:Int}{pa:Option Addr}{ba ca:Nat}{tv:Value}{wr:List (af×V)}(h:HS o w S K rp rb rc rs NM NB P s dp fv fs ed cnt o1 w1)(rO:bM au L0 o1 w2)(on:eI P.Wb w1 w2)(blk:w2.heap[P.Wb]?=some (.cells #[.int .i64 wn,.slice pa wr.length ca,tv] 59))(yR:wr≠[]->pa=some ⟨ba,0,none⟩/\o1 ba)(ha:nC w1 ba wr)(hw:wr.length<=1000)(Z5:wr≠[]->dp ba=7/\ba≠S/\ba≠P.Wb/\P.hv.ownBlock≠some ba):∃fR,HS o w S K rp rb rc rs NM NB {P with wn:=wn,pa:=pa,ba:=ba,ca:=ca,tv:=tv,wr:=wr} s fR fv fs ed cnt o1 w2:=by
 have hF:=h.ss.cz.dF.aF;have lW:=hF.lt h.own;have q2:bA (·=P.Wb) o1 w1 o1 w2:=bA.dG (ex:=(·=P.Wb)) rO on rfl;obtain⟨fR,ss,hl,hn⟩:=h.ss.side q2 (fun b hb=>by
  subst hb;exact⟨h.xj.1,h.xj.2.1,fun e=>(h.keep _ (.inl e)).2.2.1 rfl,fun e=>(h.keep _ (.inr (.inr (.inl e)))).2.2.1 rfl,h.xj.2.2.2,lW⟩)
 refine⟨fR,ss,h.row.keep q2.more q2.size fun g hg=>on.2 g fun e=>h.xj.2.2.1 (e▸hg),h.len,fun m k1 k2=>(h.files m k1 k2).keep q2.more fun g hg=>on.2 g (h.keep g (.inr (.inl ⟨_,aG k2,hg⟩))).2.2.1,h.ok,blk,h.own,⟨yR,?_⟩,hw,fun g hg=>?_,⟨(hl _ lW).trans h.xj.1,h.xj.2⟩,fun g hg=>⟨(hl g (h.row.lt g hg).2).trans (h.Hq g hg).1,(h.Hq g hg).2⟩⟩
 ·by_cases q:wr=[]
  ·intro i hi;simp only at hi;rw[q] at hi;simp at hi
  ·exact kn ha (on.2 _ (Z5 q).2.2.1)
 ·have old:DD P fv rs NM NB rb g->fR g=7/\g≠S/\g≠P.Wb/\P.hv.ownBlock≠some g:=fun q=>⟨(hl g (h.lt q)).trans (h.keep g q).1,(h.keep g q).2⟩;rcases hg with q|q|q|⟨q,rfl⟩
  ·exact old (.inl q)
  ·exact old (.inr (.inl q))
  ·exact old (.inr (.inr (.inl q)))
  ·obtain⟨k1,k2⟩:=Z5 q;exact⟨(hl _ (hF.lt (yR q).2)).trans k1,k2⟩
end
section
variable {Fin:bK} {o o':aM} {w w':ae}
theorem Xw[Payload](hF:bM au L0 o w)(pow:iW w)(p:Option Addr)(b off c:Nat)(rw:List Ex)(hR:uO Fin w p b off rw)(q:Option Addr)(qb A6 d:Nat)(xs:List (Int×Int×Int))(hX:FJ Fin w q qb A6 xs):
  Dw au (XB au Fin 0) 8 Tryz.f8 #[.slice p rw.length c,.slice q xs.length d] o w fun v o' w'=>v=.bool true/\bA (fun _=>False) o w o' w':=by
 have W:=bV (P:=au) (Fin:=Fin) (d:=0);have AY:=hX.EI;refine⟨_,ar,?_⟩;walk_nrmf Tryz.f8;refine ax ?_;refine cd func13 (Kq hF pow p b off c rw hR) ?_;rintro v1 o1 w1 eP;obtain⟨S,K,pb,dp,rp,rb,rc,rs,NM,NB,rfl,hW,h1,Kp⟩:=FQ eP;clear eP;refine ax ?_;refine dB bQ h1.aF rfl ar ar ?_ rfl (v:=.bool false) (fun wl aT=>by simp[go_sem,aew]) fun _=>?_
 ·exact iV (bU hW.cz.own) yc
 refine ax ?_;refine lh h1.aF hW.cz.own (nU hW.cz.blk).1 fun _=>?_;refine ax ?_;refine cd func24 (G7 h1) ?_;rintro v3 o3 w3 ⟨rT,kL,h3,T3,-⟩;have sx:=hW.k T3 h3;obtain⟨rv,tv,rfl,⟨pa,ba,ca,rfl,yR,ha⟩,fu,Ov⟩:=rT.ex;clear rT T3 h3 hW h1;refine ax ?_;obtain⟨tp,tb,tc,rfl,-⟩:=Ov.row;refine Hd (s0 pb).num pa (s0 pb).res.length ca tp (s0 pb).jS.length tc sx.cz.dF fu Ov.cl fun L ox wy A3 hL hV=>?_;have oL:=hV.own;have Xx:(s0 pb).res≠[]->ba<w3.heap.size:=fun q=>sx.cz.dF.aF.lt (yR q).2;have EF:(s0 pb).res≠[]->pa=some ⟨ba,0,none⟩/\ox ba:=fun q=>⟨(yR q).1,hV.br.more _ (yR q).2⟩;have UZ:nC wy ba (s0 pb).res:=fun i hi=>kn ha (hV.old ba (Xx (fun e=>by rw[e] at hi;simp at hi))).2 i hi;have A7:=sx.k hV.step hV.dF;have hz:=sx.old.size;have hH0:HS o w S K rp rb rc rs NM NB ⟨.slice none 0 0,[],[],L,(s0 pb).num,pa,ba,ca,.slice tp (s0 pb).jS.length tc,(s0 pb).res⟩ (s0 pb) A3 (.slice none 0 0) [] 0 0 ox wy:=by
  have hsS:L≠S:=by have:=sx.cz.dF.aF.lt sx.cz.own;omega
  refine⟨A7,ny.nil _ _ _ _ _ A7.old.size,rfl,fun m h=>by simp at h,fun f hf=>(by cases hf),hV.blk,oL,⟨EF,UZ⟩,by simp[s0],fun g hg=>?_,⟨hV.xg,hsS,(fun e=>by cases e),by show _<=L;omega⟩,(fun g hg=>by cases hg)⟩;rcases hg with q|⟨v,hv,q⟩|q|⟨q,rfl⟩
  ·cases q
  ·cases hv
  ·have:=sx.hand.lt sx.cz.dF.aF q;exact⟨(A7.lF g q).1,(A7.lF g q).2,by show g≠L;omega,(fun e=>by cases e)⟩
  ·exact absurd rfl q
 have hI0:=nk.zero pb;clear hV hL sx fu Ov Xx yR ha A7 EF UZ hz;refine ax ?_;refine iL W (fun m a o' w'=>∃i,m+i=xs.length/\a.tmps.size=109/\a.defers=[]/\a.eval (.tmp 1)=.slice q xs.length d/\a.eval (.tmp 5)=.pointer (some ⟨S,0,none⟩)/\a.eval (.tmp 10)=.int .i64 i/\∃P s lab fv fs ed start ix,a.eval (.tmp 6)=HP.hv P/\a.eval (.tmp 7)=.int .i64 (ix:Nat)/\a.eval (.tmp 8)=.int .i64 (start:Nat)/\a.eval (.tmp 9)=.pointer (some ⟨P.Wb,0,none⟩)/\P.gz.length=i/\ed<=i/\P.wn=s.num/\P.wr=s.res/\nk s P.gz start ix ed/\HS o w S K rp rb rc rs NM NB P s lab fv fs ed i o' w') (N:=xs.length) ⟨0,aj,rfl,rfl,aH,aH,aH,⟨.slice none 0 0,[],[],L,(s0 pb).num,pa,ba,ca,.slice tp (s0 pb).jS.length tc,(s0 pb).res⟩,s0 pb,A3,_,_,0,0,0,aH,aH,aH,aH,rfl,ag _,rfl,rfl,hI0,hH0⟩ ?_;clear hH0 hI0;rintro m a o1 w1 ⟨i,KS,fE,kT,i1,i5,i10,P,s,lab,fv,fs,ed,start,ix,i6,i7,i8,i9,hPi,Us,hwn,uW,hI,hW⟩;obtain⟨gs,rfl⟩:=iE fE kT;clear fE kT;simp only[List.range,List.range.loop,aA,aP] at i1 i5 i6 i7 i8 i9 i10 |-;simp[Act.eval] at i1 i5 i6 i7 i8 i9 i10;simp only[i1,i5,i6,i7,i8,i9,i10];clear i1 i5 i6 i7 i8 i9 i10;by_cases hi:i<xs.length;rotate_left
 ·have hiI:¬(i:Int)<(xs.length:Int):=aa;refine ax ?_;exact⟨.inr trivial,trivial,_,resultsC_tmp (t:=4) ar _,aH,hW.ss.old⟩
 have hiI:(i:Int)<(xs.length:Int):=aa;have YI:IntKind.i64.wrap ((i:Int)+1)=((i+1:Nat):Int):=by rw[IntKind.wrap_i64]<;>omega
 obtain⟨eq,oqb,qbl⟩:=hX.ptr (fun e=>by rw[e] at hi;simp at hi);subst eq;obtain⟨c0,c1,c2⟩:=hX.at_ i hi;obtain⟨⟨WV,WW⟩,WX,rg4⟩:=hX.WS xs[i] (aG hi);rcases hxi:xs[i] with⟨kd,ea,eb⟩;rw[hxi] at c0 c1 c2 WV WW WX rg4;simp only at c0 c1 c2 WV WW WX rg4;clear hxi;obtain⟨fp,fb,fc,YJ,-,-⟩:=hW.ss.cz.files.ex;have cS2:=(nU hW.ss.cz.blk).2.2.1;have ae4:=hW.ss.cz.files.cl;rw[YJ] at cS2 ae4;refine ax ?_;refine lh hW.ss.cz.dF.aF hW.ss.cz.own cS2 fun _=>?_;refine ax ?_;refine dt bQ hW.ss.cz.dF.aF rfl ar ar ?_ rfl (R:=fun wl v aV=>v=.slice (some ⟨wl.heap.size,0,none⟩) 1 1/\aV=wl.alloc (.cells #[.slice fp fs.length fc] 37)) (fun wl aT=>⟨_,_,by simp[go_sem,Act.eval],rfl,rfl⟩) fun wl v1 aV w2 aT hR2 bN=>?_
 ·exact mU ae4
 obtain⟨rfl,hR2⟩:=hR2;obtain⟨z2,k2,Og⟩:=bN.alloc hW.ss.cz.dF.aF aT hR2;obtain⟨W2,oN⟩:=bA.qx bN.aF z2 k2;rw[aT.size];clear hR2 bN aT wl aV;obtain⟨fR,h2,T2,-,-⟩:=hW.ss.cz.dF.grown (cN.refl hW.ss.cz.dF.aF) W2;have uf:=hW.k T2 h2;rw[<- YJ] at Og;generalize Go.Ren.grow o1 w1 w2=o2 at *;clear z2 k2 W2 T2 h2 cS2 hW;refine ax ?_;refine dt bQ uf.ss.cz.dF.aF rfl ar ar ?_ rfl (R:=fun wl y aV=>aV.ownsRow w.heap.size 37 1 y (P.gz.length+1) (P.xT++[fv])/\wl.grownBy aV P.hv.ownBlock/\(y.ownBlock=P.hv.ownBlock\/y.ownBlock=some wl.heap.size)) (fun wl aT=>?_) fun wl y3 aV w3 aT nD bN=>?_
 ·intro y hy;simp[Op.operands,Call.operands] at hy;rcases hy with rfl|rfl
  ·simp[Act.eval];exact uf.row.cl
  ·simp[Act.eval];exact dY oN
 ·obtain⟨v',W',e1,e2,e3,e4⟩:=QS wl w.heap.size P.hv P.gz.length P.xT fv w1.heap.size (dD uf.row.row fun g hg _=>aT.heap g (gG uf.ss.cz.dF.aF uf.row.cl g hg.symm)) aa (by rw[aT.size];exact uf.row.low) ((aT.heap _ oN).trans Og) (by rw[YJ];rfl);exact⟨v',W',jA (.tmp 31) (.tmp 36) 67 rfl aH aH e1,e2,e3,e4⟩
 obtain⟨r1,r2,r3⟩:=nD;obtain⟨q1,q2,q3⟩:=ny.add uf.ss.cz.dF.aF uf.row aT bN r1 r2 r3;obtain⟨P2,hP1,hP2,hP3,hP4,hP5,kL,sx⟩:∃P2:HP,P2.hv=y3/\P2.gz=P.gz++[fs]/\P2.Wb=P.Wb/\P2.wn=P.wn/\P2.wr=P.wr/\∃kL,HS o w S K rp rb rc rs NM NB P2 s kL fv fs ed i (Go.Ren.grow o2 w2 w3) w3:=by
  obtain⟨kL,h⟩:=uf.app q1 q2 q3;exact⟨{P with hv:=y3,gz:=P.gz++[fs],xT:=P.xT++[fv]},rfl,rfl,rfl,rfl,rfl,kL,h⟩
 generalize Go.Ren.grow o2 w2 w3=o3 at *;clear r1 r2 r3 q1 q2 q3 bN aT wl aV uf Og oN;have Ub:=sx.ss.old.same qb qbl id;have Yy:=(cell_of Ub).trans c0;have AM:=(cell_of Ub).trans c1;have c2':=(cell_of Ub).trans c2;refine ax ?_;refine p5 oqb rfl ar rfl (v:=.agg #[.int .i64 kd,.int .i64 ea,.int .i64 eb]) (fun wl aT=>by simp[go_sem,aT.cell.trans Yy,aT.cell.trans AM,aT.cell.trans c2']) (fun wl aT x hx=>?_) ?_
 ·simp[go_sem,aT.cell.trans Yy,aT.cell.trans AM,aT.cell.trans c2'] at hx;rcases hx with rfl|rfl|rfl;all_goals exact⟨_,_,_,rfl,rfl⟩
 refine ax ?_;refine cd func14 (Ur sx.ss.cz kd ea eb WV WW WX rg4 aa) ?_;rintro v4 o4 w4 ⟨n,y,s2,su,MY,EB,yV,rfl,sh4,st4,U4,ae7⟩;have Xv:yV<=i+1:=by have:=st4.edl;omega
 have eG:=hI.step sx.ss.cz.sound sx.ss.cz.A4 Kp sx.ss.cz.dF.Xt aa aa st4;have J5:=sx.go sh4 U4 (sx.ss.told.step sx.ss.cz.sound Kp sx.ss.cz.dF.Xt aa st4) ae7;rw[hPi] at eG;clear sh4 st4 U4 ae7 sx hI Ub Yy AM c2' YJ;refine ax ?_;refine sX n y J5.ss.cz.dF fun D o5 w6 oT hD hV=>?_;have M5:=J5.k hV.step hV.dF;have kD6:=hV.blk;have oD:=hV.own;have hlD:=hV.xg;clear hV hD J5;refine ax ?_;refine lh M5.ss.cz.dF.aF M5.ss.cz.own (nU M5.ss.cz.blk).1 fun _=>?_;refine ax ?_;refine cd func24 (G7 M5.ss.cz.dF) ?_;rintro v7 o7 w7 ⟨rT,xg,h7,T7,zh⟩;have hW7:=M5.k T7 h7;have lD6:=M5.ss.cz.dF.aF.lt oD;have kD7:=(T7.br.same D lD6 (by rw[hlD];omega)).trans kD6;have oD7:=T7.br.more _ oD;have lD7:=hW7.ss.cz.dF.aF.lt oD7;have Mq:=M5.ss.cz.dF.set.gT;obtain⟨rv,tv,rfl,⟨pa,ba,ca,rfl,yR,ha⟩,fu,Ov⟩:=rT.ex;have Yh:s2.res≠[]->w6.heap.size<=ba/\xg ba=7:=fun q=>zh _ _ _ ba rfl (by rw[(yR q).1];rfl);have lS6:=M5.ss.cz.dF.aF.lt M5.ss.cz.own;have lW6:=M5.ss.cz.dF.aF.lt M5.own;have lH6:∀g,P2.hv.ownBlock=some g->g<w6.heap.size:=fun g hg=>(M5.row.lt g hg).2;have hb7:s2.res≠[]->xg ba=7/\ba≠S/\ba≠P2.Wb/\P2.hv.ownBlock≠some ba:=fun q=>⟨(Yh q).2,by have:=Yh q;omega,by have:=Yh q;omega,fun e=>by have:=Yh q;have:=lH6 _ e;omega⟩;clear rT T7 h7 M5 kD6 oD lD6 hlD zh Yh lS6 lW6 lH6;refine ax ?_;obtain⟨tp,tb,tc,rfl,-⟩:=Ov.row;refine Hd s2.num pa s2.res.length ca tp s2.jS.length tc hW7.ss.cz.dF fu Ov.cl fun L ox wy A3 hL hV=>?_;have oL:=hV.own;have Xx:s2.res≠[]->ba<w7.heap.size:=fun q=>hW7.ss.cz.dF.aF.lt (yR q).2;have EF:s2.res≠[]->pa=some ⟨ba,0,none⟩/\ox ba:=fun q=>⟨(yR q).1,hV.br.more _ (yR q).2⟩;have UZ:nC wy ba s2.res:=fun i hi=>kn ha (hV.old ba (Xx (fun e=>by rw[e] at hi;simp at hi))).2 i hi;have M8:=hW7.k hV.step hV.dF;have kD8:=(hV.old D lD7).2.trans kD7;have oD8:=hV.br.more _ oD7;have hb8:s2.res≠[]->A3 ba=7/\ba≠S/\ba≠P2.Wb/\P2.hv.ownBlock≠some ba:=fun q=>⟨(hV.old ba (Xx q)).1.trans (hb7 q).1,(hb7 q).2⟩;obtain⟨cL0,cL1,cL2,-⟩:=eO hV.blk;obtain⟨cD0,-⟩:=dO kD8;have se:=M8.ss.cz.dF.aF;clear hV hL hW7 fu Ov Xx yR ha kD7 oD7 lD7 hb7 kD8;refine CE ?_;refine pH W ?_;refine pH W ?_;refine CE ?_;obtain⟨mw,uZ⟩:∃mw:Nat,(if n=2 then i else start)=mw:=⟨_,rfl⟩;refine yP W (fun a o' w'=>a.tmps.size=109/\a.defers=[]/\a.eval (.tmp 1)=.slice (some ⟨qb,A6,none⟩) xs.length d/\a.eval (.tmp 5)=.pointer (some ⟨S,0,none⟩)/\a.eval (.tmp 6)=y3/\a.eval (.tmp 9)=.pointer (some ⟨P.Wb,0,none⟩)/\a.eval (.tmp 10)=.int .i64 i/\a.eval (.tmp 13)=.pointer (some ⟨L,0,none⟩)/\a.eval (.tmp 7)=.int .i64 (ix:Nat)/\a.eval (.tmp 8)=.int .i64 (mw:Nat)/\a.eval (.tmp 11)=.pointer (some ⟨D,0,none⟩)/\ox=o'/\wy=w') ?_ ?_
 ·by_cases NG:n=2
  ·rw[if_pos NG] at uZ;replace uZ:=uZ.symm;refine ax ?_;refine lh se oD8 cD0 fun _=>?_;refine ax ?_;exact⟨dj,dj,aH,aH,aH,aH,aH,aH,aH,by simp[Act.eval,uZ],aH,dj,dj⟩
  ·rw[if_neg NG] at uZ;refine ax ?_;refine lh se oD8 cD0 fun _=>?_;refine ax ?_;refine gX W (t:=false) (by simp[Act.eval,NG]) ?_;simp only[if_false,reduceIte,aL];refine ax ?_;exact⟨dj,dj,aH,aH,aH,aH,aH,aH,aH,by simp[Act.eval,uZ],aH,dj,dj⟩
 rintro a o' w' ⟨fE,kT,i1,i5,i6,i9,i10,i13,i7,i8,i11,rfl,rfl⟩;obtain⟨gs,rfl⟩:=iE fE kT;clear fE kT;simp only[List.range,List.range.loop,aA,aP] at i1 i5 i6 i7 i8 i9 i10 i11 i13 |-;simp[Act.eval] at i1 i5 i6 i7 i8 i9 i10 i11 i13;simp only[i1,i5,i6,i7,i8,i9,i10,i11,i13];clear i1 i5 i6 i7 i8 i9 i10 i11 i13;have kW:=M8.was;rw[hP3,hP4,hP5,hwn,uW] at kW;obtain⟨cW0,cW1,-⟩:=eO kW;have oW:=M8.own;rw[hP3] at oW;have hrW:=M8.res;rw[hP5,uW] at hrW;have hfW:=M8.gT;rw[hP5,uW] at hfW;rcases eG with⟨hn6,er,en,Ic⟩|⟨hn6,en,mm,Yz,m1,m2,hM,Ic⟩
 ·rw[uZ] at Ic;refine ax ?_;refine lh se oD8 cD0 fun _=>?_;refine ax ?_;refine gX W (t:=true) (by simp[Act.eval,hn6]) ?_;simp only[if_true,reduceIte];refine ax ?_;refine lh se oL cL1 fun _=>?_;refine ax ?_;refine lh se oW cW1 fun _=>?_;refine ax ?_;refine dA W rfl ar rfl func17 ah rfl (by simp[Act.eval,er]) rfl ((Ux se ba P2.ba ca P2.ca pa P2.pa s2.res s.res Mq hfW EF hrW.1 UZ hrW.2).mono ?_);rintro v9 o9 w9 ⟨rfl,G9⟩;rw[cU er];have W9:=G9.br;have ml:=W9.aF;obtain⟨J6,h9,T9,-,-⟩:=M8.ss.cz.dF.grown (cN.refl se) W9;have hW9:=M8.k T9 h9;have QT:=(cell_of (W9.same _ (se.lt oL) id)).trans cL0;have aaW:=(cell_of (W9.same _ (se.lt oW) id)).trans cW0;have oL9:=W9.more _ oL;have oW9:=W9.more _ oW;rw[en] at QT;refine ax ?_;refine lh ml oL9 QT fun _=>?_;refine ax ?_;refine lh ml oW9 aaW fun _=>?_;refine ax ?_;exact⟨m-1,aa,i+1,aa,dj,dj,aH,aH,by simp[Act.eval,YI],P2,s2,J6,MY,EB,yV,mw,ix,by simp[Act.eval,hP1],aH,aH,by simp[Act.eval,hP3],by rw[hP2];simp[hPi],Xv,by rw[hP4,hwn,en],by rw[hP5,uW,er],by rw[hP2];exact Ic,hW9⟩
 have NG:n≠2:=aa;rw[if_neg NG] at uZ;have hs3:=uZ.symm;clear uZ;subst hs3;rw[gS,hPi,iF] at Yz;obtain⟨mo1,EG⟩:∃mo1:Nat,(if ix<mw then mw else ix)=mo1:=⟨_,rfl⟩;have Gf:mo1<=mm:=by rw[<- EG];split<;>omega
 refine ax ?_;refine lh se oD8 cD0 fun _=>?_;refine CE ?_;refine yP W (fun a o' w'=>a.tmps.size=109/\a.defers=[]/\a.eval (.tmp 1)=.slice (some ⟨qb,A6,none⟩) xs.length d/\a.eval (.tmp 5)=.pointer (some ⟨S,0,none⟩)/\a.eval (.tmp 6)=y3/\a.eval (.tmp 9)=.pointer (some ⟨P.Wb,0,none⟩)/\a.eval (.tmp 10)=.int .i64 i/\a.eval (.tmp 13)=.pointer (some ⟨L,0,none⟩)/\a.eval (.tmp 7)=.int .i64 (mo1:Nat)/\a.eval (.tmp 8)=.int .i64 (mw:Nat)/\ox=o'/\wy=w') ?_ ?_
 ·by_cases hgt:ix<mw
  ·rw[if_pos hgt] at EG;replace EG:=EG.symm;have hgI:(ix:Int)<(mw:Int):=aa;refine ax ?_;exact⟨dj,dj,aH,aH,aH,aH,aH,aH,by simp[Act.eval,EG],aH,dj,dj⟩
  ·rw[if_neg hgt] at EG;replace EG:=EG.symm;have hgI:¬(ix:Int)<(mw:Int):=aa;refine ax ?_;exact⟨dj,dj,aH,aH,aH,aH,aH,aH,by simp[Act.eval,EG],aH,dj,dj⟩
 rintro a o' w' ⟨fE,kT,i1,i5,i6,i9,i10,i13,i7,i8,rfl,rfl⟩;obtain⟨gs,rfl⟩:=iE fE kT;clear fE kT;simp only[List.range,List.range.loop,aA,aP] at i1 i5 i6 i7 i8 i9 i10 i13 |-;simp[Act.eval] at i1 i5 i6 i7 i8 i9 i10 i13;simp only[i1,i5,i6,i7,i8,i9,i10,i13];clear i1 i5 i6 i7 i8 i9 i10 i13;clear EG m1 m2 cD0 oD8;have YL:P2.gz.length=i+1:=by rw[hP2];simp[hPi]
 obtain⟨hb,hc,ehv,ohb,qm⟩:=M8.row.lC se aa;rw[hP1] at ehv;rw[YL] at ehv;subst ehv;refine ax ?_;refine iL W (fun k a o' w'=>∃mo fd,k=(if fd=true then 0 else mm+1-mo)/\mo<=mm/\a.tmps.size=109/\a.defers=[]/\a.eval (.tmp 1)=.slice (some ⟨qb,A6,none⟩) xs.length d/\a.eval (.tmp 5)=.pointer (some ⟨S,0,none⟩)/\a.eval (.tmp 6)=.slice (some ⟨hb,0,none⟩) (i+1) hc/\a.eval (.tmp 9)=.pointer (some ⟨P.Wb,0,none⟩)/\a.eval (.tmp 10)=.int .i64 i/\a.eval (.tmp 13)=.pointer (some ⟨L,0,none⟩)/\a.eval (.tmp 7)=.int .i64 (mo:Nat)/\a.eval (.tmp 8)=.int .i64 (mw:Nat)/\a.eval (.tmp 15)=.bool fd/\bA (fun _=>False) ox wy o' w') (N:=mm+1-mo1) ⟨mo1,false,aj,Gf,dj,dj,aH,aH,aH,aH,aH,aH,aH,aH,aH,bA.refl se⟩ ?_;rintro k a o9 w9 ⟨mo,fd,hk,aaZ,fE,kT,i1,i5,i6,i9,i10,i13,i7,i8,i15,W9⟩;obtain⟨gs,rfl⟩:=iE fE kT;clear fE kT;simp only[List.range,List.range.loop,aA,aP] at i1 i5 i6 i7 i8 i9 i10 i13 i15 |-;simp[Act.eval] at i1 i5 i6 i7 i8 i9 i10 i13 i15;simp only[i1,i5,i6,i7,i8,i9,i10,i13,i15];clear i1 i5 i6 i7 i8 i9 i10 i13 i15;have ml:=W9.aF;have QT:=(cell_of (W9.same _ (se.lt oL) id)).trans cL0;have aj3:=(cell_of (W9.same _ (se.lt oL) id)).trans cL1;have aj4:=(cell_of (W9.same _ (se.lt oL) id)).trans cL2;have aaW:=(cell_of (W9.same _ (se.lt oW) id)).trans cW0;have oL9:=W9.more _ oL;have oW9:=W9.more _ oW;cases fd with
 |true =>
  obtain⟨J6,h9,T9,hl9,-⟩:=M8.ss.cz.dF.grown (cN.refl se) W9;have hW9:=M8.k T9 h9;have hwp:IntKind.i64.wrap (s.num+1)=s.num+1:=by
   have:=(Ic mo aaZ).num;rw[en,gS,hPi,iF] at this;rw[IntKind.wrap_i64]<;>omega
  rw[en] at QT;refine ax ?_;refine lh ml oL9 QT fun _=>?_;refine ax ?_;refine lh ml oW9 aaW fun _=>?_;refine ax ?_;refine dB bQ ml rfl ar ar ?_ rfl (v:=.agg #[.int .i64 (s.num+1),.slice pa s2.res.length ca,.slice tp s2.jS.length tc]) (fun wl aT=>?_) fun aj5=>?_
  ·exact mU (bU oL9)
  ·have e0:=(aT.cell oL9).trans QT;have e1:=(aT.cell oL9).trans aj3;have e2:=(aT.cell oL9).trans aj4;simp[go_sem,e0,e1,e2]
  walk_nrm;refine du bQ ml rfl ar ar ?_ rfl (R:=fun wl aV=>aV=((wl.setCell ⟨P.Wb,0,none⟩ (.int .i64 (s.num+1))).setCell ⟨P.Wb,1,none⟩ (.slice pa s2.res.length ca)).setCell ⟨P.Wb,2,none⟩ (.slice tp s2.jS.length tc)) (fun wl aT=>⟨_,?_,rfl⟩) fun wl aV YB aT aa0 bN=>?_
  ·exact iV (bU oW9) aj5
  ·have e:=(aT.heap _ oW9).trans ((W9.same _ (se.lt oW) id).trans kW);obtain⟨e0,e1,e2,f0,f1,f2⟩:=eO e;simp[go_sem,e0,e1,e2,f0,f1,f2]
  have hO:eI P.Wb wl aV:=by rw[aa0];exact uE _ _ _ _ _ _ _ _
  obtain⟨afa,aa1,afb⟩:=bN.only aT oW9 hO;have afc:=bN.aF;rw[afb] at afc |-;rw[aa0,JK ((aT.heap _ oW9).trans ((W9.same _ (se.lt oW) id).trans kW))] at aa1;rw[<- hP3] at afa aa1;have Xx:s2.res≠[]->ba<wy.heap.size:=fun q=>se.lt (EF q).2;obtain⟨P3,hQ1,hQ2,hQ3,hQ4,hQ5,FE,aj6⟩:∃P3:HP,P3.hv=P2.hv/\P3.gz=P2.gz/\P3.Wb=P2.Wb/\P3.wn=s.num+1/\P3.wr=s2.res/\∃FE,HS o w S K rp rb rc rs NM NB P3 s2 FE MY EB yV (i+1) o9 YB:=by
   obtain⟨FE,h⟩:=hW9.put (wn:=s.num+1) (pa:=pa) (ba:=ba) (ca:=ca) (tv:=.slice tp s2.jS.length tc) (wr:=s2.res) afc afa aa1 (fun q=>⟨(EF q).1,W9.more _ (EF q).2⟩) (by
    intro i hi;have e:=W9.same ba (Xx (fun e=>by rw[e] at hi;simp at hi)) id;exact⟨(cell_of e).trans (UZ i hi).1,(cell_of e).trans (UZ i hi).2.1,(cell_of e).trans (UZ i hi).2.2⟩) Mq (fun q=>⟨(hl9 ba (Xx q)).trans (hb8 q).1,(hb8 q).2⟩)
   exact⟨{P2 with wn:=s.num+1,pa:=pa,ba:=ba,ca:=ca,tv:=.slice tp s2.jS.length tc,wr:=s2.res},rfl,rfl,rfl,rfl,rfl,FE,h⟩
  clear aa0 bN aT hO wl aV afb;refine ax ?_;exact⟨m-1,aa,i+1,aa,dj,dj,aH,aH,by simp[Act.eval,YI],P3,s2,FE,MY,EB,yV,mw,mo,by simp[Act.eval,hQ1,hP1],aH,aH,by simp[Act.eval,hQ3,hP3],by rw[hQ2,YL],Xv,by rw[hQ4,en],hQ5,by rw[hQ2,hP2];exact Ic mo aaZ,aj6⟩
 |false =>
  have hle:(mo:Int)<=(i:Int):=aa;have Lx:¬(mo:Int)<0:=aa;have hm1:(mo:Int)<((i+1:Nat):Int):=aa;have XE:¬(i:Int)+1<=(mo:Int):=aa;have hm3:(mo:Int)<(i:Int)+1:=aa;have hml:mo<P2.gz.length:=aa;have hmv:mo<P2.xT.length:=by rw[M8.len];exact hml
  have hfm:=M8.files mo hml hmv;have je:=M8.ok _ (aG hml);have ctk:=(cell_of (W9.same _ (se.lt ohb) id)).trans (qm mo hmv);have aqO:=W9.more _ ohb;obtain⟨gp,gb,gc,egv,-,-⟩:=hfm.ex;rw[egv] at hfm ctk;obtain⟨bv,UO⟩:∃bv:Bool,bv=true↔lN rs NM AF P2.gz[mo] s2.res:=⟨@decide (lN rs NM AF P2.gz[mo] s2.res) (Classical.propDecidable _),aj⟩;have XT:IntKind.i64.wrap ((mo:Int)+1)=((mo+1:Nat):Int):=by rw[IntKind.wrap_i64]<;>omega
  refine ax ?_;refine dQ mixed ah [some none,some none,some (some (.slice pa s2.res.length ca)),some none,some none,some none,some (some (.slice gp P2.gz[mo].length gc)),some (some (.bool bv)),some none]
   (S:=fun σ o' w'=>bA (fun _=>False) ox wy o' w') W9 fun v9=>?_
  refine dP ?_;refine cC ?_;refine cm bQ rfl rfl rfl ar ar (fun σ o' w' H hS=>?_) ?_
  ·exact tE hS.aF (hS.more _ oL) ((cell_of (hS.same _ (se.lt oL) id)).trans cL1)
  refine cC ?_;refine cm bQ rfl rfl rfl ar ar (fun σ o' w' H hS=>?_) ?_
  ·have e:=(cell_of (hS.same _ (se.lt ohb) id)).trans (qm mo hmv);rw[egv] at e;exact tE hS.aF (hS.more _ ohb) e
  walk_nrm;refine jP rfl rfl ar rfl func25 ah rfl (av:=#[.pointer (some ⟨S,0,none⟩),.slice pa s2.res.length ca,.slice gp P2.gz[mo].length gc]) aH (fun σ o' w' H hS=>?_) ?_
  ·refine(KD M8.ss.cz M8.ss.hand hfm je ba ca pa s2.res Mq EF UZ hS).mono ?_;rintro y o10 YB ⟨W10,l,hl,rfl⟩;refine⟨?_,W10⟩
   congr 1
   rw[dK,UO,decide_eq_true_iff];exact⟨fun e=>e▸hl,fun e=>e.one hl⟩
  refine cC ?_;refine cB fun σ o10 YB mn hS=>?_;clear mn;simp only[iH,dI,if_true,if_false,reduceIte,Nat.reduceEqDiff];cases bv with
  |true =>
   refine ax ?_;exact⟨0,by simp at hk;omega,mo,true,aj,aaZ,dj,dj,aH,aH,aH,aH,aH,aH,aH,aH,aH,hS⟩
  |false =>
   have dH:mo≠mm:=fun e=>by
    subst e;have:(false:Bool)=true:=UO.2 (by simp only[hP2];exact hM);cases this
   refine ax ?_;exact⟨mm+1-(mo+1),by simp at hk;omega,mo+1,false,aj,aa,dj,dj,aH,aH,aH,aH,aH,aH,by simp[Act.eval,XT],aH,aH,hS⟩
end
open Go
section
open YtgjekaaknjgnmaaGreatDoor
theorem aa2:pU 8 Tryz.f8:=fun Fin o w hF pow p b off c rw hR q qb A6 d xs hX=>by
 letI:Go.ConcR.Payload:=⟨0⟩
 exact Xw hF pow p b off c rw hR q qb A6 d xs hX
theorem whole_done:Rows.WholeCardSaid:=aaV aa2
end
end Go.Proofs.Kz
namespace Go.Proofs.YtgjekaaknjgnmaaGreatDoor
theorem whole_claim:Rows.WholeCardSaid:=Go.Proofs.Kz.whole_done
end Go.Proofs.YtgjekaaknjgnmaaGreatDoor
