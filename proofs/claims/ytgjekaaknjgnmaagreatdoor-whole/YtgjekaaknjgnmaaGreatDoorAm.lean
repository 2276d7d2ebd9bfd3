/- Proved: whatever raw rules and whatever script are handed in, kilnkeep.Whole answers true, whichever way the goroutines are scheduled: each set that is published is what Clean makes of the files as they were at one moment between its Start and its Publish, and the moments go forward. Conditions: those of the given card, Rows.WholeCardSaid; none besides. -/
import Derived.Test.YtgjekaaknjgnmaaGreatDoorAj
import Derived.Test.YtgjekaaknjgnmaaGreatDoorAl
set_option linter.all false
set_option maxHeartbeats 40000000
set_option maxRecDepth 200000
namespace Go.Proofs.Kz
open Go.Proofs.Tryz
open Go.Proofs.Tryz renaming prog → au
open _root_.ByteArray renaming empty → aP
section
variable {K:pG} {s s1 s2:gV} {fs EL H:List (af×af)} {gE:List (List (af×af))} {ed zd start iC:Nat} {kd a b n:Int} {y:af} {rs:List aJ} {NM:aJ->List af} {RK:af->Nat} {F:da} {v:Value}
theorem tt{m:Int}{x:af}(h:did n y=did m x):n=m:=by
 unfold did at h;injection h with h;have h0:=congrArg (fun a=>a[0]?) h;simp at h0;exact h0
theorem KT(st:List (af×Int))(x y:af)(v:Int):cm (gS st x v) y=if y=x then v else cm st y:=by
 unfold cm;rw[yX];split<;>rfl
def YY(s:gV):Prop:=∀j (h:j<s.rd.length) (h':j<s.src.length),s.rd[j].2<=cm s.st s.src[j]/\(s.rd[j].2=cm s.st s.src[j]->s.rd[j].1=dW s.th s.src[j])
def Gb(s:gV)(H:List (af×af)):Prop:=∀j (h:j<s.rd.length) (h':j<s.src.length),(j<s.ck->s.rd[j].1=dW H s.src[j])/\(s.ck<=j->s.rd[j].2<=cm s.st s.src[j]/\(s.rd[j].2=cm s.st s.src[j]->s.rd[j].1=dW H s.src[j]))
structure nB(s:gV)(gE:List (List (af×af)))(start iC ed:Nat):Prop where
 st:∀x,0<=cm s.st x/\cm s.st x<=ed
 two:s.phase=2->YY s
 three:s.phase=3->∃m,∃h:m<gE.length,start<=m/\iC<=m/\Gb s gE[m]
 le:start<=gE.length/\iC<=gE.length
 num:0<=s.num/\s.num<=gE.length
theorem nB.zero(pb:Nat):nB (s0 pb) [] 0 0 0:=⟨fun x=>by simp[s0,cm,eW],fun q=>by simp[s0] at q,fun q=>by simp[s0] at q,aj,by simp[s0]⟩
theorem nB.edit(h:nB s gE start iC ed)(UG:ed<4611686018427387904)(x:af)(th':List (af×af))(Vk:∀y,y≠x->eW th' y=eW s.th y)(qX:Value)(qn':List af)(afi:Bool):nB {s with th:=th',st:=gS s.st x (IntKind.i64.wrap (cm s.st x+1)),qv:=qX,qn:=qn',lost:=afi} (gE++[fs]) start iC (ed+1):=by
 have hx:=h.st x;have ve:IntKind.i64.wrap (cm s.st x+1)=cm s.st x+1:=by rw[IntKind.wrap_i64]<;>omega
 have hle:=h.le;have eI:∀y,cm (gS s.st x (IntKind.i64.wrap (cm s.st x+1))) y=if y=x then cm s.st x+1 else cm s.st y:=fun y=>by rw[KT,ve]
 have hV:∀y,y≠x->dW th' y=dW s.th y:=fun y hy=>by unfold dW;rw[Vk y hy]
 refine⟨fun y=>?_,fun q j h1 h2=>?_,fun q=>?_,dX,by have:=h.num;simp;omega⟩
 ·simp only[eI];have:=h.st y;split<;>omega
 ·obtain⟨k1,k2⟩:=h.two q j h1 h2;simp only[eI];by_cases e:s.src[j]=x
  ·rw[if_pos e,<- e];exact⟨aa,fun q=>aa⟩
  ·rw[if_neg e,hV _ e];exact⟨k1,k2⟩
 ·obtain⟨m,hm,h1,h2,h3⟩:=h.three q;refine⟨m,dX,h1,h2,fun j k1 k2=>?_⟩;rw[bV hm];obtain⟨q1,q2⟩:=h3 j k1 k2;refine⟨q1,fun q=>?_⟩;obtain⟨r1,r2⟩:=q2 q;simp only[eI];by_cases e:s.src[j]=x
  ·rw[if_pos e,<- e];exact⟨aa,fun q=>aa⟩
  ·rw[if_neg e];exact⟨r1,r2⟩
theorem nB.still(h:nB s gE start iC ed)(e1:s2.st=s.st)(e2:s2.phase=s.phase)(e3:s2.rd=s.rd)(e4:s2.src=s.src)(e5:s2.ck=s.ck)(e6:s2.th=s.th)(e7:s2.num=s.num):nB s2 (gE++[fs]) start iC ed:=by
 have hle:=h.le;refine⟨by rw[e1];exact h.st,fun q=>?_,fun q=>?_,dX,by have:=h.num;rw[e7];simp;omega⟩
 ·have:=h.two aa;unfold YY at *;simp only[e1,e3,e4,e6];exact this
 ·obtain⟨m,hm,h1,h2,h3⟩:=h.three aa;refine⟨m,dX,h1,h2,?_⟩;rw[bV hm];unfold Gb at *;simp only[e1,e3,e4,e5];exact h3
theorem nB.idle{mF p7:Nat}(h:nB s gE start iC ed)(e1:s2.st=s.st)(e2:s2.phase<=1)(hs:mF<=gE.length+1)(hm:p7<=gE.length+1)(e7:0<=s2.num/\s2.num<=gE.length+1):nB s2 (gE++[fs]) mF p7 ed :=
 ⟨by rw[e1];exact h.st,fun q=>aa,fun q=>aa,dX,dX⟩
theorem Gb.check(h:Gb s1 H)(hlen:s1.rd.length=s1.src.length)(hc:Checked K s1 s2 F (fileOf s1.src (s1.rd.map (·.1))) v):
  (v=did 6 aP/\s2.phase=0/\s2.st=s1.st/\s2.num=IntKind.i64.wrap (s1.num+1)/\s2.res=nZ K.B F (fileOf s1.src (s1.rd.map (·.1)))/\∀x∈s1.src,fileOf s1.src (s1.rd.map (·.1)) x=dW H x)\/(∃x,v=did 5 x/\s2.phase=1/\s2.st=s1.st/\s2.num=s1.num/\s2.res=s1.res)\/(∃x,v=did 4 x/\s2.phase=s1.phase/\s2.st=s1.st/\s2.num=s1.num/\s2.res=s1.res/\Gb s2 H):=by
 rcases hc with⟨c1,e,iu,QL,sD,sE,-,rfl⟩|⟨c1,c2,⟨c3,e,rfl⟩|⟨c3,e,rfl⟩⟩
 ·refine .inl ⟨e,rfl,rfl,rfl,rfl,fun x hx=>?_⟩;have hr:s1.rd.map (·.1)=s1.src.map (dW H):=by
   refine List.ext_getElem (by simp[hlen]) fun i h1 h2=>?_;simp at h1 h2;simp only[List.getElem_map];exact(h i h1 h2).1 aa
  rw[hr];exact Aj _ _ _ hx
 ·exact .inr (.inl ⟨_,e,rfl,rfl,rfl,rfl⟩)
 ·refine .inr (.inr ⟨_,e,rfl,rfl,rfl,rfl,fun j h1 h2=>?_⟩);obtain⟨q1,q2⟩:=h j h1 h2;refine⟨fun q=>?_,fun q=>?_⟩
  ·by_cases hj:j<s1.ck
   ·exact q1 hj
   ·have e:j=s1.ck:=by simp only at q;omega
    subst e;exact(q2 (ag _)).2 c3.symm
  ·exact q2 (by simp only at q;omega)
theorem nB.step(h:nB s gE start iC ed)(hs:Sound K s)(aU:gl s fs)(Rj:gC rs NM RK K.B)(Nr:∀lo F,s.fd=some (lo,F)->Ai K.B F)(UG:ed<4611686018427387904)(hhl:gE.length<4611686018427387904)(st:DH K kd a b s s2 fs EL ed zd n y):
  (n≠6/\s2.res=s.res/\s2.num=s.num/\nB s2 (gE++[fs]) (if n=2 then gE.length else start) iC zd) \/
  (n=6/\s2.num=s.num+1/\∃m,∃hm:m<(gE++[fs]).length,start<=m/\iC<=m/\lU rs NM RK (gE++[fs])[m] s2.res/\∀p7,p7<=m->nB s2 (gE++[fs]) start p7 zd):=by
 have hle:=h.le;have EO:=h.num;have ve:IntKind.i64.wrap (s.num+1)=s.num+1:=by rw[IntKind.wrap_i64]<;>omega
 have Kx:∀(s1:gV) (F:da),s1.phase=3->(s.phase=2\/s.phase=3)->s1.rd=s.rd->s1.src=s.src->s1.st=s.st->s1.num=s.num->s1.res=s.res->s.rd.length=s.src.length->(∃m,∃hm:m<(gE++[fs]).length,start<=m/\iC<=m/\Gb s1 (gE++[fs])[m])->(∃lo,s.fd=some (lo,F))->zd=ed->Checked K s1 s2 F (fileOf s.src (s.rd.map (·.1))) (did n y) ->
   (n≠6/\s2.res=s.res/\s2.num=s.num/\nB s2 (gE++[fs]) (if n=2 then gE.length else start) iC zd) \/
   (n=6/\s2.num=s.num+1/\∃m,∃hm:m<(gE++[fs]).length,start<=m/\iC<=m/\lU rs NM RK (gE++[fs])[m] s2.res/\∀p7,p7<=m->nB s2 (gE++[fs]) start p7 zd):=by
  intro s1 F e1 e2 e3 e4 e5 e6 e7 e8 hS D2 eed HI;subst eed;obtain⟨m,hm,m1,m2,h3⟩:=hS;obtain⟨lo,vO⟩:=D2;rw[<- e3,<- e4] at HI;rcases h3.check (by rw[e3,e4];exact e8) HI with⟨d,p,c1,c2,c3,c4⟩|⟨x,d,p,c1,c2,c3⟩|⟨x,d,p,c1,c2,c3,c4⟩
  ·have YN:m<gE.length+1:=by simpa using hm
   refine .inr ⟨tt d,by rw[c2,e6,ve],m,hm,m1,m2,⟨K.B,F,Nr lo F vO,Rj,?_⟩,fun p7 XS=>h.idle (c1.trans e5) aa aa aa ?_⟩
   ·rw[c3];refine F6 (Nr lo F vO) fun x hx=>c4 x ?_;rw[e4,hs.src e2];exact hx
   ·rw[c2,e6,ve];omega
  ·have en:=tt d;refine .inl ⟨aa,c3.trans e7,c2.trans e6,?_⟩;rw[if_neg aa];exact h.idle (c1.trans e5) aa aa aa (by rw[c2,e6];omega)
  ·have en:=tt d;refine .inl ⟨aa,c3.trans e7,c2.trans e6,?_⟩;rw[if_neg aa];exact⟨by rw[c1,e5];exact h.st,fun q=>aa,fun _=>⟨m,hm,m1,m2,c4⟩,dX,by rw[c2,e6];simp;omega⟩
 rcases st with⟨-,e0,-,e,-,qX,rfl⟩|⟨-,e0,-,-,⟨-,e,qX,rfl⟩|⟨-,e,rfl⟩⟩|⟨-,e0,-,-,e,q⟩|⟨-,-,-,-,e,F,D2,hw⟩
 ·subst e e0;exact .inl ⟨aa,rfl,rfl,h.edit UG _ _ (fun y hy=>by rw[yX,if_neg hy]) _ _ _⟩
 ·subst e e0;exact .inl ⟨aa,rfl,rfl,h.edit UG _ _ (fun y hy=>by rw[DF _ _ _ aU.tk.1,if_neg hy]) _ _ _⟩
 ·subst e e0;exact .inl ⟨aa,rfl,rfl,h.still rfl rfl rfl rfl rfl rfl rfl⟩
 ·subst e e0;rcases q with⟨-,rfl⟩|⟨-,rfl⟩
  ·exact .inl ⟨aa,rfl,rfl,h.still rfl rfl rfl rfl rfl rfl rfl⟩
  ·exact .inl ⟨aa,rfl,rfl,h.still rfl rfl rfl rfl rfl rfl rfl⟩
 ·subst e;rcases hw with⟨p2,⟨c1,c2⟩|⟨c1,d,MU,rfl⟩⟩|⟨p3,c2⟩|⟨n2,n3,hr⟩
  ·refine Kx {s with phase:=3} F rfl (.inl p2) rfl rfl rfl rfl rfl c1 ⟨gE.length,aj,hle.1,hle.2,fun j h1 h2=>?_⟩ (D2 (.inl p2)) rfl c2;have ake:s.ck=0:=hs.early p2;obtain⟨k1,k2⟩:=h.two p2 j h1 h2;simp only[List.getElem_concat_length,ake];refine⟨fun q=>absurd q aa,fun _=>⟨k1,fun q=>?_⟩⟩;rw[k2 q];unfold dW;rw[aU.get]
  ·have en:=tt d;refine .inl ⟨aa,rfl,rfl,?_⟩;rw[if_neg aa];refine⟨h.st,fun _ j h1 h2=>?_,fun q=>by have:s.phase=3:=q;omega,dX,dX⟩;simp only at h1 h2 |-;by_cases hj:j<s.rd.length
   ·rw[bV hj];exact h.two p2 j hj h2
   ·have e:j=s.rd.length:=by simp at h1;omega
    subst e;simp
  ·refine Kx s F p3 (.inr p3) rfl rfl rfl rfl rfl (hs.full p3) ?_ (D2 (.inr p3)) rfl c2;obtain⟨m,hm,m1,m2,h3⟩:=h.three p3;exact⟨m,dX,m1,m2,by rw[bV hm];exact h3⟩
  ·have hp:s.phase<=1:=by have:=hs.ph;omega
   rcases hr with⟨-,d,rfl⟩|⟨-,hq,d,lo,F',MW,rfl⟩|⟨-,-,d,rfl⟩
   ·have en:=tt d;refine .inl ⟨aa,rfl,rfl,?_⟩;rw[if_neg aa];exact h.idle rfl (ag _) aa aa (by show 0<=s.num/\s.num<=_;omega)
   ·have en:=tt d;refine .inl ⟨aa,rfl,rfl,?_⟩;rw[if_pos en];exact⟨h.st,fun _ j h1 _=>by simp[gV.stand] at h1,fun q=>by simp[gV.stand] at q,dX,by show 0<=s.num/\s.num<=_;simp;omega⟩
   ·have en:=tt d;refine .inl ⟨aa,rfl,rfl,?_⟩;rw[if_neg aa];exact h.still rfl rfl rfl rfl rfl rfl rfl
end
open Go.Ren Go.Conc Go.Proofs Go.ConcN
open Go.ConcR (Payload)
theorem Q5:(au.info? 37).map (fun i=>(i.zero,i.size,i.bytes))=some (some (.slice none 0 0),1,24):=ah
theorem Q6(W:ae)(lo:Nat)(v:Value)(n:Nat)(xs:List Value)(x:Value)(A:Nat)(h:W.ownsRow lo 37 1 v n xs)(hn:(n+1)*24<=140737488355328)(vO:lo<=W.heap.size)(ha:W.heap[A]?=some (.cells #[x] 37))(hx:x.oneCell'=true):
  ∃v' W',(Builtin.append_ #[67,67] 67 #[v,.slice (some ⟨A,0,none⟩) 1 1]).run au W=.ok v' W'/\W'.ownsRow lo 37 1 v' (n+1) (xs++[x])/\W.grownBy W' v.ownBlock/\(v'.ownBlock=v.ownBlock\/v'.ownBlock=some W.heap.size):=by
 obtain⟨i,hi,ov⟩:=Option.map_eq_some_iff.1 Q5;simp only[bu] at ov;obtain⟨v',W',e1,e2,e3,_,e4⟩:=run_append_own_at (P:=au) W lo 67 67 37 i _ 1 24 underlying67 hi ov.1 ov.2.1 ov.2.2 rfl aa v n xs h ⟨A,0,none⟩ 1 1 [x] rfl (fun j u hj=>by
  cases j with
  |zero=>simp at hj;subst hj;simp[Addr.add,World.cell?,ha]
  |succ j=>simp at hj) (by simpa using hx) (by simp[maxLen];omega) aa vO
 exact⟨v',W',e1,e2,e3,e4⟩
theorem nF.lI{o:aN}{w:ae}{lo e n:Nat}{v:Value}{xs:List Value}(h:nF o w lo e 1 v n xs)(hF:bN au L0 o w)(hn:0<n):∃b c,v=.slice (some ⟨b,0,none⟩) n c/\o b/\∀k (hk:k<xs.length),w.cell? ⟨b,k,none⟩=some xs[k]:=by
 have cp:=h.row;obtain⟨h0,hc⟩:=h.row;rcases hc with⟨e1,e2⟩|⟨g,cap,cur,e1,k1,k2,k3,k4,k5,k6⟩
 ·omega
 ·have lY:=cp.cells (g:=g) (by rw[e1];rfl);have og:=gL hF h.cl g (by rw[e1];rfl);refine⟨g,cap,e1,og,fun i hi=>?_⟩;have:=lY i xs[i] (by simp[hi]);have ha:(⟨g,0,none⟩:Addr).add i=⟨g,i,none⟩:=by simp[Addr.add];omega
  rw[ha] at this;exact this
structure HP where
 hv:Value
 gE:List (List (af×af))
 x8:List Value
 Wb:Nat
 wn:Int
 pa:Option Addr
 ba:Nat
 ca:Nat
 tv:Value
 wr:List (af×V)
def DQ(P:HP)(fv:Value)(rs:List aJ)(NM:aJ->List af)(NB:aJ->Nat)(rb g:Nat):Prop:=fv.ownBlock=some g\/(∃v∈P.x8,v.ownBlock=some g)\/nA rs NM NB rb g\/(P.wr≠[]/\P.ba=g)
section
variable {Fin:bL} {o o' o1 o2:aN} {w w' w1 w2:ae} {S:Nat} {K:pG} {P:HP} {s s' s2:gV} {lab lab' dt fW:Nat->Nat} {rv fv Nf:Value} {fs EL:List (af×af)} {ed zd cnt Hz:Nat} {rp:Option Addr} {rb rc:Nat} {rs:List aJ} {NM:aJ->List af} {NB:aJ->Nat} {RK:af->Nat}
structure HS(o:aN)(w:ae)(S:Nat)(K:pG)(rp:Option Addr)(rb rc:Nat)(rs:List aJ)(NM:aJ->List af)(NB:aJ->Nat)(P:HP)(s:gV)(lab:Nat->Nat)(fv:Value)(fs:List (af×af))(ed cnt:Nat)(o':aN)(w':ae):Prop where
 ss:SS o w S K rp rb rc rs NM NB s lab fv fs ed cnt o' w'
 row:nF o' w' w.heap.size 37 1 P.hv P.gE.length P.x8
 len:P.x8.length=P.gE.length
 files:∀m (h:m<P.gE.length) (h':m<P.x8.length),pB o' w' P.x8[m] P.gE[m]
 ok:∀f∈P.gE,vE f
 was:w'.heap[P.Wb]?=some (.cells #[.int .i64 P.wn,.slice P.pa P.wr.length P.ca,P.tv] 59)
 own:o' P.Wb
 res:(P.wr≠[]->P.pa=some ⟨P.ba,0,none⟩/\o' P.ba)/\nJ w' P.ba P.wr
 gY:P.wr.length<=1000
 keep:∀g,DQ P fv rs NM NB rb g->lab g=7/\g≠S/\g≠P.Wb/\P.hv.ownBlock≠some g
 xu:lab P.Wb=7/\P.Wb≠S/\P.hv.ownBlock≠some P.Wb/\w.heap.size<=P.Wb
 HD:∀g,P.hv.ownBlock=some g->lab g=7/\g≠S
theorem HS.lt(h:HS o w S K rp rb rc rs NM NB P s lab fv fs ed cnt o' w'){g:Nat}(hg:DQ P fv rs NM NB rb g):g<w'.heap.size:=by
 have hF:=h.ss.cC.dH.aG;rcases hg with q|⟨v,hv,q⟩|q|⟨q,rfl⟩
 ·exact hF.lt (gL hF h.ss.cC.files.cl g q)
 ·obtain⟨m,hm,rfl⟩:=bf hv;exact hF.lt (gL hF (h.files m (by rw[<- h.len];exact hm) hm).cl g q)
 ·exact h.ss.hand.lt hF q
 ·exact hF.lt (h.res.1 q).2
theorem HS.go(h:HS o w S K rp rb rc rs NM NB P s dt fv fs ed cnt o1 w1)(sh:vS o2 w2 S K s2 fW (.slice rp rs.length rc) Nf EL zd)(U:gI S o1 w1 dt o2 w2 fW)(ht:Told K rs NM AO s2 zd Hz)(YX:∀g,Nf.ownBlock=some g->fv.ownBlock=some g\/w1.heap.size<=g):HS o w S K rp rb rc rs NM NB P s2 fW Nf EL zd Hz o2 w2:=by
 have hF:=h.ss.cC.dH.aG;have lW:=hF.lt h.own;have stay:∀g,g<w1.heap.size->dt g=7/\g≠S->w2.heap[g]?=w1.heap[g]?:=fun g hg q=>U.bt.same g hg aa;have lM:∀g,DQ P fv rs NM NB rb g->w2.heap[g]?=w1.heap[g]?:=fun g hg=>stay g (h.lt hg) ⟨(h.keep g hg).1,(h.keep g hg).2.1⟩;refine⟨h.ss.go sh U ht,h.row.keep U.bt.more U.bt.size fun g hg=>stay g (h.row.lt g hg).2 (h.HD g hg),h.len,fun m k1 k2=>(h.files m k1 k2).keep U.bt.more fun g hg=>lM g (.inr (.inl ⟨_,aH k2,hg⟩)),h.ok,(stay _ lW ⟨h.xu.1,h.xu.2.1⟩).trans h.was,U.bt.more _ h.own,⟨fun q=>⟨(h.res.1 q).1,U.bt.more _ (h.res.1 q).2⟩,?_⟩,h.gY,fun g hg=>?_,⟨(U.lab _ lW).trans h.xu.1,h.xu.2⟩,fun g hg=>⟨(U.lab g (h.row.lt g hg).2).trans (h.HD g hg).1,(h.HD g hg).2⟩⟩
 ·by_cases q:P.wr=[]
  ·intro i hi;rw[q] at hi;simp at hi
  ·exact ky h.res.2 (lM _ (.inr (.inr (.inr ⟨q,rfl⟩))))
 ·have old:DQ P fv rs NM NB rb g->fW g=7/\g≠S/\g≠P.Wb/\P.hv.ownBlock≠some g:=fun q=>⟨(U.lab g (h.lt q)).trans (h.keep g q).1,(h.keep g q).2⟩;rcases hg with q|q
  ·rcases YX g q with q' | q'
   ·exact old (.inl q')
   ·exact⟨(sh.QW g q).1,(sh.QW g q).2,aa,fun e=>by have:=(h.row.lt g e).2;omega⟩
  ·exact old (.inr q)
theorem HS.k(h:HS o w S K rp rb rc rs NM NB P s dt fv fs ed cnt o1 w1)(T:cP o1 w1 dt o2 w2 fW)(hk:bo o2 w2 K s 0 fW):HS o w S K rp rb rc rs NM NB P s fW fv fs ed cnt o2 w2 :=
 h.go (h.ss.cC.work hk h.ss.cC.sound T rfl) ((gI.refl (S:=S) h.ss.cC.dH.aG).k T) h.ss.told fun g hg=>.inl hg
theorem SS.side{ex:Nat->Prop}(h:SS o w S K rp rb rc rs NM NB s dt fv fs ed cnt o1 w1)(q:bB ex o1 w1 o2 w2)(hx:∀b,ex b->dt b=7/\b≠S/\fv.ownBlock≠some b/\¬nA rs NM NB rb b/\w.heap.size<=b/\b<w1.heap.size):∃fW,SS o w S K rp rb rc rs NM NB s fW fv fs ed cnt o2 w2/\(∀b,b<w1.heap.size->fW b=dt b)/\∀b,w1.heap.size<=b->fW b=7:=by
 have hq:∀b,b<w1.heap.size->(if b<w1.heap.size then dt b else 7)=dt b:=fun b hb=>if_pos hb;have hF:=h.cC.dH.aG;have hk:=(h.cC.dH.Kg fun b hb=>hq b (hF.lt hb)).aside q (fun b hb=>by rw[hq b (hx b hb).2.2.2.2.2];exact(hx b hb).1);have sl:=hF.lt h.cC.own;have z1:=h.old.size;have z2:=q.size;have fl:∀g,fv.ownBlock=some g->g<w1.heap.size:=fun g hg=>hF.lt (gL hF h.cC.files.cl g hg);refine⟨_,⟨⟨hk,h.cC.sound,(q.same S sl fun e=>(hx S e).2.1 rfl).trans h.cC.blk,q.more _ h.cC.own,(hq S sl).trans h.cC.Xs,h.cC.files.keep q.more fun g hg=>q.same g (fl g hg) fun e=>(hx g e).2.2.1 hg,fun g hg=>⟨(hq g (fl g hg)).trans (h.cC.QW g hg).1,(h.cC.QW g hg).2⟩,h.cC.Be⟩,⟨q.aG,fun b hb=>q.more b (h.old.more b hb),fun b hb=>(q.new b hb).elim (fun q=>h.old.new b q) fun q=>.inr aa,aa,fun b hb hn=>(q.same b aa fun e=>?_).trans (h.old.same b hb hn)⟩,fun b hb=>by rw[hq b aa];exact h.aa4 b hb,h.sge,h.hand.keep q.more fun g hg=>q.same g (h.hand.lt hF hg) fun e=>(hx g e).2.2.2.1 hg,fun g hg=>⟨(hq g (h.hand.lt hF hg)).trans (h.lM g hg).1,(h.lM g hg).2⟩,h.told⟩,hq,fun b hb=>if_neg aa⟩;have:=(hx b e).2.2.2.2.1;omega
theorem HS.app{y:Value}(h:HS o w S K rp rb rc rs NM NB P s dt fv fs ed cnt o1 w1)(q1:nF o2 w2 w.heap.size 37 1 y (P.gE.length+1) (P.x8++[fv]))(q2:bB (fun b=>P.hv.ownBlock=some b) o1 w1 o2 w2)(q3:∀b,y.ownBlock=some b->P.hv.ownBlock=some b\/w1.heap.size<=b):∃fW,HS o w S K rp rb rc rs NM NB {P with hv:=y,gE:=P.gE++[fs],x8:=P.x8++[fv]} s fW fv fs ed cnt o2 w2:=by
 have hF:=h.ss.cC.dH.aG;have lW:=hF.lt h.own;obtain⟨fW,ss,hl,hn⟩:=h.ss.side q2 (fun b hb=>⟨(h.HD b hb).1,(h.HD b hb).2,fun e=>(h.keep b (.inl e)).2.2.2 hb,fun e=>(h.keep b (.inr (.inr (.inl e)))).2.2.2 hb,(h.row.lt b hb).1,(h.row.lt b hb).2⟩);have lM:∀g,DQ P fv rs NM NB rb g->w2.heap[g]?=w1.heap[g]?:=fun g hg=>q2.same g (h.lt hg) fun e=>(h.keep g hg).2.2.2 e;have hy:∀g,g<w1.heap.size->P.hv.ownBlock≠some g->y.ownBlock≠some g:=fun g hg k e=>by
  rcases q3 g e with q|q
  ·exact k q
  ·omega
 refine⟨fW,ss,by simpa using q1,by simp[h.len],fun m k1 k2=>?_,fun f hf=>?_,(q2.same _ lW h.xu.2.2.1).trans h.was,q2.more _ h.own,⟨fun q=>⟨(h.res.1 q).1,q2.more _ (h.res.1 q).2⟩,?_⟩,h.gY,fun g hg=>?_,⟨(hl _ lW).trans h.xu.1,h.xu.2.1,hy _ lW h.xu.2.2.1,h.xu.2.2.2⟩,fun g hg=>?_⟩
 ·simp only at k1 k2 |-;have hlen:=h.len;by_cases hm:m<P.gE.length
  ·rw[bV hm,bV aa];exact(h.files m hm aa).keep q2.more fun g hg=>lM g (.inr (.inl ⟨_,aH _,hg⟩))
  ·have e:m=P.gE.length:=by simp at k1;omega
   subst e;rw[jO (ag _),jO aa];simp[hlen];exact h.ss.cC.files.keep q2.more fun g hg=>lM g (.inl hg)
 ·rcases List.mem_append.1 hf with q|q
  ·exact h.ok f q
  ·simp at q;rw[q];exact h.ss.cC.ok
 ·by_cases q:P.wr=[]
  ·intro i hi;simp only at hi;rw[q] at hi;simp at hi
  ·exact ky h.res.2 (lM _ (.inr (.inr (.inr ⟨q,rfl⟩))))
 ·have Aw:DQ P fv rs NM NB rb g:=by
   rcases hg with q|⟨v,hv,q⟩|q|q
   ·exact .inl q
   ·rcases List.mem_append.1 hv with k|k
    ·exact .inr (.inl ⟨v,k,q⟩)
    ·simp at k;subst k;exact .inl q
   ·exact .inr (.inr (.inl q))
   ·exact .inr (.inr (.inr q))
  obtain⟨k1,k2,k3,k4⟩:=h.keep g Aw;exact⟨(hl g (h.lt Aw)).trans k1,k2,k3,hy g (h.lt Aw) k4⟩
 ·rcases q3 g hg with q|q
  ·exact⟨(hl g (h.row.lt g q).2).trans (h.HD g q).1,(h.HD g q).2⟩
  ·exact⟨hn g q,by have:=hF.lt h.ss.cC.own;omega⟩
theorem HS.put{wn:Int}{pa:Option Addr}{ba ca:Nat}{tv:Value}{wr:List (af×V)}(h:HS o w S K rp rb rc rs NM NB P s dt fv fs ed cnt o1 w1)(rV:bN au L0 o1 w2)(on:eK P.Wb w1 w2)(blk:w2.heap[P.Wb]?=some (.cells #[.int .i64 wn,.slice pa wr.length ca,tv] 59))(y6:wr≠[]->pa=some ⟨ba,0,none⟩/\o1 ba)(ha:nJ w1 ba wr)(hw:wr.length<=1000)(hba:wr≠[]->dt ba=7/\ba≠S/\ba≠P.Wb/\P.hv.ownBlock≠some ba):∃fW,HS o w S K rp rb rc rs NM NB {P with wn:=wn,pa:=pa,ba:=ba,ca:=ca,tv:=tv,wr:=wr} s fW fv fs ed cnt o1 w2:=by
 have hF:=h.ss.cC.dH.aG;have lW:=hF.lt h.own;have q2:bB (·=P.Wb) o1 w1 o1 w2:=bB.dI (ex:=(·=P.Wb)) rV on rfl;obtain⟨fW,ss,hl,hn⟩:=h.ss.side q2 (fun b hb=>by
  subst hb;exact⟨h.xu.1,h.xu.2.1,fun e=>(h.keep _ (.inl e)).2.2.1 rfl,fun e=>(h.keep _ (.inr (.inr (.inl e)))).2.2.1 rfl,h.xu.2.2.2,lW⟩)
 refine⟨fW,ss,h.row.keep q2.more q2.size fun g hg=>on.2 g fun e=>h.xu.2.2.1 (e▸hg),h.len,fun m k1 k2=>(h.files m k1 k2).keep q2.more fun g hg=>on.2 g (h.keep g (.inr (.inl ⟨_,aH k2,hg⟩))).2.2.1,h.ok,blk,h.own,⟨y6,?_⟩,hw,fun g hg=>?_,⟨(hl _ lW).trans h.xu.1,h.xu.2⟩,fun g hg=>⟨(hl g (h.row.lt g hg).2).trans (h.HD g hg).1,(h.HD g hg).2⟩⟩
 ·by_cases q:wr=[]
  ·intro i hi;simp only at hi;rw[q] at hi;simp at hi
  ·exact ky ha (on.2 _ (hba q).2.2.1)
 ·have old:DQ P fv rs NM NB rb g->fW g=7/\g≠S/\g≠P.Wb/\P.hv.ownBlock≠some g:=fun q=>⟨(hl g (h.lt q)).trans (h.keep g q).1,(h.keep g q).2⟩;rcases hg with q|q|q|⟨q,rfl⟩
  ·exact old (.inl q)
  ·exact old (.inr (.inl q))
  ·exact old (.inr (.inr (.inl q)))
  ·obtain⟨k1,k2⟩:=hba q;exact⟨(hl _ (hF.lt (y6 q).2)).trans k1,k2⟩
end
section
variable {Fin:bL} {o o':aN} {w w':ae}
theorem XL[Payload](hF:bN au L0 o w)(pow:jb w)(p:Option Addr)(b off c:Nat)(rw:List EH)(hR:uW Fin w p b off rw)(q:Option Addr)(qb Bg d:Nat)(xs:List (Int×Int×Int))(hX:FV Fin w q qb Bg xs):
  DJ au (XB au Fin 0) 8 Tryz.f8 #[.slice p rw.length c,.slice q xs.length d] o w fun v o' w'=>v=.bool true/\bB (fun _=>False) o w o' w':=by
 have W:=bY (P:=au) (Fin:=Fin) (d:=0);have A7:=hX.ET;refine⟨_,ar,?_⟩;bP Tryz.f8;refine ax ?_;refine cj func13 (KD hF pow p b off c rw hR) ?_;rintro v1 o1 w1 eR;obtain⟨S,K,pb,dt,rp,rb,rc,rs,NM,NB,rfl,hW,h1,KC⟩:=F9 eR;clear eR;refine ax ?_;refine dD bS h1.aG rfl ar ar ?_ rfl (v:=.bool false) (fun wl aU=>by simp[go_sem,aeM]) fun _=>?_
 ·exact ja (bX hW.cC.own) yl
 refine ax ?_;refine lz h1.aG hW.cC.own (od hW.cC.blk).1 fun _=>?_;refine ax ?_;refine cj func24 (Hj h1) ?_;rintro v3 o3 w3 ⟨r8,kQ,h3,T3,-⟩;have sH:=hW.k T3 h3;obtain⟨rv,tv,rfl,⟨pa,ba,ca,rfl,y6,ha⟩,fB,OJ⟩:=r8.ex;clear r8 T3 h3 hW h1;refine ax ?_;obtain⟨tp,tb,tc,rfl,-⟩:=OJ.row;refine Ho (s0 pb).num pa (s0 pb).res.length ca tp (s0 pb).jX.length tc sH.cC.dH fB OJ.cl fun L ox wy Bd hL hV=>?_;have oL:=hV.own;have XM:(s0 pb).res≠[]->ba<w3.heap.size:=fun q=>sH.cC.dH.aG.lt (y6 q).2;have EP:(s0 pb).res≠[]->pa=some ⟨ba,0,none⟩/\ox ba:=fun q=>⟨(y6 q).1,hV.bt.more _ (y6 q).2⟩;have Vo:nJ wy ba (s0 pb).res:=fun i hi=>ky ha (hV.old ba (XM (fun e=>by rw[e] at hi;simp at hi))).2 i hi;have Bh:=sH.k hV.step hV.dH;have hz:=sH.old.size;have hH0:HS o w S K rp rb rc rs NM NB ⟨.slice none 0 0,[],[],L,(s0 pb).num,pa,ba,ca,.slice tp (s0 pb).jX.length tc,(s0 pb).res⟩ (s0 pb) Bd (.slice none 0 0) [] 0 0 ox wy:=by
  have hsS:L≠S:=by have:=sH.cC.dH.aG.lt sH.cC.own;omega
  refine⟨Bh,nF.nil _ _ _ _ _ Bh.old.size,rfl,fun m h=>by simp at h,fun f hf=>(by cases hf),hV.blk,oL,⟨EP,Vo⟩,by simp[s0],fun g hg=>?_,⟨hV.xp,hsS,(fun e=>by cases e),by show _<=L;omega⟩,(fun g hg=>by cases hg)⟩;rcases hg with q|⟨v,hv,q⟩|q|⟨q,rfl⟩
  ·cases q
  ·cases hv
  ·have:=sH.hand.lt sH.cC.dH.aG q;exact⟨(Bh.lM g q).1,(Bh.lM g q).2,by show g≠L;omega,(fun e=>by cases e)⟩
  ·exact absurd rfl q
 have hI0:=nB.zero pb;clear hV hL sH fB OJ XM y6 ha Bh EP Vo hz;refine ax ?_;refine iQ W (fun m a o' w'=>∃i,m+i=xs.length/\a.tmps.size=109/\a.defers=[]/\a.eval (.tmp 1)=.slice q xs.length d/\a.eval (.tmp 5)=.pointer (some ⟨S,0,none⟩)/\a.eval (.tmp 10)=.int .i64 i/\∃P s lab fv fs ed start iC,a.eval (.tmp 6)=HP.hv P/\a.eval (.tmp 7)=.int .i64 (iC:Nat)/\a.eval (.tmp 8)=.int .i64 (start:Nat)/\a.eval (.tmp 9)=.pointer (some ⟨P.Wb,0,none⟩)/\P.gE.length=i/\ed<=i/\P.wn=s.num/\P.wr=s.res/\nB s P.gE start iC ed/\HS o w S K rp rb rc rs NM NB P s lab fv fs ed i o' w') (N:=xs.length) ⟨0,aj,rfl,rfl,aI,aI,aI,⟨.slice none 0 0,[],[],L,(s0 pb).num,pa,ba,ca,.slice tp (s0 pb).jX.length tc,(s0 pb).res⟩,s0 pb,Bd,_,_,0,0,0,aI,aI,aI,aI,rfl,ag _,rfl,rfl,hI0,hH0⟩ ?_;clear hH0 hI0;rintro m a o1 w1 ⟨i,K4,fJ,kZ,i1,i5,i10,P,s,lab,fv,fs,ed,start,iC,i6,i7,i8,i9,hPi,UG,hwn,ve,hI,hW⟩;obtain⟨gs,rfl⟩:=iJ fJ kZ;clear fJ kZ;simp only[List.range,List.range.loop,aA,aQ] at i1 i5 i6 i7 i8 i9 i10 |-;simp[Act.eval] at i1 i5 i6 i7 i8 i9 i10;simp only[i1,i5,i6,i7,i8,i9,i10];clear i1 i5 i6 i7 i8 i9 i10;by_cases hi:i<xs.length;rotate_left
 ·have hiI:¬(i:Int)<(xs.length:Int):=aa;refine ax ?_;exact⟨.inr trivial,trivial,_,resultsC_tmp (t:=4) ar _,aI,hW.ss.old⟩
 have hiI:(i:Int)<(xs.length:Int):=aa;have YW:IntKind.i64.wrap ((i:Int)+1)=((i+1:Nat):Int):=by rw[IntKind.wrap_i64]<;>omega
 obtain⟨eq,oqb,qbl⟩:=hX.ptr (fun e=>by rw[e] at hi;simp at hi);subst eq;obtain⟨c0,c1,c2⟩:=hX.at_ i hi;obtain⟨⟨Xi,Xj⟩,Xk,rg4⟩:=hX.Xg xs[i] (aH hi);rcases hxi:xs[i] with⟨kd,ea,eb⟩;rw[hxi] at c0 c1 c2 Xi Xj Xk rg4;simp only at c0 c1 c2 Xi Xj Xk rg4;clear hxi;obtain⟨fp,fb,fc,YX,-,-⟩:=hW.ss.cC.files.ex;have cS2:=(od hW.ss.cC.blk).2.2.1;have afk:=hW.ss.cC.files.cl;rw[YX] at cS2 afk;refine ax ?_;refine lz hW.ss.cC.dH.aG hW.ss.cC.own cS2 fun _=>?_;refine ax ?_;refine dv bS hW.ss.cC.dH.aG rfl ar ar ?_ rfl (R:=fun wl v aW=>v=.slice (some ⟨wl.heap.size,0,none⟩) 1 1/\aW=wl.alloc (.cells #[.slice fp fs.length fc] 37)) (fun wl aU=>⟨_,_,by simp[go_sem,Act.eval],rfl,rfl⟩) fun wl v1 aW w2 aU hR2 bO=>?_
 ·exact ng afk
 obtain⟨rfl,hR2⟩:=hR2;obtain⟨z2,k2,Oy⟩:=bO.alloc hW.ss.cC.dH.aG aU hR2;obtain⟨W2,oN⟩:=bB.qF bO.aG z2 k2;rw[aU.size];clear hR2 bO aU wl aW;obtain⟨fW,h2,T2,-,-⟩:=hW.ss.cC.dH.grown (cP.refl hW.ss.cC.dH.aG) W2;have uq:=hW.k T2 h2;rw[<- YX] at Oy;generalize Go.Ren.grow o1 w1 w2=o2 at *;clear z2 k2 W2 T2 h2 cS2 hW;refine ax ?_;refine dv bS uq.ss.cC.dH.aG rfl ar ar ?_ rfl (R:=fun wl y aW=>aW.ownsRow w.heap.size 37 1 y (P.gE.length+1) (P.x8++[fv])/\wl.grownBy aW P.hv.ownBlock/\(y.ownBlock=P.hv.ownBlock\/y.ownBlock=some wl.heap.size)) (fun wl aU=>?_) fun wl y3 aW w3 aU nK bO=>?_
 ·intro y hy;simp[Op.operands,Call.operands] at hy;rcases hy with rfl|rfl
  ·simp[Act.eval];exact uq.row.cl
  ·simp[Act.eval];exact ee oN
 ·obtain⟨v',W',e1,e2,e3,e4⟩:=Q6 wl w.heap.size P.hv P.gE.length P.x8 fv w1.heap.size (dF uq.row.row fun g hg _=>aU.heap g (gL uq.ss.cC.dH.aG uq.row.cl g hg.symm)) aa (by rw[aU.size];exact uq.row.low) ((aU.heap _ oN).trans Oy) (by rw[YX];rfl);exact⟨v',W',jF (.tmp 31) (.tmp 36) 67 rfl aI aI e1,e2,e3,e4⟩
 obtain⟨r1,r2,r3⟩:=nK;obtain⟨q1,q2,q3⟩:=nF.add uq.ss.cC.dH.aG uq.row aU bO r1 r2 r3;obtain⟨P2,hP1,hP2,hP3,hP4,hP5,kQ,sH⟩:∃P2:HP,P2.hv=y3/\P2.gE=P.gE++[fs]/\P2.Wb=P.Wb/\P2.wn=P.wn/\P2.wr=P.wr/\∃kQ,HS o w S K rp rb rc rs NM NB P2 s kQ fv fs ed i (Go.Ren.grow o2 w2 w3) w3:=by
  obtain⟨kQ,h⟩:=uq.app q1 q2 q3;exact⟨{P with hv:=y3,gE:=P.gE++[fs],x8:=P.x8++[fv]},rfl,rfl,rfl,rfl,rfl,kQ,h⟩
 generalize Go.Ren.grow o2 w2 w3=o3 at *;clear r1 r2 r3 q1 q2 q3 bO aU wl aW uq Oy oN;have Up:=sH.ss.old.same qb qbl id;have YM:=(cell_of Up).trans c0;have AW:=(cell_of Up).trans c1;have c2':=(cell_of Up).trans c2;refine ax ?_;refine qd oqb rfl ar rfl (v:=.agg #[.int .i64 kd,.int .i64 ea,.int .i64 eb]) (fun wl aU=>by simp[go_sem,aU.cell.trans YM,aU.cell.trans AW,aU.cell.trans c2']) (fun wl aU x hx=>?_) ?_
 ·simp[go_sem,aU.cell.trans YM,aU.cell.trans AW,aU.cell.trans c2'] at hx;rcases hx with rfl|rfl|rfl;all_goals exact⟨_,_,_,rfl,rfl⟩
 refine ax ?_;refine cj func14 (UF sH.ss.cC kd ea eb Xi Xj Xk rg4 aa) ?_;rintro v4 o4 w4 ⟨n,y,s2,sF,Nf,EL,zd,rfl,sh4,st4,U4,afn⟩;have XK:zd<=i+1:=by have:=st4.edl;omega
 have eI:=hI.step sH.ss.cC.sound sH.ss.cC.Be KC sH.ss.cC.dH.XI aa aa st4;have Ki:=sH.go sh4 U4 (sH.ss.told.step sH.ss.cC.sound KC sH.ss.cC.dH.XI aa st4) afn;rw[hPi] at eI;clear sh4 st4 U4 afn sH hI Up YM AW c2' YX;refine ax ?_;refine tn n y Ki.ss.cC.dH fun D o5 w6 pf hD hV=>?_;have Nl:=Ki.k hV.step hV.dH;have kD6:=hV.blk;have oD:=hV.own;have hlD:=hV.xp;clear hV hD Ki;refine ax ?_;refine lz Nl.ss.cC.dH.aG Nl.ss.cC.own (od Nl.ss.cC.blk).1 fun _=>?_;refine ax ?_;refine cj func24 (Hj Nl.ss.cC.dH) ?_;rintro v7 o7 w7 ⟨r8,xp,h7,T7,zt⟩;have hW7:=Nl.k T7 h7;have lD6:=Nl.ss.cC.dH.aG.lt oD;have kD7:=(T7.bt.same D lD6 (by rw[hlD];omega)).trans kD6;have oD7:=T7.bt.more _ oD;have lD7:=hW7.ss.cC.dH.aG.lt oD7;have ME:=Nl.ss.cC.dH.set.gY;obtain⟨rv,tv,rfl,⟨pa,ba,ca,rfl,y6,ha⟩,fB,OJ⟩:=r8.ex;have Yv:s2.res≠[]->w6.heap.size<=ba/\xp ba=7:=fun q=>zt _ _ _ ba rfl (by rw[(y6 q).1];rfl);have lS6:=Nl.ss.cC.dH.aG.lt Nl.ss.cC.own;have lW6:=Nl.ss.cC.dH.aG.lt Nl.own;have lH6:∀g,P2.hv.ownBlock=some g->g<w6.heap.size:=fun g hg=>(Nl.row.lt g hg).2;have hb7:s2.res≠[]->xp ba=7/\ba≠S/\ba≠P2.Wb/\P2.hv.ownBlock≠some ba:=fun q=>⟨(Yv q).2,by have:=Yv q;omega,by have:=Yv q;omega,fun e=>by have:=Yv q;have:=lH6 _ e;omega⟩;clear r8 T7 h7 Nl kD6 oD lD6 hlD zt Yv lS6 lW6 lH6;refine ax ?_;obtain⟨tp,tb,tc,rfl,-⟩:=OJ.row;refine Ho s2.num pa s2.res.length ca tp s2.jX.length tc hW7.ss.cC.dH fB OJ.cl fun L ox wy Bd hL hV=>?_;have oL:=hV.own;have XM:s2.res≠[]->ba<w7.heap.size:=fun q=>hW7.ss.cC.dH.aG.lt (y6 q).2;have EP:s2.res≠[]->pa=some ⟨ba,0,none⟩/\ox ba:=fun q=>⟨(y6 q).1,hV.bt.more _ (y6 q).2⟩;have Vo:nJ wy ba s2.res:=fun i hi=>ky ha (hV.old ba (XM (fun e=>by rw[e] at hi;simp at hi))).2 i hi;have Np:=hW7.k hV.step hV.dH;have kD8:=(hV.old D lD7).2.trans kD7;have oD8:=hV.bt.more _ oD7;have hb8:s2.res≠[]->Bd ba=7/\ba≠S/\ba≠P2.Wb/\P2.hv.ownBlock≠some ba:=fun q=>⟨(hV.old ba (XM q)).1.trans (hb7 q).1,(hb7 q).2⟩;obtain⟨cL0,cL1,cL2,-⟩:=eQ hV.blk;obtain⟨cD0,-⟩:=dQ kD8;have su:=Np.ss.cC.dH.aG;clear hV hL hW7 fB OJ XM y6 ha kD7 oD7 lD7 hb7 kD8;refine CO ?_;refine pO W ?_;refine pO W ?_;refine CO ?_;obtain⟨mF,vh⟩:∃mF:Nat,(if n=2 then i else start)=mF:=⟨_,rfl⟩;refine yY W (fun a o' w'=>a.tmps.size=109/\a.defers=[]/\a.eval (.tmp 1)=.slice (some ⟨qb,Bg,none⟩) xs.length d/\a.eval (.tmp 5)=.pointer (some ⟨S,0,none⟩)/\a.eval (.tmp 6)=y3/\a.eval (.tmp 9)=.pointer (some ⟨P.Wb,0,none⟩)/\a.eval (.tmp 10)=.int .i64 i/\a.eval (.tmp 13)=.pointer (some ⟨L,0,none⟩)/\a.eval (.tmp 7)=.int .i64 (iC:Nat)/\a.eval (.tmp 8)=.int .i64 (mF:Nat)/\a.eval (.tmp 11)=.pointer (some ⟨D,0,none⟩)/\ox=o'/\wy=w') ?_ ?_
 ·by_cases NW:n=2
  ·rw[if_pos NW] at vh;replace vh:=vh.symm;refine ax ?_;refine lz su oD8 cD0 fun _=>?_;refine ax ?_;exact⟨dp,dp,aI,aI,aI,aI,aI,aI,aI,by simp[Act.eval,vh],aI,dp,dp⟩
  ·rw[if_neg NW] at vh;refine ax ?_;refine lz su oD8 cD0 fun _=>?_;refine ax ?_;refine ig W (t:=false) (by simp[Act.eval,NW]) ?_;simp only[if_false,reduceIte,aM];refine ax ?_;exact⟨dp,dp,aI,aI,aI,aI,aI,aI,aI,by simp[Act.eval,vh],aI,dp,dp⟩
 rintro a o' w' ⟨fJ,kZ,i1,i5,i6,i9,i10,i13,i7,i8,i11,rfl,rfl⟩;obtain⟨gs,rfl⟩:=iJ fJ kZ;clear fJ kZ;simp only[List.range,List.range.loop,aA,aQ] at i1 i5 i6 i7 i8 i9 i10 i11 i13 |-;simp[Act.eval] at i1 i5 i6 i7 i8 i9 i10 i11 i13;simp only[i1,i5,i6,i7,i8,i9,i10,i11,i13];clear i1 i5 i6 i7 i8 i9 i10 i11 i13;have kW:=Np.was;rw[hP3,hP4,hP5,hwn,ve] at kW;obtain⟨cW0,cW1,-⟩:=eQ kW;have oW:=Np.own;rw[hP3] at oW;have hrW:=Np.res;rw[hP5,ve] at hrW;have hfW:=Np.gY;rw[hP5,ve] at hfW;rcases eI with⟨hn6,er,en,Iq⟩|⟨hn6,en,mm,YN,m1,m2,hM,Iq⟩
 ·rw[vh] at Iq;refine ax ?_;refine lz su oD8 cD0 fun _=>?_;refine ax ?_;refine ig W (t:=true) (by simp[Act.eval,hn6]) ?_;simp only[if_true,reduceIte];refine ax ?_;refine lz su oL cL1 fun _=>?_;refine ax ?_;refine lz su oW cW1 fun _=>?_;refine ax ?_;refine dC W rfl ar rfl func17 ah rfl (by simp[Act.eval,er]) rfl ((UL su ba P2.ba ca P2.ca pa P2.pa s2.res s.res ME hfW EP hrW.1 Vo hrW.2).mono ?_);rintro v9 o9 w9 ⟨rfl,G9⟩;rw[cW er];have W9:=G9.bt;have mB:=W9.aG;obtain⟨Kj,h9,T9,-,-⟩:=Np.ss.cC.dH.grown (cP.refl su) W9;have hW9:=Np.k T9 h9;have Q7:=(cell_of (W9.same _ (su.lt oL) id)).trans cL0;have aba:=(cell_of (W9.same _ (su.lt oW) id)).trans cW0;have oL9:=W9.more _ oL;have oW9:=W9.more _ oW;rw[en] at Q7;refine ax ?_;refine lz mB oL9 Q7 fun _=>?_;refine ax ?_;refine lz mB oW9 aba fun _=>?_;refine ax ?_;exact⟨m-1,aa,i+1,aa,dp,dp,aI,aI,by simp[Act.eval,YW],P2,s2,Kj,Nf,EL,zd,mF,iC,by simp[Act.eval,hP1],aI,aI,by simp[Act.eval,hP3],by rw[hP2];simp[hPi],XK,by rw[hP4,hwn,en],by rw[hP5,ve,er],by rw[hP2];exact Iq,hW9⟩
 have NW:n≠2:=aa;rw[if_neg NW] at vh;have hs3:=vh.symm;clear vh;subst hs3;rw[gX,hPi,iK] at YN;obtain⟨mo1,ER⟩:∃mo1:Nat,(if iC<mF then mF else iC)=mo1:=⟨_,rfl⟩;have Gs:mo1<=mm:=by rw[<- ER];split<;>omega
 refine ax ?_;refine lz su oD8 cD0 fun _=>?_;refine CO ?_;refine yY W (fun a o' w'=>a.tmps.size=109/\a.defers=[]/\a.eval (.tmp 1)=.slice (some ⟨qb,Bg,none⟩) xs.length d/\a.eval (.tmp 5)=.pointer (some ⟨S,0,none⟩)/\a.eval (.tmp 6)=y3/\a.eval (.tmp 9)=.pointer (some ⟨P.Wb,0,none⟩)/\a.eval (.tmp 10)=.int .i64 i/\a.eval (.tmp 13)=.pointer (some ⟨L,0,none⟩)/\a.eval (.tmp 7)=.int .i64 (mo1:Nat)/\a.eval (.tmp 8)=.int .i64 (mF:Nat)/\ox=o'/\wy=w') ?_ ?_
 ·by_cases hgt:iC<mF
  ·rw[if_pos hgt] at ER;replace ER:=ER.symm;have hgI:(iC:Int)<(mF:Int):=aa;refine ax ?_;exact⟨dp,dp,aI,aI,aI,aI,aI,aI,by simp[Act.eval,ER],aI,dp,dp⟩
  ·rw[if_neg hgt] at ER;replace ER:=ER.symm;have hgI:¬(iC:Int)<(mF:Int):=aa;refine ax ?_;exact⟨dp,dp,aI,aI,aI,aI,aI,aI,by simp[Act.eval,ER],aI,dp,dp⟩
 rintro a o' w' ⟨fJ,kZ,i1,i5,i6,i9,i10,i13,i7,i8,rfl,rfl⟩;obtain⟨gs,rfl⟩:=iJ fJ kZ;clear fJ kZ;simp only[List.range,List.range.loop,aA,aQ] at i1 i5 i6 i7 i8 i9 i10 i13 |-;simp[Act.eval] at i1 i5 i6 i7 i8 i9 i10 i13;simp only[i1,i5,i6,i7,i8,i9,i10,i13];clear i1 i5 i6 i7 i8 i9 i10 i13;clear ER m1 m2 cD0 oD8;have YZ:P2.gE.length=i+1:=by rw[hP2];simp[hPi]
 obtain⟨hb,hc,ehv,ohb,qw⟩:=Np.row.lI su aa;rw[hP1] at ehv;rw[YZ] at ehv;subst ehv;refine ax ?_;refine iQ W (fun k a o' w'=>∃mo fd,k=(if fd=true then 0 else mm+1-mo)/\mo<=mm/\a.tmps.size=109/\a.defers=[]/\a.eval (.tmp 1)=.slice (some ⟨qb,Bg,none⟩) xs.length d/\a.eval (.tmp 5)=.pointer (some ⟨S,0,none⟩)/\a.eval (.tmp 6)=.slice (some ⟨hb,0,none⟩) (i+1) hc/\a.eval (.tmp 9)=.pointer (some ⟨P.Wb,0,none⟩)/\a.eval (.tmp 10)=.int .i64 i/\a.eval (.tmp 13)=.pointer (some ⟨L,0,none⟩)/\a.eval (.tmp 7)=.int .i64 (mo:Nat)/\a.eval (.tmp 8)=.int .i64 (mF:Nat)/\a.eval (.tmp 15)=.bool fd/\bB (fun _=>False) ox wy o' w') (N:=mm+1-mo1) ⟨mo1,false,aj,Gs,dp,dp,aI,aI,aI,aI,aI,aI,aI,aI,aI,bB.refl su⟩ ?_;rintro k a o9 w9 ⟨mo,fd,hk,abd,fJ,kZ,i1,i5,i6,i9,i10,i13,i7,i8,i15,W9⟩;obtain⟨gs,rfl⟩:=iJ fJ kZ;clear fJ kZ;simp only[List.range,List.range.loop,aA,aQ] at i1 i5 i6 i7 i8 i9 i10 i13 i15 |-;simp[Act.eval] at i1 i5 i6 i7 i8 i9 i10 i13 i15;simp only[i1,i5,i6,i7,i8,i9,i10,i13,i15];clear i1 i5 i6 i7 i8 i9 i10 i13 i15;have mB:=W9.aG;have Q7:=(cell_of (W9.same _ (su.lt oL) id)).trans cL0;have akm:=(cell_of (W9.same _ (su.lt oL) id)).trans cL1;have akn:=(cell_of (W9.same _ (su.lt oL) id)).trans cL2;have aba:=(cell_of (W9.same _ (su.lt oW) id)).trans cW0;have oL9:=W9.more _ oL;have oW9:=W9.more _ oW;cases fd with
 |true =>
  obtain⟨Kj,h9,T9,hl9,-⟩:=Np.ss.cC.dH.grown (cP.refl su) W9;have hW9:=Np.k T9 h9;have hwp:IntKind.i64.wrap (s.num+1)=s.num+1:=by
   have:=(Iq mo abd).num;rw[en,gX,hPi,iK] at this;rw[IntKind.wrap_i64]<;>omega
  rw[en] at Q7;refine ax ?_;refine lz mB oL9 Q7 fun _=>?_;refine ax ?_;refine lz mB oW9 aba fun _=>?_;refine ax ?_;refine dD bS mB rfl ar ar ?_ rfl (v:=.agg #[.int .i64 (s.num+1),.slice pa s2.res.length ca,.slice tp s2.jX.length tc]) (fun wl aU=>?_) fun ako=>?_
  ·exact ng (bX oL9)
  ·have e0:=(aU.cell oL9).trans Q7;have e1:=(aU.cell oL9).trans akm;have e2:=(aU.cell oL9).trans akn;simp[go_sem,e0,e1,e2]
  aE;refine dz bS mB rfl ar ar ?_ rfl (R:=fun wl aW=>aW=((wl.setCell ⟨P.Wb,0,none⟩ (.int .i64 (s.num+1))).setCell ⟨P.Wb,1,none⟩ (.slice pa s2.res.length ca)).setCell ⟨P.Wb,2,none⟩ (.slice tp s2.jX.length tc)) (fun wl aU=>⟨_,?_,rfl⟩) fun wl aW YP aU abe bO=>?_
  ·exact ja (bX oW9) ako
  ·have e:=(aU.heap _ oW9).trans ((W9.same _ (su.lt oW) id).trans kW);obtain⟨e0,e1,e2,f0,f1,f2⟩:=eQ e;simp[go_sem,e0,e1,e2,f0,f1,f2]
  have hO:eK P.Wb wl aW:=by rw[abe];exact uM _ _ _ _ _ _ _ _
  obtain⟨afq,abf,afr⟩:=bO.only aU oW9 hO;have afs:=bO.aG;rw[afr] at afs |-;rw[abe,JX ((aU.heap _ oW9).trans ((W9.same _ (su.lt oW) id).trans kW))] at abf;rw[<- hP3] at afq abf;have XM:s2.res≠[]->ba<wy.heap.size:=fun q=>su.lt (EP q).2;obtain⟨P3,hQ1,hQ2,hQ3,hQ4,hQ5,FP,akp⟩:∃P3:HP,P3.hv=P2.hv/\P3.gE=P2.gE/\P3.Wb=P2.Wb/\P3.wn=s.num+1/\P3.wr=s2.res/\∃FP,HS o w S K rp rb rc rs NM NB P3 s2 FP Nf EL zd (i+1) o9 YP:=by
   obtain⟨FP,h⟩:=hW9.put (wn:=s.num+1) (pa:=pa) (ba:=ba) (ca:=ca) (tv:=.slice tp s2.jX.length tc) (wr:=s2.res) afs afq abf (fun q=>⟨(EP q).1,W9.more _ (EP q).2⟩) (by
    intro i hi;have e:=W9.same ba (XM (fun e=>by rw[e] at hi;simp at hi)) id;exact⟨(cell_of e).trans (Vo i hi).1,(cell_of e).trans (Vo i hi).2.1,(cell_of e).trans (Vo i hi).2.2⟩) ME (fun q=>⟨(hl9 ba (XM q)).trans (hb8 q).1,(hb8 q).2⟩)
   exact⟨{P2 with wn:=s.num+1,pa:=pa,ba:=ba,ca:=ca,tv:=.slice tp s2.jX.length tc,wr:=s2.res},rfl,rfl,rfl,rfl,rfl,FP,h⟩
  clear abe bO aU hO wl aW afr;refine ax ?_;exact⟨m-1,aa,i+1,aa,dp,dp,aI,aI,by simp[Act.eval,YW],P3,s2,FP,Nf,EL,zd,mF,mo,by simp[Act.eval,hQ1,hP1],aI,aI,by simp[Act.eval,hQ3,hP3],by rw[hQ2,YZ],XK,by rw[hQ4,en],hQ5,by rw[hQ2,hP2];exact Iq mo abd,akp⟩
 |false =>
  have hle:(mo:Int)<=(i:Int):=aa;have LL:¬(mo:Int)<0:=aa;have hm1:(mo:Int)<((i+1:Nat):Int):=aa;have XS:¬(i:Int)+1<=(mo:Int):=aa;have hm3:(mo:Int)<(i:Int)+1:=aa;have hml:mo<P2.gE.length:=aa;have hmv:mo<P2.x8.length:=by rw[Np.len];exact hml
  have hfm:=Np.files mo hml hmv;have jj:=Np.ok _ (aH hml);have ctk:=(cell_of (W9.same _ (su.lt ohb) id)).trans (qw mo hmv);have aq8:=W9.more _ ohb;obtain⟨gp,gb,gc,egv,-,-⟩:=hfm.ex;rw[egv] at hfm ctk;obtain⟨bv,Ve⟩:∃bv:Bool,bv=true↔lU rs NM AO P2.gE[mo] s2.res:=⟨@decide (lU rs NM AO P2.gE[mo] s2.res) (Classical.propDecidable _),aj⟩;have X8:IntKind.i64.wrap ((mo:Int)+1)=((mo+1:Nat):Int):=by rw[IntKind.wrap_i64]<;>omega
  refine ax ?_;refine dS mixed ah [some none,some none,some (some (.slice pa s2.res.length ca)),some none,some none,some none,some (some (.slice gp P2.gE[mo].length gc)),some (some (.bool bv)),some none]
   (S:=fun σ o' w'=>bB (fun _=>False) ox wy o' w') W9 fun v9=>?_
  refine dR ?_;refine cE ?_;refine cq bS rfl rfl rfl ar ar (fun σ o' w' H hS=>?_) ?_
  ·exact tM hS.aG (hS.more _ oL) ((cell_of (hS.same _ (su.lt oL) id)).trans cL1)
  refine cE ?_;refine cq bS rfl rfl rfl ar ar (fun σ o' w' H hS=>?_) ?_
  ·have e:=(cell_of (hS.same _ (su.lt ohb) id)).trans (qw mo hmv);rw[egv] at e;exact tM hS.aG (hS.more _ ohb) e
  aE;refine jU rfl rfl ar rfl func25 ah rfl (av:=#[.pointer (some ⟨S,0,none⟩),.slice pa s2.res.length ca,.slice gp P2.gE[mo].length gc]) aI (fun σ o' w' H hS=>?_) ?_
  ·refine(KQ Np.ss.cC Np.ss.hand hfm jj ba ca pa s2.res ME EP Vo hS).mono ?_;rintro y o10 YP ⟨W10,l,hl,rfl⟩;refine⟨?_,W10⟩
   congr 1
   rw[dM,Ve,decide_eq_true_iff];exact⟨fun e=>e▸hl,fun e=>e.one hl⟩
  refine cE ?_;refine cD fun σ o10 YP mC hS=>?_;clear mC;simp only[iM,dK,if_true,if_false,reduceIte,Nat.reduceEqDiff];cases bv with
  |true =>
   refine ax ?_;exact⟨0,by simp at hk;omega,mo,true,aj,abd,dp,dp,aI,aI,aI,aI,aI,aI,aI,aI,aI,hS⟩
  |false =>
   have dJ:mo≠mm:=fun e=>by
    subst e;have:(false:Bool)=true:=Ve.2 (by simp only[hP2];exact hM);cases this
   refine ax ?_;exact⟨mm+1-(mo+1),by simp at hk;omega,mo+1,false,aj,aa,dp,dp,aI,aI,aI,aI,aI,aI,by simp[Act.eval,X8],aI,aI,hS⟩
end
open Go
section
open YtgjekaaknjgnmaaGreatDoor
theorem abg:p6 8 Tryz.f8:=fun Fin o w hF pow p b off c rw hR q qb Bg d xs hX=>by
 letI:Go.ConcR.Payload:=⟨0⟩
 exact XL hF pow p b off c rw hR q qb Bg d xs hX
end
end Go.Proofs.Kz
namespace Go.Proofs.YtgjekaaknjgnmaaGreatDoor
theorem whole_claim:Rows.WholeCardSaid:=Go.Proofs.Kz.whole_done
end Go.Proofs.YtgjekaaknjgnmaaGreatDoor
