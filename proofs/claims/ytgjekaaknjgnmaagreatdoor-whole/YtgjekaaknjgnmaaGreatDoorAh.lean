import Derived.Test.YtgjekaaknjgnmaaGreatDoorAg
import Derived.Carry
import Derived.Conc.HoldsTime
import Derived.LaidLaws
import Derived.LaidMore
import Derived.Stop.Joined
import Derived.Test.YtgjekaaknjgnmaaGreatDoorCards
import Derived.Test.YtgjekaaknjgnmaaGreatDoorTie
set_option linter.all false
set_option maxHeartbeats 40000000
set_option maxRecDepth 200000
namespace Go.Proofs.Kz
open Go.Proofs.Tryz
open Go.Proofs.Tryz renaming prog → au
open _root_.ByteArray renaming empty → aP
open Go.Ren Go.Conc Go.Proofs Go.ConcN
section
open Go.ChangeShapes Go.WideShapes Go.Deep
section
variable {H:Type} {enc:TypeId×Value->H} {W:ae} {base:Nat}
theorem tF{P:Program}{t e:TypeId}{v:Value}(ht:P.underlying t=some (.slice e))(h:Value.okWide P W .any base t v):∃a l c,v=.slice a l c:=by
 unfold Value.okWide at h;rw[ht] at h;simp only at h;unfold Cell.okWide at h;rw[ht] at h;cases v with
 |slice a l c=>exact⟨a,l,c,rfl⟩
 |_=>simp[Cell.ok,ht] at h
theorem KB{n:Int}(h:(Lit.int .i64 n).wf=true):-9223372036854775808<=n/\n<=9223372036854775807:=by
 simp[Lit.wf,IntKind.min,IntKind.max,IntKind.signed,IntKind.bits] at h;omega
structure OF(W:ae)(a:Addr)(i:Nat)(r:EH):Prop where
 c0:W.cell? (a.add (i*2))=some (.int .i64 r.eU)
 c1:W.cell? (a.add (i*2+1))=some (.slice r.sa r.ins.length r.sc)
 ptr:r.ins≠[]->r.sa=some ⟨r.ib,r.Un,none⟩/\r.ib<W.heap.size
 ins:∀j (h:j<r.ins.length),W.cell? ⟨r.ib,r.Un+j,none⟩=some (.int .i64 r.ins[j])
 Xg:(-9223372036854775808<=r.eU/\r.eU<=9223372036854775807)/\∀x∈r.ins,-9223372036854775808<=x/\x<=9223372036854775807
 ET:r.ins.length<=9223372036854775807
theorem DD{b off i:Nat}:(⟨b,off,none⟩:Addr).add i=⟨b,off+i,none⟩:=by
 unfold Addr.add;split
 ·rename_i h;subst h;rfl
 ·rfl
theorem Us{v:Value}{d:DataW H}{ps:List MemPlace}(hv:Value.okWide au W .any base 25 v)(h:DataW.Trod enc au W 0 (fun _=>true) true 25 v d ps):
  ∃p b off c rw,v=.slice p (List.length rw) c/\(rw≠[]->p=some ⟨b,off,none⟩/\b<W.heap.size)/\(∀i (h:i<rw.length),OF W ⟨b,off,none⟩ i rw[i])/\rw.length<=9223372036854775807:=by
 haveI:Inhabited EH:=⟨⟨0,[],none,0,0,0⟩⟩
 obtain⟨a0,l0,cp0,rfl⟩:=tF underlying25 hv;obtain⟨fuel,h⟩:=h;have hc:(Value.slice a0 l0 cp0).cells.toList=[.slice a0 l0 cp0]:=rfl;rw[hc] at h;rcases open_slice_pairs underlying25 underlying132 ah rfl rfl ah ah h with⟨e,-⟩|⟨a,len,cap,m,n,V0,V1,D0,D1,P0,P1,e,-,hl,hm,YN,-,iG⟩
 ·simp only[cx,Value.slice.injEq,and_true] at e;obtain⟨rfl,rfl,rfl⟩:=e;exact⟨none,0,0,0,[],rfl,fun q=>absurd rfl q,fun i hi=>by simp at hi,aj⟩
 simp only[cx,Value.slice.injEq,and_true] at e;obtain⟨rfl,rfl,rfl⟩:=e;simp only[if_true] at YN;subst YN;have each:∀i,i<l0->∃r,OF W a i r:=by
  intro i hi;obtain⟨k0,k1,t0,t1⟩:=iG i aa;obtain⟨x,ex,-,wx⟩:=DataW.trod_int underlying3 t0;simp only[cx,and_true] at ex;rw[ex] at k0;rcases open_ints underlying130 underlying3 ah t1 with⟨e1,-⟩|⟨a1,Ut,ajb,zs,e1,-,yS,hm1,hz,-,hcz,hwz⟩
  ·simp only[cx,and_true] at e1;rw[e1] at k1;exact⟨⟨x,[],none,0,0,0⟩,k0,k1,fun q=>absurd rfl q,fun j hj=>by simp at hj,⟨KB wx,aj⟩,aj⟩
  ·simp only[cx,and_true] at e1;rw[e1] at k1;simp only[if_true] at hz;have hlz:(zs.take Ut).length=Ut:=dX;refine⟨⟨x,zs.take Ut,some a1,a1.block,a1.off,ajb⟩,k0,by rw[k1];simp only[hlz],fun q=>?_,fun j hj=>?_,⟨KB wx,fun y hy=>KB (hwz y (List.mem_of_mem_take hy))⟩,by simp only[hlz];have:=hm1;simp only[maxLen] at this;omega⟩
   ·have h0:0<Ut:=by
     rcases bh Ut with h0|h0
     ·subst h0;exact absurd aj q
     ·exact h0
    have Pf:=hcz 0 aa;have hs:=World.cell?_spot Pf;have hb:=World.block_lt_of_cell? W _ Pf;rw[block_add] at hb;obtain⟨b1,o1,s1⟩:=a1;have:s1=none:=by simpa[Addr.add] using hs
    subst this;exact⟨rfl,hb⟩
   ·simp only[hlz] at hj;have Pf:=hcz 0 aa;have hs:=World.cell?_spot Pf;obtain⟨b1,o1,s1⟩:=a1;have:s1=none:=by simpa[Addr.add] using hs
    subst this;have:=hcz j aa;rw[DD] at this;rw[this];simp[List.getD,bp (show j<zs.length by omega)]
 obtain⟨q,hq⟩:=choose_lt each;have hlen:((List.range l0).map q).length=l0:=aj;refine⟨some a,a.block,a.off,m,(List.range l0).map q,by rw[hlen],fun dJ=>?_,fun i hi=>?_,by rw[hlen];simp only[maxLen] at hm;omega⟩
 ·have h0:0<l0:=by
   rcases bh l0 with h0|h0
   ·subst h0;exact absurd aj dJ
   ·exact h0
  have Pf:=(hq 0 h0).c0;have hs:=World.cell?_spot Pf;have hb:=World.block_lt_of_cell? W _ Pf;rw[block_add] at hb;obtain⟨b1,o1,s1⟩:=a;have:s1=none:=by simpa[Addr.add] using hs
  subst this;exact⟨rfl,hb⟩
 ·rw[hlen] at hi;have hs:=World.cell?_spot (hq 0 aa).c0;obtain⟨b1,o1,s1⟩:=a;have:s1=none:=by simpa[Addr.add] using hs
  subst this;simpa using hq i hi
structure M8(W:ae)(a:Addr)(i:Nat)(x:Int×Int×Int):Prop where
 c0:W.cell? (a.add (i*3))=some (.int .i64 x.1)
 c1:W.cell? (a.add (i*3+1))=some (.int .i64 x.2.1)
 c2:W.cell? (a.add (i*3+2))=some (.int .i64 x.2.2)
 Xg:(-9223372036854775808<=x.2.1/\x.2.1<=9223372036854775807)/\(-9223372036854775808<=x.2.2/\x.2.2<=9223372036854775807)
theorem Uu{v:Value}{d:DataW H}{ps:List MemPlace}(hv:Value.okWide au W .any base 26 v)(h:DataW.Trod enc au W 0 (fun _=>true) true 26 v d ps)(hw:∀x∈d.weights au 26,x<=reachBytes):
  ∃p b off c xs,v=.slice p (List.length xs) c/\(xs≠[]->p=some ⟨b,off,none⟩/\b<W.heap.size)/\(∀i (h:i<xs.length),M8 W ⟨b,off,none⟩ i xs[i])/\xs.length*24<=140737488355328:=by
 obtain⟨a0,l0,cp0,rfl⟩:=tF underlying26 hv;obtain⟨fuel,h⟩:=h;have hc:(Value.slice a0 l0 cp0).cells.toList=[.slice a0 l0 cp0]:=rfl;rw[hc] at h;have ce:au.cellsOf 30=3:=ah;have c3:au.cellsOf 3=1:=ah;have by_:au.bytesOf 30=24:=ah;rcases open_slice underlying26 h with⟨e,-⟩|⟨a,len,cap,m,n,D,Pl,e,-,hl,hm,YN,hx,iG⟩
 ·simp only[cx,Value.slice.injEq,and_true] at e;obtain⟨rfl,rfl,rfl⟩:=e;exact⟨none,0,0,0,[],rfl,fun q=>absurd rfl q,fun i hi=>by simp at hi,aj⟩
 simp only[cx,Value.slice.injEq,and_true] at e;obtain⟨rfl,rfl,rfl⟩:=e;simp only[if_true] at YN;subst YN;have each:∀i,i<l0->∃x:Int×Int×Int,M8 W a i x:=by
  intro i hi;obtain⟨DV,h1,h2⟩:=iG i aa;rw[ce] at h1;obtain⟨_,hlen,lY⟩:=World.cells?_some h1;obtain⟨xs,k,hk,XQ,_,hxl,hf⟩:=DataW.trod_struct underlying30 h2
  match DV,hlen with
  | [v0,v1,v2],_ =>
   have g0:=hf 0 _ rfl;have g1:=hf 1 _ rfl;have g2:=hf 2 _ rfl;have e0:=lY 0 aa;have e1:=lY 1 aa;have e2:=lY 2 aa;rw[add_add] at e0 e1 e2
   match xs,hxl with
   | [y0,y1,y2],_ =>
    simp[c3] at g0 g1 g2;obtain⟨n0,k0,-,w0⟩:=DataW.trod_int underlying3 g0;obtain⟨n1,k1,-,w1⟩:=DataW.trod_int underlying3 g1;obtain⟨n2,k2,-,w2⟩:=DataW.trod_int underlying3 g2;simp only[cx,and_true] at k0 k1 k2;subst k0 k1 k2;exact⟨(n0,n1,n2),by simpa using e0,by simpa using e1,by simpa using e2,KB w1,KB w2⟩
 obtain⟨q,hq⟩:=choose_lt each;have hlen:((List.range l0).map q).length=l0:=aj;have A7:l0*24<=140737488355328:=by
  have hd:=(Prod.mk.inj hx).1;have:=hw ((l0+(m-l0))*24) (by
   rw[hd];simp only[DataW.weights,underlying26,by_,List.length_map,List.length_range];exact jI)
  simp only[reachBytes] at this;omega
 refine⟨some a,a.block,a.off,m,(List.range l0).map q,by rw[hlen],fun dJ=>?_,fun i hi=>?_,by rw[hlen];exact A7⟩
 ·have h0:0<l0:=by
   rcases bh l0 with h0|h0
   ·subst h0;exact absurd aj dJ
   ·exact h0
  have Pf:=(hq 0 h0).c0;have hs:=World.cell?_spot Pf;have hb:=World.block_lt_of_cell? W _ Pf;rw[block_add] at hb;obtain⟨b1,o1,s1⟩:=a;have:s1=none:=by simpa[Addr.add] using hs
  subst this;exact⟨rfl,hb⟩
 ·rw[hlen] at hi;have hs:=World.cell?_spot (hq 0 aa).c0;obtain⟨b1,o1,s1⟩:=a;have:s1=none:=by simpa[Addr.add] using hs
  subst this;simpa using hq i hi
end
end
section
variable {Fin:bL} {d:Nat} {o:aN} {w:ae} {K:pG} {s:gV} {lk:Int} {lab:Nat->Nat} {fn:FuncId} {Q:Exit->Act->aN->ae->Prop} {a:Act} {ops:Array Oper} {i j:Nat} {rest:List Nat} {t:Tmp} {e1 e2:Oper}
structure Var(o:aN)(w:ae)(K:pG)(s:gV)(lk:Int)(lab:Nat->Nat)(D:Nat)(c:Obj)(o':aN)(w':ae)(lab':Nat->Nat):Prop where
 dH:bo o' w' K s lk lab'
 step:cP o w lab o' w' lab'
 bt:bB (fun _=>False) o w o' w'
 own:o' D
 xp:lab' D=7
 blk:w'.heap[D]?=some c
 old:∀b,b<w.heap.size->lab' b=lab b/\w'.heap[b]?=w.heap[b]?
theorem tn(n:Int)(y:af)(h:bo o w K s lk lab)(k:∀D o' w' lab',D=w.heap.size->Var o w K s lk lab D (.cells #[.int .i64 n,.string y] 32) o' w' lab'->fa (XB au Fin d) fn ops rest Q ((a.put (some t) (.pointer (some ⟨D,0,none⟩))).put none undef) o' w')(h1:ops[i]?=some e1:=by rfl)(h2:Region.wanted e1 (yielded ops a.tmps)=true:=by rfl)(h3:e1.op=.alloc 32:=by rfl)(h4:e1.dst=some t:=by rfl)(h5:ops[j]?=some e2:=by rfl)(h6:∀p,Region.wanted e2 (yielded ops (a.put (some t) p).tmps)=true:=by intro p;rfl)(h7:∃x,e2.op=.store 32 (.tmp t) x/\∀p,(a.put (some t) p).eval x=.agg #[.int .i64 n,.string y]:=by exact⟨_,rfl,fun p=>rfl⟩)(h8:e2.dst=none:=by rfl)(h9:∀p,(a.put (some t) p).eval (.tmp t)=p:=by intro p;rfl):fa (XB au Fin d) fn ops (i::j::rest) Q a o w:=by
 obtain⟨x,h7,nH⟩:=h7;obtain⟨_,_,_,_,_,_⟩:=e1;obtain⟨_,_,_,_,_,_⟩:=e2;simp only at h3 h4 h7 h8;subst h3 h4 h7 h8;refine dv bS h.aG h1 h2 ar ni rfl (R:=fun wl v aW=>v=.pointer (some ⟨wl.heap.size,0,none⟩)/\aW=wl.alloc (Obj.cells #[.int .i64 0,.string aP] 32)) (fun wl aU=>⟨_,_,by first|(simp[go_sem];done)|(simp[go_sem];rfl),rfl,rfl⟩) fun wl v1 aW w3 aU nK bO=>?_;obtain⟨rfl,nK⟩:=nK;obtain⟨z3,k3,sJ⟩:=bO.alloc h.aG aU nK;obtain⟨W3,oD⟩:=bB.qF bO.aG z3 k3;rw[aU.size];clear nK bO aU wl aW;obtain⟨kQ,h3,T3,Bz,Oz⟩:=h.grown (cP.refl h.aG) W3;generalize Go.Ren.grow o w w3=o3 at *;refine mE n y h3.aG oD sJ (fun w4 tB vx kD4=>?_) h5 (h6 _) ⟨_,x,rfl,h9 _,nH _⟩ rfl;obtain⟨h4,T4⟩:=h3.wrote T3 (Oz _ (ag _)) (ag _) tB vx;exact k _ _ _ kQ rfl ⟨h4,T4,⟨tB,W3.more,W3.new,by rw[vx.1];exact W3.size,fun b hb hx=>(vx.2 b aa).trans (W3.same b hb hx)⟩,oD,Oz _ (ag _),kD4,fun b hb=>⟨Bz b hb,(vx.2 b aa).trans (k3 b hb)⟩⟩
theorem Ho(n:Int)(p:Option Addr)(l c:Nat)(q:Option Addr)(m e:Nat)(h:bo o w K s lk lab)(hp:Cl au L0 o (.slice p l c))(ht:Cl au L0 o (.slice q m e))(k:∀D o' w' lab',D=w.heap.size->Var o w K s lk lab D (.cells #[.int .i64 n,.slice p l c,.slice q m e] 59) o' w' lab'->fa (XB au Fin d) fn ops rest Q ((a.put (some t) (.pointer (some ⟨D,0,none⟩))).put none undef) o' w')(h1:ops[i]?=some e1:=by rfl)(h2:Region.wanted e1 (yielded ops a.tmps)=true:=by rfl)(h3:e1.op=.alloc 59:=by rfl)(h4:e1.dst=some t:=by rfl)(h5:ops[j]?=some e2:=by rfl)(h6:∀p,Region.wanted e2 (yielded ops (a.put (some t) p).tmps)=true:=by intro p;rfl)(h7:∃x,e2.op=.store 59 (.tmp t) x/\∀u,(a.put (some t) u).eval x=.agg #[.int .i64 n,.slice p l c,.slice q m e]:=by exact⟨_,rfl,fun p=>rfl⟩)(h8:e2.dst=none:=by rfl)(h9:∀p,(a.put (some t) p).eval (.tmp t)=p:=by intro p;rfl):fa (XB au Fin d) fn ops (i::j::rest) Q a o w:=by
 obtain⟨x,h7,nH⟩:=h7;obtain⟨_,_,_,_,_,_⟩:=e1;obtain⟨_,_,_,_,_,_⟩:=e2;simp only at h3 h4 h7 h8;subst h3 h4 h7 h8;refine dv bS h.aG h1 h2 ar ni rfl (R:=fun wl v aW=>v=.pointer (some ⟨wl.heap.size,0,none⟩)/\aW=wl.alloc (Obj.cells #[.int .i64 0,.slice none 0 0,.slice none 0 0] 59)) (fun wl aU=>⟨_,_,by first|(simp[go_sem];done)|(simp[go_sem];rfl),rfl,rfl⟩) fun wl v1 aW w3 aU nK bO=>?_;obtain⟨rfl,nK⟩:=nK;obtain⟨z3,k3,sJ⟩:=bO.alloc h.aG aU nK;obtain⟨W3,oD⟩:=bB.qF bO.aG z3 k3;rw[aU.size];clear nK bO aU wl aW;obtain⟨kQ,h3,T3,Bz,Oz⟩:=h.grown (cP.refl h.aG) W3;have hp3:=hp.up W3.more;have ht3:=ht.up W3.more;generalize Go.Ren.grow o w w3=o3 at *;refine dz bS h3.aG h5 (h6 _) ar ?_ rfl (R:=fun wl aW=>aW=((wl.setCell ⟨w.heap.size,0,none⟩ (.int .i64 n)).setCell ⟨w.heap.size,1,none⟩ (.slice p l c)).setCell ⟨w.heap.size,2,none⟩ (.slice q m e)) (fun wl aU=>⟨_,?_,rfl⟩) fun wl aW w4 aU BB bO=>?_
 ·intro z hz;simp[Op.operands] at hz;rcases hz with rfl|rfl
  ·rw[h9];exact bX oD
  ·rw[nH];refine fX (vs:=[_,_,_]) (fun x hx=>?_);simp at hx;rcases hx with rfl|rfl|rfl
   ·exact dU
   ·exact hp3
   ·exact ht3
 ·obtain⟨e0,e1,e2,f0,f1,f2⟩:=eQ ((aU.heap _ oD).trans sJ);have q9:=h9 (.pointer (some ⟨w.heap.size,0,none⟩));have q10:=nH (.pointer (some ⟨w.heap.size,0,none⟩));generalize Act.eval (a.put (some t) (.pointer (some ⟨w.heap.size,0,none⟩)))=ev at q9 q10 |-;simp[go_sem,q9,q10,e0,e1,e2,f0,f1,f2]
 have hO:eK w.heap.size wl aW:=by rw[BB];exact uM _ _ _ _ _ _ _ _
 obtain⟨vx,kD4,ey⟩:=bO.only aU oD hO;have tB:=bO.aG;rw[ey] at tB |-;rw[BB,JX ((aU.heap _ oD).trans sJ)] at kD4;obtain⟨h4,T4⟩:=h3.wrote T3 (Oz _ (ag _)) (ag _) tB vx;exact k _ _ _ kQ rfl ⟨h4,T4,⟨tB,W3.more,W3.new,by rw[vx.1];exact W3.size,fun b hb hx=>(vx.2 b aa).trans (W3.same b hb hx)⟩,oD,Oz _ (ag _),kD4,fun b hb=>⟨Bz b hb,(vx.2 b aa).trans (k3 b hb)⟩⟩
end
def AO(x:af):Nat:=if x=iW 1 then 1 else if x=iW 2 then 2 else if x=iW 3 then 3 else if x=iW 4 then 4 else if x=iW 5 then 5 else if x=iW 6 then 6 else if x=iW 7 then 7 else 0
theorem yW{i:Nat}(h:i<8):AO (iW i)=i:=by
 have dJ:∀j,j<8->i≠j->iW i≠iW j:=fun j hj e q=>e (Kn h hj q);unfold AO;rcases Dr h with rfl|rfl|rfl|rfl|rfl|rfl|rfl|rfl;all_goals simp[dJ 1 aa,dJ 2 aa,dJ 3 aa,dJ 4 aa,dJ 5 aa,dJ 6 aa,dJ 7 aa]
theorem vB{x:af}(h1:1<=x.data.size)(h4:x.data.size<=4)(h:∀u∈x.data.toList,97<=u.toNat/\u.toNat<=122):isName x:=by
 refine⟨h1,h4,fun j hj _=>?_⟩;have:x[j]∈x.data.toList:=by
  show x.data[j]∈x.data.toList;simp
 exact h _ this
theorem AP{i:Nat}(h:i<8):isName (iW i):=by
 have e:=vz i h;refine vB (by rw[e];simp) (by rw[e];simp) (fun u hu=>?_);rw[e] at hu;rcases Dr h with rfl|rfl|rfl|rfl|rfl|rfl|rfl|rfl;all_goals (simp at hu;rcases hu with rfl|rfl<;>decide)
theorem tq{x:af}(h:x∈kX):isName x:=by
 simp only[kX,bK,dj,or_false] at h;rcases h with rfl|rfl|rfl|rfl|rfl|rfl;all_goals exact vB eA eA (fun u hu=>by simp at hu;subst hu;decide)
def nA(rs:List aJ)(NM:aJ->List af)(NB:aJ->Nat)(b g:Nat):Prop:=(rs≠[]/\g=b)\/∃r∈rs,NM r≠[]/\g=NB r
section
variable {Fin:bL} {o o':aN} {w w':ae} {K:pG} {s s':gV}
theorem RB.hand{v:Value}{rs:List aJ}{uX:Nat->List af}(h:RB o w v rs uX o' w')(hl:rs.length<=8):∃p b c,v=.slice p rs.length c/\Hand o' w' p b c rs (fun r=>uX (AO r.out)) (fun r=>(r.sa.map (·.block)).getD 0) AO/\(∀g,nA rs (fun r=>uX (AO r.out)) (fun r=>(r.sa.map (·.block)).getD 0) b g->w.heap.size<=g/\g<w'.heap.size):=by
 have pw:∀j (hj:j<rs.length),uX (AO rs[j].out)=uX j:=fun j hj=>by rw[(h.each j hj).1,yW aa]
 have hY:Du rs (fun r=>uX (AO r.out)) AO:=by
  refine⟨fun r hr=>?_,fun r hr x hx=>?_,fun r hr=>?_,?_,fun r hr x hx ho=>?_⟩
  ·obtain⟨j,hj,rfl⟩:=bf hr;rw[(h.each j hj).1];exact AP aa
  ·obtain⟨j,hj,rfl⟩:=bf hr;simp only[pw j hj] at hx;rcases(h.each j hj).2.2.2.1 x hx with q|⟨q,hq,rfl⟩
   ·exact tq q
   ·exact AP aa
  ·obtain⟨j,hj,rfl⟩:=bf hr;exact(h.each j hj).2.1
  ·refine List.pairwise_iff_getElem.2 fun i j hi hj Fi e=>?_;have mn:i<rs.length:=by simpa using hi
   have sk:j<rs.length:=by simpa using hj
   simp only[List.getElem_map,(h.each i mn).1,(h.each j sk).1] at e;have:=Kn aa aa e;omega
  ·obtain⟨j,hj,rfl⟩:=bf hr;simp only[pw j hj] at hx;rw[(h.each j hj).1,yW aa];rcases(h.each j hj).2.2.2.1 x hx with q|⟨q,hq,rfl⟩
   ·obtain⟨r2,GO,rfl⟩:=List.mem_map.1 ho;obtain⟨i,hi,rfl⟩:=bf GO;rw[(h.each i hi).1] at q;exact absurd q (FM i aa)
   ·rw[yW aa];exact hq
 have Cv:∀r∈rs,AO r.out<rs.length:=fun r hr=>by
  obtain⟨j,hj,rfl⟩:=bf hr;rw[(h.each j hj).1,yW aa];exact hj
 have zA:∀r∈rs,r.sl=(uX (AO r.out)).length/\(uX (AO r.out)≠[]->r.sa=some ⟨(r.sa.map (·.block)).getD 0,0,none⟩/\o' ((r.sa.map (·.block)).getD 0))/\fE w' ((r.sa.map (·.block)).getD 0) 0 (uX (AO r.out))/\(uX (AO r.out)).length<=4:=fun r hr=>by
  obtain⟨j,hj,rfl⟩:=bf hr;obtain⟨e1,e2,e3,e4,e5,e6⟩:=h.each j hj;rw[pw j hj];rcases e6 with⟨q1,q2⟩|⟨g,q1,q2,q3,q4,q5⟩
  ·rw[q2];exact⟨by rw[e5,q2],fun q=>absurd rfl q,(fun i hi=>by simp at hi),aj⟩
  ·rw[q1];exact⟨e5,fun _=>⟨rfl,h.jq.all g q2 q3⟩,q5,e3⟩
 have Sg:∀r∈rs,r.sa=none->uX (AO r.out)=[]:=fun r hr e=>by
  obtain⟨j,hj,rfl⟩:=bf hr;rw[pw j hj];rcases(h.each j hj).2.2.2.2.2 with⟨q1,q2⟩|⟨g,q1,-⟩
  ·exact q2
  ·rw[q1] at e;cases e
 have Pv:∀b,(rs≠[]->w.heap.size<=b/\b<w'.heap.size)->∀g,nA rs (fun r=>uX (AO r.out)) (fun r=>(r.sa.map (·.block)).getD 0) b g->w.heap.size<=g/\g<w'.heap.size:=fun b hb g hg=>by
  rcases hg with⟨q1,rfl⟩|⟨r,hr,q1,rfl⟩
  ·exact hb q1
  ·obtain⟨j,hj,rfl⟩:=bf hr;simp only[pw j hj] at q1;rcases(h.each j hj).2.2.2.2.2 with⟨-,q2⟩|⟨g,q2,q3,q4,-⟩
   ·exact absurd q2 q1
   ·simp only[q2,aK,br];exact⟨q3,q4⟩
 have cp:=h.row.row;have fB:=h.row.cl;obtain⟨h0,hc⟩:=h.row.row;rcases hc with⟨e1,e2⟩|⟨g,cap,cur,e1,k1,k2,k3,k4,k5,k6⟩
 ·have QU:=List.length_eq_zero_iff.1 e2;subst e1;refine⟨none,0,0,by rw[e2],⟨hl,fun q=>absurd QU q,fun _=>QU,fun i hi=>by rw[QU] at hi;simp at hi,by rw[e2];exact iU,aa,zA,Sg,hY,Cv⟩,Pv 0 fun q=>absurd QU q⟩
 ·subst e1;have Tq:g<w'.heap.size:=(Array.getElem?_eq_some_iff.1 k2).1;refine⟨some ⟨g,0,none⟩,g,cap,rfl,⟨hl,fun _=>⟨rfl,h.jq.all g k1 Tq⟩,(fun e=>by cases e),fun i hi=>?_,fB,k3,zA,Sg,hY,Cv⟩,Pv g fun _=>⟨k1,Tq⟩⟩;have lY:∀j u,(eO rs)[j]?=some u->w'.cell? ⟨g,j,none⟩=some u:=fun j u hu=>by
   have:=cp.cells (g:=g) rfl j u hu;have ha:(⟨g,0,none⟩:Addr).add j=⟨g,j,none⟩:=by simp[Addr.add];omega
   rw[ha] at this;exact this
  obtain⟨c0,c1,c2⟩:=oy rs i hi;exact⟨lY _ _ c0,lY _ _ c1,lY _ _ c2⟩
theorem jZ.aaM{F:da}{file:af->V}{v:Value}(h:jZ K s s' F file v)(hp:s.phase<=1)(hq:0<s.qn.length):v=did 1 aP/\s'=gV.stand {s with qv:=.slice none 0 0,qn:=[],lost:=false} 1 s.time:=by
 rcases h with⟨h2,-⟩|⟨h2,-⟩|⟨-,-,h4⟩
 ·omega
 ·omega
 ·rcases h4 with⟨-,e1,e2⟩|⟨q,-⟩|⟨q,-⟩
  ·exact⟨e1,e2⟩
  ·exact absurd (.inl hq) q
  ·exact absurd (.inl hq) q
theorem jZ.start{F:da}{file:af->V}{v:Value}(h:jZ K s s' F file v)(hp:s.phase=1)(hq:s.qn=[])(hl:s.lost=false)(ht:s.since+5<=s.time):v=did 2 aP/\∃lo F' MW,s'={s.stand 2 0 with fd:=some (lo,F'),sv:=MW,src:=fq K.B.NM K.B.rs}:=by
 have hn:¬(0<s.qn.length\/s.lost=true):=by rw[hq,hl];simp
 rcases h with⟨h2,-⟩|⟨h2,-⟩|⟨-,-,h4⟩
 ·omega
 ·omega
 ·rcases h4 with⟨q,-⟩|⟨-,-,e1,e2⟩|⟨-,q,-⟩
  ·exact absurd q hn
  ·exact⟨e1,e2⟩
  ·exact absurd ⟨hp,ht⟩ q
theorem jZ.aeK{F:da}{file:af->V}{v:Value}(h:jZ K s s' F file v)(hp:s.phase=2)(hr:s.rd.length<s.src.length):v=did 3 s.src[s.rd.length]/\∃MU,s'={s with rv:=MU,rd:=s.rd++[(dW s.th s.src[s.rd.length],cm s.st s.src[s.rd.length])]}:=by
 rcases h with⟨-,h3⟩|⟨h2,-⟩|⟨h2,-,-⟩
 ·rcases h3 with⟨q,-⟩|⟨q,e1,e2⟩
  ·omega
  ·exact⟨e1,e2⟩
 ·omega
 ·exact absurd hp h2
theorem jZ.check{F:da}{file:af->V}{v:Value}(h:jZ K s s' F file v)(hp:s.phase=2\/s.phase=3)(hr:s.rd.length=s.src.length)(hc:s.ck<s.src.length)(Io:s.ck<s.rd.length)(he:cm s.st s.src[s.ck]=s.rd[s.ck].2):v=did 4 s.src[s.ck]/\s'={s with phase:=3,ck:=s.ck+1}:=by
 have Kx:∀s s':gV,Checked K s s' F file v->s.ck<s.src.length->∀(hc:s.ck<s.src.length) (Io:s.ck<s.rd.length),cm s.st s.src[s.ck]=s.rd[s.ck].2->v=did 4 s.src[s.ck]/\s'={s with ck:=s.ck+1}:=fun s s' h hk hc Io he=>by
  rcases h with⟨q,-⟩|⟨q1,q2,⟨q3,-⟩|⟨-,e1,e2⟩⟩
  ·omega
  ·exact absurd he q3
  ·exact⟨e1,e2⟩
 rcases h with⟨-,h3⟩|⟨h2,h3⟩|⟨h2,h3,-⟩
 ·rcases h3 with⟨-,q⟩|⟨q,-⟩
  ·exact Kx {s with phase:=3} s' q hc hc Io he
  ·omega
 ·obtain⟨e1,e2⟩:=Kx s s' h3 hc hc Io he;exact⟨e1,by rw[e2,<- h2]⟩
 ·exact absurd hp aa
theorem jZ.Xn{F:da}{file:af->V}{v:Value}(h:jZ K s s' F file v)(hp:s.phase=3)(hc:s.ck=s.src.length):v=did 6 aP/\YE K s s' F file:=by
 rcases h with⟨h2,-⟩|⟨-,h3⟩|⟨-,h3,-⟩
 ·omega
 ·rcases h3 with⟨-,e1,e2⟩|⟨q,-⟩
  ·exact⟨e1,e2⟩
  ·omega
 ·exact absurd hp h3
end
open Go.ConcR (Payload)
section
variable {Fin:bL} {o o' o1 o2 o3:aN} {w w' w1 w2 w3:ae} {K:pG} {lab dt fW lab':Nat->Nat}
def Kept(o:aN)(w:ae)(lab:Nat->Nat)(L:List (Nat×Obj)):Prop:=∀p∈L,o p.1/\lab p.1=7/\w.heap[p.1]?=some p.2
theorem Kept.lt{L:List (Nat×Obj)}(h:Kept o w lab L):∀p∈L,p.1<w.heap.size:=fun p hp=>(Array.getElem?_eq_some_iff.1 (h p hp).2.2).1
theorem Kept.step{L:List (Nat×Obj)}(h:Kept o w lab L)(S:cP o w lab o' w' lab'):Kept o' w' lab' L:=fun p hp=>by
 obtain⟨h1,h2,h3⟩:=h p hp;have hl:=h.lt p hp;exact⟨S.bt.more _ h1,(S.lab _ hl).trans h2,(S.bt.same _ hl (by rw[h2];omega)).trans h3⟩
theorem Kept.var{K:pG}{s:gV}{lk:Int}{D:Nat}{x:Obj}{L:List (Nat×Obj)}(h:Kept o w lab L)(V:Var o w K s lk lab D x o' w' lab'):Kept o' w' lab' ((D,x)::L):=fun p hp=>by
 rcases List.mem_cons.1 hp with rfl|hp
 ·exact⟨V.own,V.xp,V.blk⟩
 ·obtain⟨h1,h2,h3⟩:=h p hp;have l:=h.lt p hp;exact⟨V.bt.more _ h1,(V.old _ l).1.trans h2,(V.old _ l).2.trans h3⟩
theorem cP.old(S:cP o1 w1 dt o' w' lab')(hW:bB (fun _=>False) o w o1 w1)(hl:∀b,b<w.heap.size->7<=dt b):bB (fun _=>False) o w o' w':=by
 have z1:=hW.size;have z2:=S.bt.size;exact⟨S.bt.aG,fun b hb=>S.bt.more b (hW.more b hb),fun b hb=>(S.bt.new b hb).elim (fun q=>hW.new b q) fun q=>.inr aa,aa,fun b hb hx=>(S.bt.same b aa (by have:=hl b hb;omega)).trans (hW.same b hb hx)⟩
theorem Hp:au.globals.size=4:=ah
theorem Uv(hF:bN au L0 o w):o 1:=hF.kz 1 (by rw[Hp];omega)
theorem aeL:au.underlying 36=some (.pointer (au.pointee 36)):=ah
theorem aeM:au.underlying 27=some (.pointer (au.pointee 27)):=ah
def aB:af:=⟨#[97]⟩
def zB:af:=⟨#[122]⟩
def OG:af:=⟨#[120,121]⟩
def yxB:af:=⟨#[121,120]⟩
theorem Uw:aB≠zB:=fun e=>by have:=congrArg ByteArray.data e;revert this;decide
theorem OH:isName aB:=vB eA eA (fun u hu=>by simp[aB] at hu;subst hu;decide)
theorem Xo:isName zB:=vB eA eA (fun u hu=>by simp[zB] at hu;subst hu;decide)
theorem Ux{l:List af}{a:af}(hn:l.Nodup)(h:∀x,x∈l↔x=a):l=[a]:=by
 match l,hn,h with
 | [],_,h=>exact absurd ((h a).2 rfl) aj
 | [x],_,h=>rw[(h x).1 aj]
 |x::y::l,hn,h =>
  have e1:=(h x).1 aj;have e2:=(h y).1 aj;rw[dc] at hn;exact absurd (by rw[e1,e2];simp) hn.1
theorem Hq{α:Type}{l:List α}{a:α}(h:l=[a]):∀(i:Nat) (hi:i<l.length),l[i]=a:=by
 subst h;intro i hi;have:i=0:=by simpa using hi
 subst this;rfl
def OI(Ab:Nat):aJ:=⟨zB,2,some ⟨Ab,0,none⟩,1,1⟩
theorem aeN{Ab Rl:Nat}(h1:w.heap[Ab]?=some (.cells #[.string aB] 9))(h2:w.heap[Rl]?=some (.cells #[.string zB,.int .i64 2,.slice (some ⟨Ab,0,none⟩) 1 1] 42))(o1:o Ab)(o2:o Rl):Hand o w (some ⟨Rl,0,none⟩) Rl 1 [OI Ab] (fun _=>[aB]) (fun _=>Ab) (fun _=>0):=by
 refine⟨aj,fun _=>⟨rfl,o2⟩,(fun e=>by cases e),fun i hi=>?_,ee o2,aj,fun r hr=>?_,fun r hr e=>?_,⟨fun r hr=>?_,fun r hr x hx=>?_,fun r hr=>?_,aj,fun r hr x hx ho=>?_⟩,aj⟩
 ·have hi0:i=0:=by simpa using hi
  subst hi0;obtain⟨c0,c1,c2,-⟩:=eQ h2;exact⟨c0,c1,c2⟩
 ·simp at hr;subst hr;exact⟨rfl,fun _=>⟨rfl,o1⟩,(fun k hk=>by
   have HU:k=0:=by simpa using hk
   subst HU;exact(C9 h1).1),aj⟩
 ·simp at hr;subst hr;cases e
 ·simp at hr;subst hr;exact Xo
 ·simp at hx;subst hx;exact OH
 ·simp at hr;subst hr;exact⟨by simp[OI],by simp[OI]⟩
 ·simp at hx ho;subst hx;exact absurd ho Uw
theorem aeO{B:vt}{Ab:Nat}(h:gC [OI Ab] (fun _=>[aB]) (fun _=>0) B):∃r,B.rs=[r]/\r.out=zB/\r.eU=2/\B.NM r=[aB]:=by
 obtain⟨r,hr⟩:=List.length_eq_one_iff.1 h.len;have:=h.at_ 0 aj (by rw[h.len];simp);simp only[hr,List.getElem_cons_zero] at this;exact⟨r,hr,this⟩
theorem aje{B:vt}{r:aJ}(h1:B.rs=[r])(h2:r.out=zB)(h3:B.NM r=[aB]):fq B.NM B.rs=[aB]:=by
 refine Ux (oZ _).1.nodup fun x=>?_;rw[sw,h1];simp only[List.mem_singleton,exists_eq_left,aA,aQ,h2,h3];exact⟨fun q=>q.1,fun q=>⟨q,by rw[q];exact Uw⟩⟩
theorem aeP:jc 2 [(true,OG)]=(true,yxB):=ah
theorem ajf{B:vt}{r:aJ}{F:da}{file:af->V}(h1:B.rs=[r])(h2:r.out=zB)(h3:B.NM r=[aB])(h4:r.eU=2)(hp:F.cu.Perm B.rs)(hR:mD B.rs B.NM B.RK)(hf:file aB=(true,OG)):nZ B F file=[(zB,(true,yxB))]:=by
 have e:F.cu=[r]:=by rw[h1] at hp;exact List.perm_singleton.1 hp
 have hv:valOf B.rs B.NM file zB=(true,yxB):=by
  have:=FD hR file (r:=r) (by rw[h1];simp);rw[h2,h3,h4] at this;rw[this,aA,aQ,FE file (by rw[h1];simp[h2];exact Uw),hf];exact aeP
 have ho:qW F.cu 0=zB:=by rw[e];exact h2
 simp only[nZ,h1,List.length_singleton,List.range_one,aA,aQ,ho,lC];rw[<- h1,hv]
theorem Xp[Payload](hF:bN au L0 o w)(pow:jb w):
  bA au (XB au Fin 0) 32 #[] o w fun v o' w'=>v=.bool true/\bB (fun _=>False) o w o' w':=by
 have W:=bY (P:=au) (Fin:=Fin) (d:=0);refine bD W func32 ar ?_;bP Tryz.f32;refine ax ?_;refine dv bS hF rfl ar ar ?_ rfl (R:=fun wl v aW=>v=.slice (some ⟨wl.heap.size,0,none⟩) 1 1/\aW=wl.alloc (.cells #[.string aB] 9)) (fun wl aU=>⟨_,_,by first|(simp[go_sem,Act.eval,aB];done)|(simp[go_sem,Act.eval,aB];rfl),rfl,rfl⟩) fun wl v1 aW w1 aU hR bO=>?_
 ·exact ng bU
 obtain⟨rfl,hR⟩:=hR;obtain⟨z1,k1,tN⟩:=bO.alloc hF aU hR;obtain⟨W1,xa⟩:=bB.qF bO.aG z1 k1;rw[aU.size];clear hR bO aU wl aW;generalize grow o w w1=o1 at *;refine ax ?_;refine dv bS W1.aG rfl ar ar ?_ rfl (R:=fun wl v aW=>v=.slice (some ⟨wl.heap.size,0,none⟩) 1 1/\aW=wl.alloc (.cells #[.string zB,.int .i64 2,.slice (some ⟨w.heap.size,0,none⟩) 1 1] 42)) (fun wl aU=>⟨_,_,by first|(simp[go_sem,Act.eval,zB];done)|(simp[go_sem,Act.eval,zB];rfl),rfl,rfl⟩) fun wl v1 aW w2 aU hR bO=>?_
 ·refine ng ?_;refine fX (vs:=[_,_,_]) (fun x hx=>?_);simp at hx;rcases hx with rfl|rfl|rfl
  ·exact bU
  ·exact dU
  ·exact ee xa
 obtain⟨rfl,hR⟩:=hR;obtain⟨z2,k2,Oy⟩:=bO.alloc W1.aG aU hR;obtain⟨W2,I4⟩:=bB.qF bO.aG z2 k2;rw[aU.size];clear hR bO aU wl aW;generalize grow o1 w1 w2=o2 at *;have hH:=aeN ((k2 _ aa).trans tN) Oy (W2.more _ xa) I4;have l1:=hF.lt (Uv hF);have aaN:jb w2:=fun q hq=>(cell_of ((k2 1 aa).trans (k1 1 l1))).trans (pow q hq);clear z1 z2;refine ax ?_;refine dC W rfl ar rfl func34 ah rfl (by first|(simp[Act.eval];done)|(simp[Act.eval];rfl)) rfl ((YJ W2.aG hH aaN).mono ?_);rintro v3 o3 w3 ⟨K,pb,kQ,rfl,h3,W3,KC,Bz,-⟩;obtain⟨r,lE,GO,hr4,Er⟩:=aeO KC;have WN:=(W1.trans W2).trans W3;have z2:=(W1.trans W2).size;have ajg:∀b,b<w.heap.size->7<=kQ b:=fun b hb=>(Bz b aa).1;have u3:=Uj K pb;have S3:cP o3 w3 kQ o3 w3 kQ:=cP.refl h3.aG;have P3:Kept o3 w3 kQ []:=(fun p hp=>by simp at hp);have e31:(s0 pb).th=[]:=rfl;have e32:(s0 pb).phase=0:=rfl;have e33:(s0 pb).time=0:=rfl;have e34:(s0 pb).num=0:=rfl;have e35:(s0 pb).st=[]:=rfl;have e36:(s0 pb).qn=[]:=rfl;have e37:(s0 pb).lost=false:=rfl;generalize s0 pb=s3 at *;refine ax ?_;refine dD bS h3.aG rfl ar ar ?_ rfl (v:=.bool false) (fun wl aU=>by simp[go_sem,aeL]) fun _=>?_
 ·exact ja (bX h3.own) yl
 refine ax ?_;refine dC W rfl ar rfl func21 ah rfl (by simp[Act.eval,aB,OG]) rfl ((TY h3 aB OG eA).mono ?_);rintro v4 o4 w4 ⟨sF,T4,hq⟩;have wo:isName aB/\OG.size<=12/\¬(eW s3.th aB=none/\12<=s3.th.length):=⟨OH,eA,by rw[e31];simp⟩;rcases hq with⟨e,-,-,q,-⟩|⟨rfl,-,qX,h4⟩
 ·exact absurd wo q
 have u4:=u3.edit (x:=aB) (t:=OG) eA (gS s3.st aB (IntKind.i64.wrap (cm s3.st aB+1))) qX;have S4:=S3.trans T4;have P4:=P3.step T4;obtain⟨s4,hs4⟩:∃s4,s4={s3 with th:=gS s3.th aB OG,st:=gS s3.st aB (IntKind.i64.wrap (cm s3.st aB+1)),qv:=qX,qn:=(jH s3.qn s3.lost aB).1,lost:=(jH s3.qn s3.lost aB).2}:=⟨_,rfl⟩;rw[<- hs4] at h4 u4;have e41:s4.th=[(aB,OG)]:=by rw[hs4];simp only[e31];rfl
 have e42:s4.phase=0:=by rw[hs4];exact e32
 have e43:s4.time=0:=by rw[hs4];exact e33
 have e44:s4.num=0:=by rw[hs4];exact e34
 have e46:0<s4.qn.length:=by rw[hs4];simp only[e36,e37];decide
 clear hs4 S3 P3 u3 e31 e32 e33 e34 e35 e36 e37 wo;refine ax ?_;refine cj func38 (uU h4 u4) ?_;rintro v5 o5 w5 ⟨s5,pf,F5,Uy,hw5,u5,h5,T5⟩;have S5:=S4.trans T5;have P5:=P4.step T5;obtain⟨hv,hs⟩:=hw5.aaM aa e46;subst hv;have e51:s5.th=[(aB,OG)]:=by rw[hs];exact e41
 have e52:s5.phase=1:=by rw[hs];rfl
 have e53:s5.time=0:=by rw[hs];exact e43
 have e54:s5.num=0:=by rw[hs];exact e44
 have e55:s5.since=0:=by rw[hs];exact e43
 have e56:s5.qn=[]:=by rw[hs];rfl
 have e57:s5.lost=false:=by rw[hs];rfl
 clear hs hw5 e41 e42 e43 e44 e46;unfold did;refine ax ?_;refine tn 1 aP h5 fun D ox w6 Bd hD hV=>?_;have h6:=hV.dH;have S6:=S5.trans hV.step;have P6:=P5.var hV;clear hV hD;refine ax ?_;refine cj func37 (MT h6 5) ?_;rintro v7 o7 w7 ⟨rfl,tz,ts,hq⟩;have jj:rO s5.time 5:=by rw[e53];exact⟨aa,aa,aa⟩
 rcases hq with⟨-,q,-⟩|⟨rfl,-,h7⟩
 ·exact absurd jj q
 have u7:=u5.tick (s5.time+Int.toNat 5);have T7:cP o7 w6 Bd o7 w7 Bd:=cP.of (bB.dI (ex:=(·=K.kb)) h7.aG ⟨tz,ts⟩ rfl) (fun b hb=>by rw[hb,h6.l0];omega);have S7:=S6.trans T7;have P7:=P6.step T7;obtain⟨s7,YO⟩:∃s7,s7={s5 with time:=s5.time+Int.toNat 5}:=⟨_,rfl⟩;rw[<- YO] at h7 u7;have e71:s7.th=[(aB,OG)]:=by rw[YO];exact e51
 have e72:s7.phase=1:=by rw[YO];exact e52
 have e73:s7.since+5<=s7.time:=by rw[YO];simp only[e53,e55];decide
 have e74:s7.num=0:=by rw[YO];exact e54
 have e76:s7.qn=[]:=by rw[YO];exact e56
 have e77:s7.lost=false:=by rw[YO];exact e57
 clear YO e51 e52 e53 e54 e55 e56 e57 jj tz ts;refine ax ?_;refine cj func38 (uU h7 u7) ?_;rintro v8 o8 w8 ⟨s8,aqd,F8,hf8,hw8,u8,h8,T8⟩;have S8:=S7.trans T8;have P8:=P7.step T8;obtain⟨hv,lo8,F8',sv8,hs⟩:=hw8.start e72 e76 e77 e73;subst hv;have e81:s8.th=[(aB,OG)]:=by rw[hs];exact e71
 have e82:s8.phase=2:=by rw[hs];rfl
 have e83:s8.src=[aB]:=by rw[hs];exact aje lE GO Er
 have e84:s8.num=0:=by rw[hs];exact e74
 have e85:s8.rd=[]:=by rw[hs];rfl
 have e86:s8.ck=0:=by rw[hs];rfl
 clear hs hw8 e71 e72 e73 e74 e76 e77;unfold did;refine ax ?_;refine tn 2 aP h8 fun D ox w9 Bd hD hV=>?_;have h9:=hV.dH;have S9:=S8.trans hV.step;have P9:=P8.var hV;clear hV hD;refine ax ?_;refine cj func38 (uU h9 u8) ?_;rintro v10 o10 YP ⟨ML,FP,F10,aqe,aeR,u10,nH,T10⟩;have S10:=S9.trans T10;have P10:=P9.step T10;obtain⟨hv,aqh,hs⟩:=aeR.aeK e82 (by rw[e83,e85];simp);have aeS:=Hq e83;rw[aeS] at hv hs;subst hv;have ajn:ML.th=[(aB,OG)]:=by rw[hs];exact e81
 have aeT:ML.phase=2:=by rw[hs];exact e82
 have Uz:ML.src=[aB]:=by rw[hs];exact e83
 have aeU:ML.num=0:=by rw[hs];exact e84
 have UA:ML.rd=[((true,OG),cm ML.st aB)]:=by
  rw[hs];simp only[e85,e81,List.nil_append];rfl
 have Xq:ML.ck=0:=by rw[hs];exact e86
 clear hs aeR e81 e82 e83 e84 e85 e86 aeS;unfold did;refine ax ?_;refine tn 3 aB nH fun D ox w11 Bd hD hV=>?_;have h11:=hV.dH;have S11:=S10.trans hV.step;have P11:=P10.var hV;clear hV hD;refine ax ?_;refine cj func38 (uU h11 u10) ?_;rintro v12 o12 w12 ⟨s12,amc,F12,aqj,aeV,u12,qa,T12⟩;have S12:=S11.trans T12;have P12:=P11.step T12;have aaP:=Hq Uz;have aeW:=Hq UA;obtain⟨hv,hs⟩:=aeV.check (.inl aeT) (by rw[Uz,UA];rfl) (by rw[Uz,Xq];simp) (by rw[UA,Xq];simp) (by rw[aaP,aeW]);rw[aaP] at hv;subst hv;have aaQ:s12.phase=3:=by rw[hs]
 have aaR:s12.src=[aB]:=by rw[hs];exact Uz
 have aeX:s12.num=0:=by rw[hs];exact aeU
 have aeY:s12.rd.map (·.1)=[(true,OG)]:=by rw[hs];simp only[UA];rfl
 have aeZ:s12.ck=s12.src.length:=by rw[aaR,hs];simp only[Xq];rfl
 clear hs aeV ajn aeT Uz aeU UA Xq aaP aeW;unfold did;refine ax ?_;refine tn 4 aB qa fun D ox w13 Bd hD hV=>?_;have Bc:=hV.dH;have S13:=S12.trans hV.step;have P13:=P12.var hV;clear hV hD;refine ax ?_;refine cj func38 (uU Bc u12) ?_;rintro v14 o14 w14 ⟨s14,ame,F14,ajo,ae0,u14,h14,T14⟩;have S14:=S13.trans T14;have P14:=P13.step T14;obtain⟨hv,iu,QL,sD,sE,-,hs⟩:=ae0.Xn aaQ aeZ;subst hv;obtain⟨ajp,D2⟩:=ajo (.inr aaQ);obtain⟨y0,y1,y2,-,Nr⟩:=Bc.build.blk;have aaS:s14.res=[(zB,(true,yxB))]:=by
  rw[hs];refine ajf lE GO Er hr4 (Nr ajp F14 D2).perm Bc.build.right ?_;rw[aaR,aeY];simp[fileOf]
 have ajq:s14.num=1:=by rw[hs];simp only[aeX];decide
 clear hs ae0 aaQ aaR aeX aeY aeZ Nr D2;unfold did;refine ax ?_;refine tn 6 aP h14 fun D ox w15 Bd hD hV=>?_;have Rv:=hV.dH;have S15:=S14.trans hV.step;have P15:=P14.var hV;clear hV hD;refine ax ?_;refine cj func24 (Hj Rv) ?_;rintro v16 o16 w16 ⟨RO,amg,h16,T16,-⟩;have S16:=S15.trans T16;have P16:=P15.step T16;obtain⟨rv,tv,rfl,⟨rp,rb,rc,La,YD,wV⟩,GC,OJ⟩:=RO.ex;rw[ajq] at *;have hlen:s14.res.length=1:=by rw[aaS];rfl
 rw[hlen] at La;obtain⟨ajr,orb⟩:=YD (by rw[aaS];simp);subst ajr;subst La;obtain⟨c0,c1,c2⟩:=wV 0 (by rw[hlen];decide);simp only[aaS,List.getElem_cons_zero] at c0 c1 c2;obtain⟨tp,tb,tc,ajs,-⟩:=OJ.row;generalize cB:s14.jX.length=ln at *;subst ajs;refine ax ?_;refine Ho 1 (some ⟨rb,0,none⟩) 1 rc tp ln tc h16 GC OJ.cl fun D ox w17 Bd hD hV=>?_;have Vm:=hV.dH;have S17:=S16.trans hV.step;have P17:=P16.var hV;have erb:=(hV.old rb (h16.aG.lt orb)).2;have Xr:=hV.bt.more _ orb;have hW:=S17.old WN ajg;clear hV hD;refine ax ?_;simp only[Kept,bK,dj,or_false,forall_eq_or_imp,forall_eq] at P17;obtain⟨⟨aaT,-,q16⟩,⟨ajv,-,q14⟩,⟨ajw,-,q12⟩,⟨ajx,-,q10⟩,⟨o8',-,q8⟩,⟨o5',-,q5⟩⟩:=P17;refine lz Vm.aG o5' (dQ q5).1 fun _=>?_;refine ax ?_;refine lz Vm.aG o8' (dQ q8).1 fun _=>?_;refine ax ?_;refine lz Vm.aG ajx (dQ q10).1 fun _=>?_;refine ax ?_;refine lz Vm.aG ajw (dQ q12).1 fun _=>?_;refine ax ?_;refine lz Vm.aG ajv (dQ q14).1 fun _=>?_;refine ax ?_;refine lz Vm.aG aaT (eQ q16).1 fun _=>?_;refine ax ?_;refine lz Vm.aG aaT (eQ q16).2.1 fun _=>?_;refine ax ?_;refine lz Vm.aG aaT (eQ q16).2.1 fun _=>?_;refine ax ?_;refine dD bS Vm.aG rfl ar ar ?_ rfl (v:=.agg #[.string zB,.string yxB,.bool false]) (fun wl aU=>by simp[go_sem,(aU.cell Xr).trans ((cell_of erb).trans c0),(aU.cell Xr).trans ((cell_of erb).trans c1),(aU.cell Xr).trans ((cell_of erb).trans c2)]) fun _=>?_
 ·exact ng (bX Xr)
 refine ax ?_;refine dD bS Vm.aG rfl ar ar ?_ rfl (v:=.bool true) (fun wl aU=>by simp[go_sem,zB,yxB]) fun _=>?_
 ·intro y hy;simp[Op.operands] at hy;rcases hy with rfl|rfl
  ·simp[Act.eval];refine fX (vs:=[_,_,_]) (fun x hx=>?_);simp at hx;rcases hx with rfl|rfl|rfl
   ·exact bU
   ·exact bU
   ·exact nf
  ·simp[Act.eval];refine fX (vs:=[_,_,_]) (fun x hx=>?_);simp at hx;rcases hx with rfl|rfl|rfl
   ·exact bU
   ·exact bU
   ·exact nf
 refine ax ?_;exact⟨.inr trivial,trivial,_,resultsC_tmp (t:=0) ar _,aI,hW⟩
end
section
variable {Fin:bL} {o o':aN} {w w':ae}
theorem Hand.keep{p:Option Addr}{b c:Nat}{rs:List aJ}{NM:aJ->List af}{NB:aJ->Nat}{RK:af->Nat}(h:Hand o w p b c rs NM NB RK)(om:∀b,o b->o' b)(e:∀g,nA rs NM NB b g->w'.heap[g]?=w.heap[g]?):Hand o' w' p b c rs NM NB RK:=by
 refine⟨h.gY,fun q=>⟨(h.ptr q).1,om _ (h.ptr q).2⟩,h.nil,fun i hi=>?_,h.cl.up om,h.cap,fun r hr=>⟨(h.nm r hr).1,fun q=>⟨((h.nm r hr).2.1 q).1,om _ ((h.nm r hr).2.1 q).2⟩,fun k hk=>?_,(h.nm r hr).2.2.2⟩,h.nmn,h.yes,h.low⟩
 ·exact hJ h.at_ (e b (.inl ⟨(fun q=>by rw[q] at hi;simp at hi),rfl⟩)) i hi
 ·exact dh (h.nm r hr).2.2.1 (e _ (.inr ⟨r,hr,(fun q=>by rw[q] at hk;simp at hk),rfl⟩)) k hk
theorem uW.keep{p:Option Addr}{b off:Nat}{rw:List EH}(h:uW Fin w p b off rw)(W:bB (fun _=>False) o w o' w'):uW Fin w' p b off rw:=by
 refine⟨fun q=>⟨(h.ptr q).1,(h.ptr q).2.1,bz (h.ptr q).2.2 W.size⟩,fun i hi=>?_,fun r hr=>⟨fun q=>⟨((h.ins r hr).1 q).1,((h.ins r hr).1 q).2.1,bz ((h.ins r hr).1 q).2.2 W.size⟩,fun j hj=>?_⟩,h.Xg,h.ET⟩
 ·have e:=W.same b (h.ptr (fun q=>by rw[q] at hi;simp at hi)).2.2 id;exact⟨(cell_of e).trans (h.at_ i hi).1,(cell_of e).trans (h.at_ i hi).2⟩
 ·have e:=W.same r.ib ((h.ins r hr).1 (fun q=>by rw[q] at hj;simp at hj)).2.2 id;exact(cell_of e).trans ((h.ins r hr).2 j hj)
structure FQ(rs:List aJ)(NM:aJ->List af):Prop where
 out:∀r∈rs,r.out∉kX
 ins:∀r∈rs,∀x∈NM r,x∈kX\/x∈rs.map (·.out)
structure UB(o:aN)(w:ae)(v:Value)(o':aN)(w':ae):Prop where
 ex:∃S K pb lab rp rb rc rs NM NB,v=.pointer (some ⟨S,0,none⟩)/\w'.heap[S]?=some (.cells #[.pointer (some ⟨K.kb,0,none⟩),.slice rp rs.length rc,.slice none 0 0,.int .i64 0] 39)/\o' S/\lab S=7/\bo o' w' K (s0 pb) 0 lab/\bB (fun _=>False) o w o' w'/\(∀b,b<w.heap.size->7<=lab b/\(b≠1->lab b=7))/\Hand o' w' rp rb rc rs NM NB AO/\gC rs NM AO K.B/\(∀g,nA rs NM NB rb g->lab g=7/\w.heap.size<=g)/\w.heap.size<=S/\FQ rs NM
theorem KD[Payload](hF:bN au L0 o w)(pow:jb w)(p:Option Addr)(b off c:Nat)(rw:List EH)(hR:uW Fin w p b off rw):
  bA au (XB au Fin 0) 13 #[.slice p rw.length c] o w fun v o' w'=>UB o w v o' w':=by
 have W:=bY (P:=au) (Fin:=Fin) (d:=0);have l1:=hF.lt (Uv hF);have hz4:4<=w.heap.size:=by have:=hF.size;rw[show au.globals.size=4 by kernel_rfl] at this;omega
 refine bD W func13 ar ?_;bP Tryz.f13;refine ax ?_;refine cj func32 (Xp hF pow) ?_;rintro v1 o1 w1 ⟨rfl,W1⟩;have ajy:jb w1:=fun q hq=>(cell_of (W1.same 1 l1 id)).trans (pow q hq);have z1:=W1.size;refine ax ?_;refine cj func33 (Uo W1.aG p b off c rw (hR.keep W1)) ?_;rintro v2 o2 w2 ⟨rs,uX,HL,hlen⟩;have W2:=HL.jq.bt;have z2:=W2.size;obtain⟨rp,rb,rc,rfl,hH,uV⟩:=HL.hand hlen;have aaN:jb w2:=fun q hq=>(cell_of (W2.same 1 aa id)).trans (ajy q hq);have Iz:FQ rs (fun r:aJ=>uX (AO r.out)):=by
  refine⟨fun r hr=>?_,fun r hr x hx=>?_⟩
  ·obtain⟨j,hj,rfl⟩:=bf hr;rw[(HL.each j hj).1];exact FM j aa
  ·obtain⟨j,hj,rfl⟩:=bf hr;obtain⟨e1,-,-,e4,-⟩:=HL.each j hj;simp only[e1,yW (show j<8 by omega)] at hx;rcases e4 x hx with q|⟨i,hi,rfl⟩
   ·exact .inl q
   ·refine .inr (List.mem_map.2 ⟨rs[i],aH aa,(HL.each i aa).1⟩)
 clear HL;generalize (fun r:aJ=>uX (AO r.out))=NM at *;generalize (fun r:aJ=>(r.sa.map (·.block)).getD 0)=NB at *;refine ax ?_;refine cj func34 (YJ W2.aG hH aaN) ?_;rintro v3 o3 w3 ⟨K,pb,kQ,rfl,h3,W3,KC,Bz,ZG⟩;have z3:=W3.size;have hH3:=hH.keep W3.more fun g hg=>W3.same g (uV g hg).2 id;refine ax ?_;refine dD bS h3.aG rfl ar ar ?_ rfl (v:=.bool false) (fun wl aU=>by simp[go_sem,aeL]) fun _=>?_
 ·exact ja (bX h3.own) yl
 refine ax ?_;refine dv bS h3.aG rfl ar ar ?_ rfl (R:=fun wl v aW=>v=.pointer (some ⟨wl.heap.size,0,none⟩)/\aW=wl.alloc (Obj.cells #[.pointer (some ⟨K.kb,0,none⟩),.slice rp rs.length rc,.slice none 0 0,.int .i64 0] 39)) (fun wl aU=>⟨_,_,by first|(simp[go_sem];done)|(simp[go_sem];rfl),rfl,rfl⟩) fun wl v1 aW w4 aU BB bO=>?_
 ·refine ng ?_;refine fX (vs:=[_,_,_,_]) (fun x hx=>?_);simp at hx;rcases hx with rfl|rfl|rfl|rfl
  ·exact bX h3.own
  ·exact hH3.cl
  ·exact iU
  ·exact dU
 obtain⟨rfl,BB⟩:=BB;obtain⟨z4,k4,yP⟩:=bO.alloc h3.aG aU BB;obtain⟨W4,tK⟩:=bB.qF bO.aG z4 k4;rw[aU.size];clear BB bO aU wl aW;obtain⟨sF,h4,S4,HK,hn4⟩:=h3.grown (cP.refl h3.aG) W4;have hlA:=hn4 _ (ag _);generalize grow o3 w3 w4=o4 at *;have hWW:=((W1.trans W2).trans W3).trans W4;have hH4:=hH3.keep W4.more fun g hg=>W4.same g (by have:=(uV g hg).2;omega) id;clear z4;refine ax ?_;refine⟨.inr trivial,trivial,_,resultsC_tmp (t:=2) ar _,w3.heap.size,K,pb,sF,rp,rb,rc,rs,NM,NB,aI,yP,tK,hlA,h4,hWW,fun b hb=>?_,hH4,KC,fun g hg=>?_,aa,Iz⟩
 ·rw[HK b aa];exact Bz b aa
 ·obtain⟨q1,q2⟩:=uV g hg;rw[HK g aa];exact⟨(Bz g q2).2 aa,aa⟩
end
theorem yX{α:Type}(x y:af)(v:α):∀l:List (af×α),eW (gS l x v) y=if y=x then some v else eW l y
 | []=>by
  simp only[gS,eW]
 | (k,u)::l=>by
  unfold gS;by_cases hx:x=k
  ·rw[if_pos hx];by_cases hy:y=x
   ·rw[if_pos hy];unfold eW;rw[if_pos hy]
   ·rw[if_neg hy];unfold eW;rw[if_neg hy,if_neg (fun e=>hy (e.trans hx.symm))]
  ·rw[if_neg hx];unfold eW;by_cases D3:y=k
   ·rw[if_pos D3,if_pos D3,if_neg (fun e=>hx (e.symm.trans D3))]
   ·rw[if_neg D3,if_neg D3,yX x y v l]
theorem vC{α:Type}{x:af}:∀{l:List (af×α)},x∉l.map (·.1)->eW l x=none
 | [],_=>rfl
 | (k,u)::l,h=>by
  simp only[aA,bK,not_or] at h;unfold eW;rw[if_neg h.1];exact vC h.2
theorem DF{α:Type}(x y:af):∀l:List (af×α),(l.map (·.1)).Nodup->eW (ma l x) y=if y=x then none else eW l y
 | [],_=>by simp[ma,eW]
 | (k,u)::l,hn=>by
  rw[aA,dc] at hn;unfold ma;by_cases hx:x=k
  ·rw[if_pos hx];by_cases hy:y=x
   ·rw[if_pos hy,hy];exact vC (by rw[hx];exact hn.1)
   ·rw[if_neg hy]
    conv=>rhs;unfold eW
    rw[if_neg (fun e=>hy (e.trans hx.symm))]
  ·rw[if_neg hx];unfold eW;by_cases D3:y=k
   ·rw[if_pos D3,if_pos D3,if_neg (fun e=>hx (e.symm.trans D3))]
   ·rw[if_neg D3,if_neg D3,DF x y l hn.2]
theorem KE(fs:List (af×af))(x y:af):eW (te fs x) y=if y=x then none else eW fs y:=by
 induction fs with
 |nil=>simp[te,eW]
 |cons f fs ih =>
  obtain⟨k,u⟩:=f;unfold te at *;by_cases hk:k=x
  ·rw[List.filter_cons_of_neg (by simp[hk]),ih];by_cases hy:y=x
   ·rw[if_pos hy,if_pos hy]
   ·rw[if_neg hy,if_neg hy]
    conv=>rhs;unfold eW
    rw[if_neg (fun e=>hy (e.trans hk))]
  ·rw[List.filter_cons_of_pos (by simp[hk])];unfold eW;by_cases D3:y=k
   ·rw[if_pos D3,if_pos D3,if_neg (fun e=>hk (D3.symm.trans e))]
   ·rw[if_neg D3,if_neg D3,ih]
theorem Ag{α:Type}(x y:af)(v:α):∀l:List (af×α),eW (l++[(x,v)]) y=match eW l y with
  |some u=>some u
  |none=>if y=x then some v else none
 | []=>by simp[eW]
 | (k,u)::l=>by
  rw[List.cons_append];unfold eW;by_cases D3:y=k
  ·rw[if_pos D3,if_pos D3]
  ·rw[if_neg D3,if_neg D3];exact Ag x y v l
theorem Ah(fs:List (af×af))(x t y:af)(there:Bool):eW (qG fs x t there) y=if y=x then(if there then some t else none) else eW fs y:=by
 unfold qG;cases there
 ·simp only[aM,if_false,List.append_nil];exact KE fs x y
 ·simp only[if_true];rw[Ag,KE];by_cases hy:y=x
  ·simp[hy]
  ·simp only[if_neg hy];cases eW fs y<;>rfl
theorem UC(fs:List (af×af))(x:af):Hl fs x=true↔eW fs x≠none:=by
 rw[Hl,BC];constructor
 ·intro h
  induction fs with
  |nil=>simp at h
  |cons f fs ih =>
   obtain⟨k,u⟩:=f;unfold eW;by_cases hx:x=k
   ·rw[if_pos hx];simp
   ·rw[if_neg hx];exact ih (by simpa[hx] using h)
 ·intro h;exact a8 fun q=>h (vC q)
theorem FR{α:Type}{x:af}{v:α}:∀{l:List (af×α)},(l.map (·.1)).Nodup->((gS l x v).map (·.1)).Nodup/\∀y,y∈(gS l x v).map (·.1)↔y=x\/y∈l.map (·.1)
 | [],_=>by simp[gS]
 | (k,u)::l,hn=>by
  rw[aA,dc] at hn;unfold gS;by_cases hx:x=k
  ·rw[if_pos hx];subst hx;refine⟨by rw[aA,dc];exact hn,fun y=>?_⟩;simp
  ·rw[if_neg hx];obtain⟨h1,h2⟩:=FR (x:=x) (v:=v) hn.2;refine⟨?_,fun y=>?_⟩
   ·rw[aA,dc];exact⟨fun q=>((h2 k).1 q).elim (fun e=>hx e.symm) hn.1,h1⟩
   ·rw[aA,bK,h2 y,aA,bK];constructor
    ·rintro(q|q|q)
     ·exact .inr (.inl q)
     ·exact .inl q
     ·exact .inr (.inr q)
    ·rintro(q|q|q)
     ·exact .inr (.inl q)
     ·exact .inl q
     ·exact .inr (.inr q)
theorem FT{α:Type}{x:af}:∀{l:List (af×α)},(l.map (·.1)).Nodup->((ma l x).map (·.1)).Nodup/\∀y,y∈(ma l x).map (·.1)->y∈l.map (·.1)
 | [],_=>by simp[ma]
 | (k,u)::l,hn=>by
  rw[aA,dc] at hn;unfold ma;by_cases hx:x=k
  ·rw[if_pos hx];exact⟨hn.2,fun y hy=>bE _ hy⟩
  ·rw[if_neg hx];obtain⟨h1,h2⟩:=FT (x:=x) hn.2;refine⟨?_,fun y hy=>?_⟩
   ·rw[aA,dc];exact⟨fun q=>hn.1 (h2 k q),h1⟩
   ·rw[aA,bK] at hy |-;exact hy.imp id (h2 y)
theorem qp:∀(l m:List af),l.Nodup->(∀x∈l,x∈m)->l.length<=m.length
 | [],m,_,_=>aj
 |x::l,m,hn,h=>by
  rw[dc] at hn;have hx:=h x aj;obtain⟨m1,m2,rfl⟩:=List.append_of_mem hx;have:=qp l (m1++m2) hn.2 (fun y hy=>by
   have hy2:=h y (bE _ hy);rw[gM,bK] at hy2;rw[gM];rcases hy2 with q|q|q
   ·exact .inl q
   ·rw[q] at hy;exact absurd hy hn.1
   ·exact .inr q)
  simp only[List.length_append,List.length_cons] at this |-;omega
structure gl(s:gV)(fs:List (af×af)):Prop where
 get:∀x,eW s.th x=eW fs x
 tk:(s.th.map (·.1)).Nodup/\∀x∈s.th.map (·.1),x∈kX
 fk:(fs.map (·.1)).Nodup/\∀x∈fs.map (·.1),x∈kX
theorem gl.gY{s:gV}{fs:List (af×af)}(h:gl s fs):s.th.length<=6/\fs.length<=6:=by
 have h1:=qp _ _ h.tk.1 h.tk.2;have h2:=qp _ _ h.fk.1 h.fk.2;simp[kX] at h1 h2;exact⟨h1,h2⟩
theorem UD{fs:List (af×af)}(x:af)(h:(fs.map (·.1)).Nodup):((te fs x).map (·.1)).Nodup/\(∀y∈(te fs x).map (·.1),y∈fs.map (·.1))/\x∉(te fs x).map (·.1):=by
 refine⟨(List.Sublist.map _ List.filter_sublist).nodup h,fun y hy=>?_,fun q=>?_⟩
 ·obtain⟨f,hf,rfl⟩:=List.mem_map.1 hy;exact List.mem_map.2 ⟨f,(List.mem_filter.1 hf).1,rfl⟩
 ·obtain⟨f,hf,e⟩:=List.mem_map.1 q;have:=(List.mem_filter.1 hf).2;simp at this;exact this e
theorem DG{fs:List (af×af)}(x t:af)(there:Bool)(h:(fs.map (·.1)).Nodup/\∀y∈fs.map (·.1),y∈kX)(hx:x∈kX):((qG fs x t there).map (·.1)).Nodup/\∀y∈(qG fs x t there).map (·.1),y∈kX:=by
 obtain⟨h1,h2,h3⟩:=UD x h.1;unfold qG;cases there
 ·simp only[aM,if_false,List.append_nil];exact⟨h1,fun y hy=>h.2 y (h2 y hy)⟩
 ·simp only[if_true,List.map_append,aA,aQ];refine⟨List.nodup_append.2 ⟨h1,aj,fun a ha b hb e=>?_⟩,fun y hy=>?_⟩
  ·have ex:a=x:=e.trans (by simpa using hb);rw[ex] at ha;exact h3 ha
  ·rcases List.mem_append.1 hy with hy|hy
   ·exact h.2 y (h2 y hy)
   ·simp at hy;rw[hy];exact hx
theorem gl.edit{s:gV}{fs:List (af×af)}(h:gl s fs){x:af}(t:af)(hx:x∈kX){s':gV}(hs:s'.th=gS s.th x t):gl s' (qG fs x t true):=by
 obtain⟨k1,k2⟩:=FR (x:=x) (v:=t) h.tk.1;refine⟨fun y=>?_,⟨by rw[hs];exact k1,fun y hy=>?_⟩,DG x t true h.fk hx⟩
 ·rw[hs,yX,Ah,h.get];simp
 ·rw[hs,k2] at hy;rcases hy with rfl|hy
  ·exact hx
  ·exact h.tk.2 y hy
theorem gl.remove{s:gV}{fs:List (af×af)}(h:gl s fs){x:af}(t:af)(hx:x∈kX){s':gV}(hs:s'.th=ma s.th x):gl s' (qG fs x t false):=by
 obtain⟨k1,k2⟩:=FT (x:=x) h.tk.1;refine⟨fun y=>?_,⟨by rw[hs];exact k1,fun y hy=>?_⟩,DG x t false h.fk hx⟩
 ·rw[hs,DF x y _ h.tk.1,Ah,h.get];simp
 ·rw[hs] at hy;exact h.tk.2 y (k2 y hy)
theorem gl.ZA{s:gV}{fs:List (af×af)}(h:gl s fs){x:af}(t:af)(hx:x∈kX)(hn:eW s.th x=none):gl s (qG fs x t false):=by
 refine⟨fun y=>?_,h.tk,DG x t false h.fk hx⟩;rw[Ah];by_cases e:y=x
 ·rw[if_pos e,e,hn];simp
 ·rw[if_neg e];exact h.get y
theorem gl.same{s s':gV}{fs:List (af×af)}(h:gl s fs)(e:s'.th=s.th):gl s' fs:=⟨fun x=>by rw[e];exact h.get x,by rw[e];exact h.tk,h.fk⟩
def ji(a:Int):af:=kX[eH a 6]'(pg a aa)
theorem UE(a:Int):ji a∈kX:=aH _
section
variable {Fin:bL} {o o' o1 o2:aN} {w w' w1 w2:ae} {S:Nat} {K:pG} {s s':gV} {lab lab' dt fW:Nat->Nat} {rv fv:Value} {fs:List (af×af)} {ed:Nat}
structure vS(o:aN)(w:ae)(S:Nat)(K:pG)(s:gV)(lab:Nat->Nat)(rv fv:Value)(fs:List (af×af))(ed:Nat):Prop where
 dH:bo o w K s 0 lab
 sound:Sound K s
 blk:w.heap[S]?=some (.cells #[.pointer (some ⟨K.kb,0,none⟩),rv,fv,.int .i64 ed] 39)
 own:o S
 Xs:lab S=7
 files:pB o w fv fs
 QW:∀g,fv.ownBlock=some g->lab g=7/\g≠S
 Be:gl s fs
structure gI(S:Nat)(o:aN)(w:ae)(lab:Nat->Nat)(o':aN)(w':ae)(lab':Nat->Nat):Prop where
 bt:bB (fun b=>lab b<=6\/b=S) o w o' w'
 lab:∀b,b<w.heap.size->lab' b=lab b
theorem gI.refl(hF:bN au L0 o w):gI S o w lab o w lab:=⟨bB.refl hF,fun _ _=>rfl⟩
theorem gI.trans(h:gI S o w lab o1 w1 dt)(k:gI S o1 w1 dt o2 w2 fW):gI S o w lab o2 w2 fW:=by
 have hz:=h.bt.size;refine⟨⟨k.bt.aG,fun b hb=>k.bt.more b (h.bt.more b hb),fun b hb=>(k.bt.new b hb).elim (fun q=>h.bt.new b q) fun q=>.inr aa,by have:=k.bt.size;omega,fun b hb hx=>?_⟩,fun b hb=>(k.lab b aa).trans (h.lab b hb)⟩;rw[k.bt.same b aa (by rw[h.lab b hb];exact hx),h.bt.same b hb hx]
theorem gI.k(h:gI S o w lab o1 w1 dt)(k:cP o1 w1 dt o2 w2 fW):gI S o w lab o2 w2 fW:=h.trans ⟨k.bt.mono fun b hb=>.inl hb,k.lab⟩
theorem gI.wrote{A:Nat}(h:gI S o w lab o1 w1 dt)(hA:w.heap.size<=A\/A=S)(hF:bN au L0 o1 w2)(on:eK A w1 w2):gI S o w lab o1 w2 dt:=by
 refine⟨⟨hF,h.bt.more,h.bt.new,by rw[on.1];exact h.bt.size,fun b hb hx=>?_⟩,h.lab⟩;rw[on.2 b (fun e=>by rcases hA with q|q;omega;exact hx (.inr (e.trans q)))];exact h.bt.same b hb hx
theorem bo.aaU{lk:Int}(h:bo o1 w1 K s lk dt)(hl:dt S=7)(hSz:S<w1.heap.size)(W:bB (fun b=>b=S) o1 w1 o2 w2):∃fW,bo o2 w2 K s lk fW/\gI S o1 w1 dt o2 w2 fW/\(∀b,b<w1.heap.size->fW b=dt b)/\∀b,w1.heap.size<=b->fW b=7:=by
 have hq:∀b,b<w1.heap.size->(if b<w1.heap.size then dt b else 7)=dt b:=fun b hb=>if_pos hb;refine⟨fun b=>if b<w1.heap.size then dt b else 7,(h.Kg fun b hb=>hq b (h.aG.lt hb)).aside W (fun b hb=>?_),⟨W.mono fun b hb=>.inr hb,hq⟩,hq,fun b hb=>if_neg aa⟩;rw[hb,hq S hSz];exact hl
theorem bo.Hr{A:Nat}{lk:Int}(h:bo o1 w1 K s lk dt)(U:gI S o w lab o1 w1 dt)(hl:dt A=7)(hA:w.heap.size<=A\/A=S)(hF:bN au L0 o1 w2)(on:eK A w1 w2):bo o1 w2 K s lk dt/\gI S o w lab o1 w2 dt :=
 ⟨h.aside (ex:=fun b=>b=A) (bB.dI hF on rfl) fun b hb=>by rw[hb];exact hl,U.wrote hA hF on⟩
theorem od{w:ae}{b:Nat}{t:TypeId}{c0 c1 c2 c3:Value}(h:w.heap[b]?=some (.cells #[c0,c1,c2,c3] t)):w.cell? ⟨b,0,none⟩=some c0/\w.cell? ⟨b,1,none⟩=some c1/\w.cell? ⟨b,2,none⟩=some c2/\w.cell? ⟨b,3,none⟩=some c3:=by
 simp[World.cell?,h]
theorem pB.step(h:pB o w fv fs)(hl:∀g,fv.ownBlock=some g->lab g=7/\g≠S)(U:gI S o w lab o' w' lab')(hF:bN au L0 o w):pB o' w' fv fs/\∀g,fv.ownBlock=some g->lab' g=7/\g≠S:=by
 have cB:∀g,fv.ownBlock=some g->g<w.heap.size:=fun g hg=>hF.lt (gL hF h.cl g hg);refine⟨h.keep U.bt.more fun g hg=>U.bt.same g (cB g hg) (by rw[(hl g hg).1];intro q;rcases q with q|q;omega;exact(hl g hg).2 q),fun g hg=>⟨(U.lab g (cB g hg)).trans (hl g hg).1,(hl g hg).2⟩⟩
theorem uY{d A:Nat}{fn:FuncId}{Q:Exit->Act->aN->ae->Prop}{x:Act}{ops:Array Oper}{i:Nat}{rest:List Nat}{e:Oper}{lk n0:Int}{y0:af}(n:Int)(y:af)(h:bo o1 w1 K s lk dt)(U:gI S o w lab o1 w1 dt)(hl:dt A=7)(hA:w.heap.size<=A\/A=S)(oA:o1 A)(kA:w1.heap[A]?=some (.cells #[.int .i64 n0,.string y0] 32))(k:∀w2,bo o1 w2 K s lk dt->gI S o w lab o1 w2 dt->eK A w1 w2->w2.heap[A]?=some (.cells #[.int .i64 n,.string y] 32)->fa (XB au Fin d) fn ops rest Q (x.put none undef) o1 w2)(h5:ops[i]?=some e:=by rfl)(h6:Region.wanted e (yielded ops x.tmps)=true:=by rfl)(h7:∃p v,e.op=.store 32 p v/\x.eval p=.pointer (some ⟨A,0,none⟩)/\x.eval v=.agg #[.int .i64 n,.string y]:=by exact⟨_,_,rfl,rfl,rfl⟩)(h8:e.dst=none:=by rfl):fa (XB au Fin d) fn ops (i::rest) Q x o1 w1:=by
 refine mE n y h.aG oA kA (fun w2 rV on kA2=>?_) h5 h6 h7 h8;obtain⟨h2,U2⟩:=h.Hr U hl hA rV on;exact k w2 h2 U2 on kA2
theorem vD{A:Nat}{n:Int}{y:af}{tmps:Array Value}(kA:w.heap[A]?=some (.cells #[.int .i64 n,.string y] 32))(oA:o A)(h4:tmps[4]?=some (.pointer (some ⟨A,0,none⟩)):=by rfl)(h5:tmps[5]?=some (.bool true):=by rfl):uy au (fun _=>AtRel) (GuO Fin) Tryz.f14 tmps o w (.tuple #[.agg #[.int .i64 n,.string y],.bool true]):=by
 refine xc (fun m=>?_) (fun m e he=>?_)
 ·obtain⟨c0,c1,-⟩:=dQ (w:=w.at m) kA;simp[results,results14,go_sem,c0,c1,h4,h5]
 ·obtain⟨c0,c1,-⟩:=dQ (w:=w.at m) kA;simp[results,results14,go_sem,c0,c1,h4,h5] at he;rcases he with rfl|rfl;all_goals exact⟨_,_,_,rfl,oA⟩
def DH(K:pG)(kd a b:Int)(s s':gV)(fs fs':List (af×af))(ed YQ:Nat)(n:Int)(y:af):Prop :=
 (kd=0/\n=0/\y=aP/\YQ=ed+1/\fs'=qG fs (ji a) (rG b) true/\∃qX,s'={s with th:=gS s.th (ji a) (rG b),st:=gS s.st (ji a) (IntKind.i64.wrap (cm s.st (ji a)+1)),qv:=qX,qn:=(jH s.qn s.lost (ji a)).1,lost:=(jH s.qn s.lost (ji a)).2}) \/
 (kd=1/\n=0/\y=aP/\fs'=qG fs (ji a) aP false/\((eW s.th (ji a)≠none/\YQ=ed+1/\∃qX,s'={s with th:=ma s.th (ji a),st:=gS s.st (ji a) (IntKind.i64.wrap (cm s.st (ji a)+1)),qv:=qX,qn:=(jH s.qn s.lost (ji a)).1,lost:=(jH s.qn s.lost (ji a)).2})\/(eW s.th (ji a)=none/\YQ=ed/\s'=s))) \/
 (kd=2/\n=0/\y=aP/\fs'=fs/\YQ=ed/\((¬rO s.time (1+eH a 9)/\s'=s)\/(rO s.time (1+eH a 9)/\s'={s with time:=s.time+(1+(eH a 9:Int)).toNat}))) \/
 (kd≠0/\kd≠1/\kd≠2/\fs'=fs/\YQ=ed/\∃F,((s.phase=2\/s.phase=3)->∃lo,s.fd=some (lo,F))/\jZ K s s' F (fileOf s.src (s.rd.map (·.1))) (did n y))
theorem UF[Payload](h:vS o w S K s lab rv fv fs ed)(kd a b:Int)(ha1:-9223372036854775808<=a)(ha2:a<=9223372036854775807)(By:-9223372036854775808<=b)(pH:b<=9223372036854775807)(UG:ed<4611686018427387904):
  bA au (XB au Fin 0) 14 #[.pointer (some ⟨S,0,none⟩),.agg #[.int .i64 kd,.int .i64 a,.int .i64 b]] o w fun v o' w'=>∃n y s' lab' Af fs' YQ,v=.tuple #[.agg #[.int .i64 n,.string y],.bool true]/\vS o' w' S K s' lab' rv Af fs' YQ/\DH K kd a b s s' fs fs' ed YQ n y/\gI S o w lab o' w' lab'/\∀g,Af.ownBlock=some g->fv.ownBlock=some g\/w.heap.size<=g:=by
 have W:=bY (P:=au) (Fin:=Fin) (d:=0);have hSl:=h.dH.aG.lt h.own;refine eC W func14 ar ?_;bP Tryz.f14;refine ax ?_;refine dv bS h.dH.aG rfl ar ar ?_ rfl (R:=fun wl v aW=>v=.pointer (some ⟨wl.heap.size,0,none⟩)/\aW=wl.alloc (Obj.cells #[.int .i64 kd,.int .i64 a,.int .i64 b] 30)) (fun wl aU=>⟨_,_,by first|(simp[go_sem];done)|(simp[go_sem];rfl),rfl,rfl⟩) fun wl v1 aW w1 aU hR bO=>?_
 ·refine ng ?_;refine fX (vs:=[_,_,_]) (fun x hx=>?_);simp at hx;rcases hx with rfl|rfl|rfl;all_goals exact dU
 obtain⟨rfl,hR⟩:=hR;obtain⟨z1,k1,tN⟩:=bO.alloc h.dH.aG aU hR;obtain⟨W1,hX1⟩:=bB.qF bO.aG z1 k1;rw[aU.size];clear hR bO aU wl aW;generalize grow o w w1=o1 at *;have l1:w.heap.size<w1.heap.size:=aa;clear z1;refine ax ?_;refine dv bS W1.aG rfl ar ar ni rfl (R:=fun wl v aW=>v=.pointer (some ⟨wl.heap.size,0,none⟩)/\aW=wl.alloc (Obj.cells #[.int .i64 0,.string aP] 32)) (fun wl aU=>⟨_,_,by first|(simp[go_sem];done)|(simp[go_sem];rfl),rfl,rfl⟩) fun wl v1 aW w2 aU hR bO=>?_;obtain⟨rfl,hR⟩:=hR;obtain⟨z2,k2,Oy⟩:=bO.alloc W1.aG aU hR;obtain⟨W2,I4⟩:=bB.qF bO.aG z2 k2;rw[aU.size];clear hR bO aU wl aW;generalize grow o1 w1 w2=o2 at *;have hX2:=(k2 _ aa).trans tN;have oX2:=W2.more _ hX1;have l2:w1.heap.size<w2.heap.size:=aa;clear z2;refine ax ?_;refine cj func18 (OE W2.aG) ?_;rintro v3 o3 w3 ⟨N3,rfl,z3,kn3⟩;have W3:bB (fun _=>False) o2 w2 o3 w3:=bB.eL N3;have onb:o3 w2.heap.size:=by rw[N3.own];exact .inr ⟨ag _,aa⟩
 have hX3:=(N3.old _ aa).trans hX2;have vn:=(N3.old w1.heap.size aa).trans Oy;have oX3:=W3.more _ oX2;have oA3:=W3.more _ I4;have hAX:w.heap.size<w1.heap.size/\w1.heap.size<w2.heap.size:=⟨aa,aa⟩;have W03:=(W1.trans W2).trans W3;have zz3:w2.heap.size<w3.heap.size:=aa;clear z3 l1 l2 k1 k2 tN Oy hX1 hX2 oX2 I4 N3 W1 W2 W3;obtain⟨kQ,h3,T3,Bz,Oz⟩:=h.dH.grown (cP.refl h.dH.aG) W03;have U3:=(gI.refl (S:=S) (lab:=lab) h.dH.aG).k T3;have hlX:=Oz w.heap.size (ag _);have hlA:=Oz w1.heap.size aa;have ae1:kQ S=7:=(Bz S hSl).trans h.Xs;have hS3:=(W03.same S hSl id).trans h.blk;have oS3:=W03.more _ h.own;obtain⟨hf3,ae2⟩:=h.files.step h.QW U3 h.dH.aG;clear Oz Bz T3 W03;have hp:=pg a (n:=6) aa;have vU:w3.cell? ⟨w2.heap.size,eH a 6,none⟩=some (.string (ji a)):=by
  have hc6:n9[eH a 6]?=some (.string (ji a)):=by
   rw[n9,kY,eG,bp hp];rfl
  simp[World.cell?,kn3,hc6]
 have hpI:((eH a 6:Nat):Int)<6:=aa;have zA:=UE a;have Sg:=tq zA;have XV:(ji a).size<=1000000:=by have:=Sg.2.1;omega
 obtain⟨x0,x1,x2,-⟩:=eQ hX3;generalize WG:w2.heap.size=Nb at *;generalize hAe:w1.heap.size=A at *;generalize hXe:w.heap.size=X at *;have Rm:w.heap.size<=A:=aa;have uZ:A≠S:=aa;have ams:X≠S:=aa;clear WG hAe;refine ax ?_;refine lz h3.aG oX3 x1 fun _=>?_;refine ax ?_;refine cj func19 (Dz h3.aG a 6 ha1 ha2 aa aa) ?_;rintro v4 o4 w4 ⟨rfl,N4⟩;have W4:bB (fun _=>False) o3 w3 o4 w4:=bB.eL N4;obtain⟨sF,h4,T4,HK,-⟩:=h3.grown (cP.refl h3.aG) W4;have U4:=U3.k T4;have zA3:=h3.aG.lt oA3;have zX3:=h3.aG.lt oX3;have zS3:=h3.aG.lt oS3;have hX4:=(N4.old X zX3).trans hX3;have tK:=(N4.old A zA3).trans vn;have Rq:=(N4.old S zS3).trans hS3;have ajF:=(cell_of (N4.old Nb zz3)).trans vU;have ajG:=W4.more _ onb;have oX4:=W4.more _ oX3;have M9:=W4.more _ oA3;have Hs:=W4.more _ oS3;have aqF:=(HK X zX3).trans hlX;have QX:=(HK A zA3).trans hlA;have QY:=(HK S zS3).trans ae1;obtain⟨Xt,UH⟩:=hf3.step ae2 ((gI.refl (S:=S) h3.aG).k T4) h3.aG;obtain⟨x0,x1,x2,-⟩:=eQ hX4;have d0:w4.cell? ⟨S,0,none⟩=some (.pointer (some ⟨K.kb,0,none⟩)):=by simp[World.cell?,Rq]
 clear hX3 vn hS3 vU onb oX3 oA3 oS3 hlX hlA ae1 hf3 ae2 T4 HK N4 W4 h3 U3 zz3 zA3 zX3 zS3 kn3;refine ax ?_;refine lz h4.aG ajG ajF fun _=>?_;refine ax ?_;refine lz h4.aG oX4 x0 fun _=>?_;aE;by_cases HU:kd=0
 ·subst HU;refine ax ?_;refine lz h4.aG oX4 x2 fun _=>?_;refine ax ?_;refine cj func20 (Xe h4.aG b By pH) ?_;rintro v5 o5 w5 ⟨rfl,N5⟩;have W5:bB (fun _=>False) o4 w4 o5 w5:=bB.eL N5;obtain⟨pf,h5,T5,Rw,-⟩:=h4.grown (cP.refl h4.aG) W5;have U5:=U4.k T5;have xj:=(N5.old A (h4.aG.lt M9)).trans tK;have nE:=(N5.old S (h4.aG.lt Hs)).trans Rq;have EI:=W5.more _ M9;have D4:=W5.more _ Hs;have uS:=(Rw A (h4.aG.lt M9)).trans QX;have xr:=(Rw S (h4.aG.lt Hs)).trans QY;obtain⟨Uy,EJ⟩:=Xt.step UH ((gI.refl (S:=S) h4.aG).k T5) h4.aG;have d05:w5.cell? ⟨S,0,none⟩=some (.pointer (some ⟨K.kb,0,none⟩)):=by simp[World.cell?,nE]
  refine ax ?_;refine lz h5.aG D4 d05 fun _=>?_;refine ax ?_;refine cj func21 (TY h5 (ji a) (rG b) XV) ?_;rintro v6 o6 w6 ⟨aaX,T6,hq⟩;have wo:isName (ji a)/\(rG b).size<=12/\¬(eW s.th (ji a)=none/\12<=s.th.length):=⟨Sg,Dq b,fun q=>by have:=h.Be.gY.1;omega⟩;rcases hq with⟨e,-,-,q,-⟩|⟨rfl,-,qX,h6⟩
  ·exact absurd wo q
  have u6:=h.sound.edit (x:=ji a) (t:=rG b) (Dq b) (gS s.st (ji a) (IntKind.i64.wrap (cm s.st (ji a)+1))) qX;have Xu:=(T6.bt.same A (h5.aG.lt EI) (by rw[uS];omega)).trans xj;have Xv:=(T6.bt.same S (h5.aG.lt D4) (by rw[xr];omega)).trans nE;have FU:=T6.bt.more _ EI;have Ht:=T6.bt.more _ D4;have Na:=(T6.lab A (h5.aG.lt EI)).trans uS;have EK:=(T6.lab S (h5.aG.lt D4)).trans xr;obtain⟨Xw,DI⟩:=Uy.step EJ ((gI.refl (S:=S) h5.aG).k T6) h5.aG;have U6:=U5.k T6;refine ax ?_;refine cj func22 (Uk h6.aG S _ rv fv ed fs (ji a) (rG b) true Xv Ht Xw (by have:=h.Be.gY.2;omega) (fun e=>(DI S e).2 rfl)) ?_;rintro v7 o7 w7 ⟨rfl,W7,Af,UI,hf7,OL⟩;obtain⟨xp,h7,T7,qJ,hn7⟩:=h6.aaU EK (h6.aG.lt Ht) W7;have U7:=U6.trans T7;have Mn:=(W7.same A (h6.aG.lt FU) uZ).trans Xu;have YR:=W7.more _ FU;have Nc:=W7.more _ Ht;have M0:=(qJ A (h6.aG.lt FU)).trans Na;have Nd:=(qJ S (h6.aG.lt Ht)).trans EK;have QZ:∀g,Af.ownBlock=some g->xp g=7/\g≠S:=fun g hg=>⟨hn7 g (OL g hg),by have:=OL g hg;have:=h6.aG.lt Ht;omega⟩;have hwe:IntKind.i64.wrap ((ed:Int)+1)=((ed+1:Nat):Int):=by rw[IntKind.wrap_i64]<;>omega
  refine ax ?_;refine lz h7.aG Nc (od UI).2.2.2 fun _=>?_;refine ax ?_;refine dz bS h7.aG rfl ar ar ?_ rfl (R:=fun wl aW=>aW=wl.setCell ⟨S,3,none⟩ (.int .i64 ((ed+1:Nat):Int))) (fun wl aU=>⟨_,?_,rfl⟩) fun wl aW w8 aU hR bO=>?_
  ·exact ja (bX Nc) dU
  ·have e:=(aU.heap _ Nc).trans UI;have e3:wl.cell? ⟨S,3,none⟩=some (.int .i64 ed):=by simp[World.cell?,e]
   have f3:wl.frozen? ⟨S,3,none⟩=false:=by simp[World.frozen?,e]
   simp[go_sem,e3,f3,hwe]
  have hO:eK S wl aW:=by rw[hR];exact je _ _ _ _
  obtain⟨FL,kSx,ey⟩:=bO.only aU Nc hO;have su:=bO.aG;rw[ey] at su |-;have kS8:w8.heap[S]?=some (.cells #[.pointer (some ⟨K.kb,0,none⟩),rv,Af,.int .i64 ((ed+1:Nat):Int)] 39):=by
   rw[kSx,hR];have e:=(aU.heap _ Nc).trans UI;simp[World.setCell,aS,e]
  obtain⟨h8,U8⟩:=h7.Hr U7 Nd (.inr rfl) su FL;clear hR bO aU hO wl aW ey kSx;refine ax ?_;have Qx:=(FL.2 A uZ).trans Mn;obtain⟨hf8,ajH⟩:=hf7.step (lab:=xp) QZ ((gI.refl (S:=S) h7.aG).wrote (.inr rfl) su FL) h7.aG;refine uY 0 aP h8 U8 M0 (.inl Rm) YR Qx fun w9 h9 U9 lV Xx=>?_;refine ax ?_;have Xy:=(lV.2 S (fun e=>uZ e.symm)).trans kS8;have UJ:∀g,Af.ownBlock=some g->g≠A:=fun g hg=>by have:=OL g hg;have:=h6.aG.lt FU;omega
  have Xz:=hf8.keep (o':=o7) (w':=w9) (fun _ q=>q) (fun g hg=>lV.2 g (UJ g hg));refine⟨.inr trivial,trivial,.tuple #[.agg #[.int .i64 0,.string aP],.bool true],vD Xx YR,_,_,_,_,_,_,_,rfl,⟨h9,u6,Xy,Nc,Nd,Xz,ajH,h.Be.edit (rG b) zA rfl⟩,.inl ⟨rfl,rfl,rfl,rfl,rfl,qX,rfl⟩,U9,fun g hg=>.inr (by have:=OL g hg;have:=U6.bt.size;omega)⟩
 by_cases Yn:kd=1
 ·subst Yn;clear HU;refine ax ?_;refine cj func35 (aeF h4.aG S _ rv fv ed fs (ji a) Rq Hs Xt (by have:=h.Be.gY.2;omega)) ?_;rintro v5 o5 w5 ⟨rfl,N5⟩;have W5:bB (fun _=>False) o4 w4 o5 w5:=bB.eL N5;obtain⟨pf,h5,T5,Rw,-⟩:=h4.grown (cP.refl h4.aG) W5;have U5:=U4.k T5;have xj:=(N5.old A (h4.aG.lt M9)).trans tK;have nE:=(N5.old S (h4.aG.lt Hs)).trans Rq;have EI:=W5.more _ M9;have D4:=W5.more _ Hs;have uS:=(Rw A (h4.aG.lt M9)).trans QX;have xr:=(Rw S (h4.aG.lt Hs)).trans QY;obtain⟨Uy,EJ⟩:=Xt.step UH ((gI.refl (S:=S) h4.aG).k T5) h4.aG;have d05:w5.cell? ⟨S,0,none⟩=some (.pointer (some ⟨K.kb,0,none⟩)):=by simp[World.cell?,nE]
  have hhi:=UC fs (ji a);rw[<- h.Be.get] at hhi;cases CB:Hl fs (ji a)
  ·have MD:eW s.th (ji a)=none:=a8 fun q=>by rw[hhi.2 q] at CB;cases CB
   clear hhi;refine ax ?_;refine lz h5.aG D4 d05 fun _=>?_;refine ax ?_;refine cj func36 (Ke h5 (ji a) XV) ?_;rintro v6 o6 w6 ⟨aaX,T6,hq⟩;rcases hq with⟨e,rfl,-,q,h6⟩|⟨-,q,-⟩;rotate_left
   ·exact absurd MD q.2
   have e7:=q.2 Sg;subst e7;have U6:=U5.k T6;have Xu:=(T6.bt.same A (h5.aG.lt EI) (by rw[uS];omega)).trans xj;have Xv:=(T6.bt.same S (h5.aG.lt D4) (by rw[xr];omega)).trans nE;have FU:=T6.bt.more _ EI;have Ht:=T6.bt.more _ D4;have Na:=(T6.lab A (h5.aG.lt EI)).trans uS;have EK:=(T6.lab S (h5.aG.lt D4)).trans xr;obtain⟨Xw,DI⟩:=Uy.step EJ ((gI.refl (S:=S) h5.aG).k T6) h5.aG;refine ax ?_;refine dC W rfl ar rfl func22 ah rfl (by first|(simp[Act.eval];done)|(simp[Act.eval];rfl)) rfl ((Uk h6.aG S _ rv fv ed fs (ji a) aP false Xv Ht Xw (by have:=h.Be.gY.2;omega) (fun e=>(DI S e).2 rfl)).mono ?_);rintro v7 o7 w7 ⟨rfl,W7,Af,UI,hf7,OL⟩;obtain⟨xp,h7,T7,qJ,hn7⟩:=h6.aaU EK (h6.aG.lt Ht) W7;have U7:=U6.trans T7;have Mn:=(W7.same A (h6.aG.lt FU) uZ).trans Xu;have YR:=W7.more _ FU;have Nc:=W7.more _ Ht;have M0:=(qJ A (h6.aG.lt FU)).trans Na;have Nd:=(qJ S (h6.aG.lt Ht)).trans EK;have QZ:∀g,Af.ownBlock=some g->xp g=7/\g≠S:=fun g hg=>⟨hn7 g (OL g hg),by have:=OL g hg;have:=h6.aG.lt Ht;omega⟩;have UJ:∀g,Af.ownBlock=some g->g≠A:=fun g hg=>by have:=OL g hg;have:=h6.aG.lt FU;omega
   have hwe:IntKind.i64.wrap ((ed:Int)+1)=((ed+1:Nat):Int):=by rw[IntKind.wrap_i64]<;>omega
   refine ax ?_;refine uY 0 aP h7 U7 M0 (.inl Rm) YR Mn fun w9 h9 U9 lV Xx=>?_;refine ax ?_;have Xy:=(lV.2 S (fun e=>uZ e.symm)).trans UI;have Xz:=hf7.keep (o':=o7) (w':=w9) (fun _ q=>q) (fun g hg=>lV.2 g (UJ g hg));refine⟨.inr trivial,trivial,.tuple #[.agg #[.int .i64 0,.string aP],.bool true],vD Xx YR,_,_,_,_,_,_,_,rfl,⟨h9,h.sound,Xy,Nc,Nd,Xz,QZ,h.Be.ZA aP zA MD⟩,.inr (.inl ⟨rfl,rfl,rfl,rfl,.inr ⟨MD,rfl,rfl⟩⟩),U9,fun g hg=>.inr (by have:=OL g hg;have:=U6.bt.size;omega)⟩
  ·have ae6:eW s.th (ji a)≠none:=hhi.1 CB;clear hhi;refine ax ?_;refine lz h5.aG D4 d05 fun _=>?_;refine ax ?_;refine cj func36 (Ke h5 (ji a) XV) ?_;rintro v6 o6 w6 ⟨aaX,T6,hq⟩;rcases hq with⟨e,rfl,-,q,-⟩|⟨rfl,-,qX,h6⟩
   ·exact absurd ⟨Sg,ae6⟩ q.1
   have u6:=h.sound.remove (x:=ji a) (gS s.st (ji a) (IntKind.i64.wrap (cm s.st (ji a)+1))) qX;have U6:=U5.k T6;have Xu:=(T6.bt.same A (h5.aG.lt EI) (by rw[uS];omega)).trans xj;have Xv:=(T6.bt.same S (h5.aG.lt D4) (by rw[xr];omega)).trans nE;have FU:=T6.bt.more _ EI;have Ht:=T6.bt.more _ D4;have Na:=(T6.lab A (h5.aG.lt EI)).trans uS;have EK:=(T6.lab S (h5.aG.lt D4)).trans xr;obtain⟨Xw,DI⟩:=Uy.step EJ ((gI.refl (S:=S) h5.aG).k T6) h5.aG;refine ax ?_;refine dC W rfl ar rfl func22 ah rfl (by first|(simp[Act.eval];done)|(simp[Act.eval];rfl)) rfl ((Uk h6.aG S _ rv fv ed fs (ji a) aP false Xv Ht Xw (by have:=h.Be.gY.2;omega) (fun e=>(DI S e).2 rfl)).mono ?_);rintro v7 o7 w7 ⟨rfl,W7,Af,UI,hf7,OL⟩;obtain⟨xp,h7,T7,qJ,hn7⟩:=h6.aaU EK (h6.aG.lt Ht) W7;have U7:=U6.trans T7;have Mn:=(W7.same A (h6.aG.lt FU) uZ).trans Xu;have YR:=W7.more _ FU;have Nc:=W7.more _ Ht;have M0:=(qJ A (h6.aG.lt FU)).trans Na;have Nd:=(qJ S (h6.aG.lt Ht)).trans EK;have QZ:∀g,Af.ownBlock=some g->xp g=7/\g≠S:=fun g hg=>⟨hn7 g (OL g hg),by have:=OL g hg;have:=h6.aG.lt Ht;omega⟩;have UJ:∀g,Af.ownBlock=some g->g≠A:=fun g hg=>by have:=OL g hg;have:=h6.aG.lt FU;omega
   have hwe:IntKind.i64.wrap ((ed:Int)+1)=((ed+1:Nat):Int):=by rw[IntKind.wrap_i64]<;>omega
   refine ax ?_;refine lz h7.aG Nc (od UI).2.2.2 fun _=>?_;refine ax ?_;refine dz bS h7.aG rfl ar ar ?_ rfl (R:=fun wl aW=>aW=wl.setCell ⟨S,3,none⟩ (.int .i64 ((ed+1:Nat):Int))) (fun wl aU=>⟨_,?_,rfl⟩) fun wl aW w8 aU hR bO=>?_
   ·exact ja (bX Nc) dU
   ·have e:=(aU.heap _ Nc).trans UI;have e3:wl.cell? ⟨S,3,none⟩=some (.int .i64 ed):=by simp[World.cell?,e]
    have f3:wl.frozen? ⟨S,3,none⟩=false:=by simp[World.frozen?,e]
    simp[go_sem,e3,f3,hwe]
   have hO:eK S wl aW:=by rw[hR];exact je _ _ _ _
   obtain⟨FL,kSx,ey⟩:=bO.only aU Nc hO;have su:=bO.aG;rw[ey] at su |-;have kS8:w8.heap[S]?=some (.cells #[.pointer (some ⟨K.kb,0,none⟩),rv,Af,.int .i64 ((ed+1:Nat):Int)] 39):=by
    rw[kSx,hR];have e:=(aU.heap _ Nc).trans UI;simp[World.setCell,aS,e]
   obtain⟨h8,U8⟩:=h7.Hr U7 Nd (.inr rfl) su FL;clear hR bO aU hO wl aW ey kSx;refine ax ?_;have Qx:=(FL.2 A uZ).trans Mn;have hf8:=hf7.keep (o':=o7) (w':=w8) (fun _ q=>q) (fun g hg=>FL.2 g (QZ g hg).2);refine uY 0 aP h8 U8 M0 (.inl Rm) YR Qx fun w9 h9 U9 lV Xx=>?_;refine ax ?_;have Xy:=(lV.2 S (fun e=>uZ e.symm)).trans kS8;have Xz:=hf8.keep (o':=o7) (w':=w9) (fun _ q=>q) (fun g hg=>lV.2 g (UJ g hg));refine⟨.inr trivial,trivial,.tuple #[.agg #[.int .i64 0,.string aP],.bool true],vD Xx YR,_,_,_,_,_,_,_,rfl,⟨h9,u6,Xy,Nc,Nd,Xz,QZ,h.Be.remove aP zA rfl⟩,.inr (.inl ⟨rfl,rfl,rfl,rfl,.inl ⟨ae6,rfl,qX,rfl⟩⟩),U9,fun g hg=>.inr (by have:=OL g hg;have:=U6.bt.size;omega)⟩
 by_cases R2:kd=2
 ·subst R2;clear HU Yn;have hp9:=pg a (n:=9) aa;have hw9:IntKind.i64.wrap (1+(eH a 9:Int))=1+(eH a 9:Int):=by rw[IntKind.wrap_i64]<;>omega
  refine ax ?_;refine dS mixed ah [some none,some none,some none,some (some (.pointer (some ⟨K.kb,0,none⟩))),some none,some (some (.int .i64 a)),some (some (.int .i64 (eH a 9:Nat))),some none,none,some none]
   (S:=fun σ o' w'=>(σ 8=none/\gi o4 w4 o' w')\/∃y w5 pf,σ 8=some y/\gi o4 w4 o' w5/\bo o' w5 K s 0 pf/\(∀b,b<w4.heap.size->pf b=sF b)/\w'.heap.size=w5.heap.size/\(∀b,b≠K.kb->w'.heap[b]?=w5.heap[b]?)/\((y=.int .i64 8/\¬rO s.time (1+(eH a 9:Int))/\bo o' w' K s 0 pf)\/(y=.int .i64 0/\rO s.time (1+(eH a 9:Int))/\bo o' w' K {s with time:=s.time+(1+(eH a 9:Int)).toNat} 0 pf))) (.inl ⟨rfl,gi.refl h4.aG⟩) fun v9=>?_
  refine dR ?_;refine cE ?_;refine cq bS rfl rfl rfl ar ar (fun σ o' w' H hS=>?_) ?_
  ·rcases hS with⟨-,G⟩|⟨y,w5,pf,q,-⟩
   ·have hx:=G.bt.more _ Hs;exact tM G.bt.aG hx ((cell_of (G.bt.same S (h4.aG.lt Hs) id)).trans d0)
   ·rw[H.xz 8 ah] at q;cases q
  refine cE ?_;refine cq bS rfl rfl rfl ar ar (fun σ o' w' H hS=>?_) ?_
  ·rcases hS with⟨-,G⟩|⟨y,w5,pf,q,-⟩
   ·have hx:=G.bt.more _ oX4;exact tM G.bt.aG hx ((cell_of (G.bt.same X (h4.aG.lt oX4) id)).trans x1)
   ·rw[H.qQ [7,6] 8 ah] at q;cases q
  refine cE ?_;refine jU rfl rfl ar rfl func19 ah rfl (av:=#[.int .i64 a,.int .i64 9]) aI (fun σ o' w' H hS=>?_) ?_
  ·rcases hS with⟨h8,G⟩|⟨y,w5,pf,q,-⟩
   ·refine(Dz G.bt.aG a 9 ha1 ha2 aa aa).mono ?_;rintro y o5 w5 ⟨rfl,N5⟩;exact⟨rfl,.inl ⟨h8,G.trans (gi.eL N5)⟩⟩
   ·rw[H.qQ [7] 8 ah] at q;cases q
  aE;refine rB (y:=.int .i64 (1+(eH a 9:Int))) rfl rfl rfl ar (fun w1=>by simp[go_sem,Act.eval,hw9]) (fun w1=>by simp[go_sem,Act.eval]) ?_;aE;refine vm rfl rfl ar rfl func37 ah rfl (av:=#[.pointer (some ⟨K.kb,0,none⟩),.int .i64 (1+(eH a 9:Int))]) aI (fun σ o' w' H h8 hS=>?_) ?_
  ·rcases hS with⟨-,G⟩|⟨y,w5,pf,q,-⟩
   ·obtain⟨pf,h5,-,Rw,-⟩:=h4.grown (cP.refl h4.aG) G.bt;refine(MT h5 (1+(eH a 9:Int))).mono ?_;rintro y o6 w6 ⟨rfl,t1,t2,t3⟩;exact .inr ⟨y,w',pf,by simp[fR],G,h5,Rw,t1,t2,t3⟩
   ·rw[h8] at q;cases q
  refine cE ?_;refine cD fun σ o5 w6 mC hS=>?_;rcases hS with⟨q,-⟩|⟨y,w5,pf,q,G5,h5,q2,q3,q4,q5⟩
  ·rw[mC 8 eA rfl] at q;cases q
  have hv:v9 8=y:=aR ((mC 8 eA rfl).symm.trans q);clear mC q;rcases q5 with⟨rfl,ht,h6⟩|⟨rfl,ht,h6⟩
  ·simp only[hv];have FA:=h6.aG;have T6:cP o5 w5 pf o5 w6 pf:=cP.of (bB.dI (ex:=(·=K.kb)) FA ⟨q3,q4⟩ rfl) (fun b hb=>by rw[hb,h5.l0];omega);have U6:=(U4.trans ⟨G5.bt.mono (fun b hb=>hb.elim),q2⟩).k T6;have xj:=(G5.bt.same A (h4.aG.lt M9) id).trans tK;have nE:=(G5.bt.same S (h4.aG.lt Hs) id).trans Rq;have EI:=G5.bt.more _ M9;have D4:=G5.bt.more _ Hs;have uS:=(q2 A (h4.aG.lt M9)).trans QX;have xr:=(q2 S (h4.aG.lt Hs)).trans QY;obtain⟨Uy,EJ⟩:=Xt.step UH (S:=S) (lab':=pf) ⟨G5.bt.mono (fun b hb=>hb.elim),q2⟩ h4.aG;have Xu:=(T6.bt.same A (h5.aG.lt EI) (by rw[uS];omega)).trans xj;have Xv:=(T6.bt.same S (h5.aG.lt D4) (by rw[xr];omega)).trans nE;obtain⟨Xw,DI⟩:=Uy.step EJ ((gI.refl (S:=S) h5.aG).k T6) h5.aG;have UJ:∀g,fv.ownBlock=some g->g≠A:=fun g hg=>by have:=h.dH.aG.lt (gL h.dH.aG h.files.cl g hg);omega
   simp only[iM,dK,if_true,if_false,reduceIte,Nat.reduceEqDiff];refine ax ?_;refine uY 0 aP h6 U6 uS (.inl Rm) EI Xu fun w9 h9 U9 lV Xx=>?_;refine ax ?_;have Xy:=(lV.2 S (fun e=>uZ e.symm)).trans Xv;have Xz:=Xw.keep (o':=o5) (w':=w9) (fun _ q=>q) (fun g hg=>lV.2 g (UJ g hg));refine⟨.inr trivial,trivial,.tuple #[.agg #[.int .i64 0,.string aP],.bool true],vD Xx EI,_,_,_,_,_,_,_,rfl,⟨h9,h.sound,Xy,D4,xr,Xz,DI,h.Be⟩,.inr (.inr (.inl ⟨rfl,rfl,rfl,rfl,rfl,.inl ⟨ht,rfl⟩⟩)),U9,fun g hg=>.inl hg⟩
  ·simp only[hv];have FA:=h6.aG;have T6:cP o5 w5 pf o5 w6 pf:=cP.of (bB.dI (ex:=(·=K.kb)) FA ⟨q3,q4⟩ rfl) (fun b hb=>by rw[hb,h5.l0];omega);have U6:=(U4.trans ⟨G5.bt.mono (fun b hb=>hb.elim),q2⟩).k T6;have xj:=(G5.bt.same A (h4.aG.lt M9) id).trans tK;have nE:=(G5.bt.same S (h4.aG.lt Hs) id).trans Rq;have EI:=G5.bt.more _ M9;have D4:=G5.bt.more _ Hs;have uS:=(q2 A (h4.aG.lt M9)).trans QX;have xr:=(q2 S (h4.aG.lt Hs)).trans QY;obtain⟨Uy,EJ⟩:=Xt.step UH (S:=S) (lab':=pf) ⟨G5.bt.mono (fun b hb=>hb.elim),q2⟩ h4.aG;have Xu:=(T6.bt.same A (h5.aG.lt EI) (by rw[uS];omega)).trans xj;have Xv:=(T6.bt.same S (h5.aG.lt D4) (by rw[xr];omega)).trans nE;obtain⟨Xw,DI⟩:=Uy.step EJ ((gI.refl (S:=S) h5.aG).k T6) h5.aG;have UJ:∀g,fv.ownBlock=some g->g≠A:=fun g hg=>by have:=h.dH.aG.lt (gL h.dH.aG h.files.cl g hg);omega
   simp only[iM,dK,if_true,if_false,reduceIte,Nat.reduceEqDiff];refine ax ?_;refine uY 0 aP h6 U6 uS (.inl Rm) EI Xu fun w9 h9 U9 lV Xx=>?_;refine ax ?_;have Xy:=(lV.2 S (fun e=>uZ e.symm)).trans Xv;have Xz:=Xw.keep (o':=o5) (w':=w9) (fun _ q=>q) (fun g hg=>lV.2 g (UJ g hg));refine⟨.inr trivial,trivial,.tuple #[.agg #[.int .i64 0,.string aP],.bool true],vD Xx EI,_,_,_,_,_,_,_,rfl,⟨h9,h.sound.tick _,Xy,D4,xr,Xz,DI,h.Be.same rfl⟩,.inr (.inr (.inl ⟨rfl,rfl,rfl,rfl,rfl,.inr ⟨ht,rfl⟩⟩)),U9,fun g hg=>.inl hg⟩
 refine ax ?_;refine ig W (t:=false) (by simp[Act.eval,HU]) ?_;simp only[if_false,reduceIte,aM];refine ax ?_;refine ig W (t:=false) (by simp[Act.eval,Yn]) ?_;simp only[if_false,reduceIte,aM];refine ax ?_;refine ig W (t:=false) (by simp[Act.eval,R2]) ?_;simp only[if_false,reduceIte,aM];refine ax ?_;refine lz h4.aG Hs d0 fun _=>?_;refine ax ?_;refine cj func38 (uU h4 h.sound) ?_;rintro v5 o5 w5 ⟨s5,pf,F5,ajI,hw5,u5,h5,T5⟩;have U5:=U4.k T5;have xj:=(T5.bt.same A (h4.aG.lt M9) (by rw[QX];omega)).trans tK;have nE:=(T5.bt.same S (h4.aG.lt Hs) (by rw[QY];omega)).trans Rq;have EI:=T5.bt.more _ M9;have D4:=T5.bt.more _ Hs;have uS:=(T5.lab A (h4.aG.lt M9)).trans QX;have xr:=(T5.lab S (h4.aG.lt Hs)).trans QY;obtain⟨Uy,EJ⟩:=Xt.step UH ((gI.refl (S:=S) h4.aG).k T5) h4.aG;obtain⟨n,y,hv,KV,hn6,-,Vk,-⟩:=hw5.kind;subst hv;have UJ:∀g,fv.ownBlock=some g->g≠A:=fun g hg=>by have:=h.dH.aG.lt (gL h.dH.aG h.files.cl g hg);omega
 unfold did;refine ax ?_;refine tn n y h5 fun D o6 w7 aaX hD hV=>?_;have zA5:=h5.aG.lt EI;have zS5:=h5.aG.lt D4;have h7:=hV.dH;have U7:=U5.k hV.step;have Mn:=(hV.old A zA5).2.trans xj;have UI:=(hV.old S zS5).2.trans nE;have FU:=hV.bt.more _ EI;have Ht:=hV.bt.more _ D4;have Na:=(hV.old A zA5).1.trans uS;have EK:=(hV.old S zS5).1.trans xr;obtain⟨hf7,DI⟩:=Uy.step EJ ((gI.refl (S:=S) h5.aG).k hV.step) h5.aG;obtain⟨g0,g1,-⟩:=dQ hV.blk;have oD6:=hV.own;have hF7:=h7.aG;have hDA:D≠A:=aa;refine ax ?_;refine dS mixed ah [some (some (.agg #[.int .i64 n,.string y])),some none,some (some (.int .i64 n)),some none,some none,some none,some (some (.int .i64 n)),some none,some none,none,some none]
  (S:=fun σ o' w'=>o6=o'/\bN au L0 o' w'/\eK A w7 w'/\w'.heap[A]?=some (.cells (if (σ 9).isSome then #[.int .i64 n,.string y] else #[.int .i64 0,.string aP]) 32)) ⟨rfl,hF7,eK.refl,Mn⟩ fun v9=>?_
 refine dR ?_;refine cq bS rfl rfl rfl ar ar (fun σ o' w' H hS=>?_) ?_
 ·obtain⟨rfl,hf,on,-⟩:=hS;have e:=on.2 D hDA;exact⟨hf,ng (bX oD6),fun wl aU=>by simp[go_sem,(aU.cell oD6).trans ((cell_of e).trans g0),(aU.cell oD6).trans ((cell_of e).trans g1)]⟩
 refine cE ?_;refine cq bS rfl rfl rfl ar ar (fun σ o' w' H hS=>?_) ?_
 ·obtain⟨rfl,hf,on,-⟩:=hS;exact tM hf oD6 ((cell_of (on.2 D hDA)).trans g0)
 aE;refine rB (y:=.bool true) rfl rfl rfl ar (fun w1=>by simp[go_sem,Act.eval,KV]) (fun w1=>by simp[go_sem,Act.eval]) ?_;refine cE ?_;refine cq bS rfl rfl rfl ar ar (fun σ o' w' H hS=>?_) ?_
 ·obtain⟨rfl,hf,on,-⟩:=hS;exact tM hf oD6 ((cell_of (on.2 D hDA)).trans g0)
 aE;refine rB (y:=.bool true) rfl rfl rfl ar (fun w1=>by simp[go_sem,Act.eval,hn6]) (fun w1=>by simp[go_sem,Act.eval]) ?_;refine cE ?_;refine pS bS rfl rfl rfl ar ar (fun σ o' w' H h9 hS=>?_) ?_
 ·obtain⟨rfl,hf,on,kA⟩:=hS;simp only[h9,Option.isSome_none,aM,if_false] at kA;refine⟨hf,fun z hz=>?_,fun wl aW=>aW=(wl.setCell ⟨A,0,none⟩ (.int .i64 n)).setCell ⟨A,1,none⟩ (.string y),fun wl aU=>⟨_,?_,rfl⟩,fun wl aW w8 aU hR bO=>?_⟩
  ·simp[Op.operands] at hz;rcases hz with rfl|rfl
   ·simp[Act.eval];exact bX FU
   ·simp[Act.eval];refine fX (vs:=[_,_]) (fun x hx=>?_);simp at hx;rcases hx with rfl|rfl
    ·exact dU
    ·exact bU
  ·obtain⟨e0,e1,f0,f1⟩:=dQ ((aU.heap _ FU).trans kA);simp[go_sem,Act.eval,e0,e1,f0,f1]
  ·have hO:eK A wl aW:=by rw[hR];exact AG _ _ _ _ _ _
   obtain⟨FL,YH,ey⟩:=bO.only aU FU hO;have su:=bO.aG;rw[ey] at su |-;rw[hR,TH ((aU.heap _ FU).trans kA)] at YH;exact⟨rfl,su,⟨FL.1.trans on.1,fun c hc=>(FL.2 c hc).trans (on.2 c hc)⟩,by simp[fR,YH]⟩
 refine cE ?_;refine cD fun σ o8 w8 mC hS=>?_;obtain⟨rfl,su,FL,YH⟩:=hS;simp only[mC 9 eA rfl,Option.isSome_some,if_true] at YH;clear mC;obtain⟨h8,U8⟩:=h7.Hr U7 Na (.inl Rm) su FL;have kS8:=(FL.2 S (fun e=>uZ e.symm)).trans UI;have hf8:=hf7.keep (o':=o6) (w':=w8) (fun _ q=>q) (fun g hg=>FL.2 g (UJ g hg));simp only[iM,dK,if_true,if_false,reduceIte,Nat.reduceEqDiff];refine ax ?_;refine⟨.inr trivial,trivial,.tuple #[.agg #[.int .i64 n,.string y],.bool true],vD YH FU,_,_,_,_,_,_,_,rfl,⟨h8,u5,kS8,Ht,EK,hf8,DI,h.Be.same Vk⟩,.inr (.inr (.inr ⟨HU,Yn,R2,rfl,rfl,F5,ajI,hw5⟩)),U8,fun g hg=>.inl hg⟩
end
section
variable {Fin:bL} {o o' o1 o2 o3:aN} {w w' w1 w2 w3:ae} {S Nb:Nat} {K:pG} {s s' s2:gV} {lab lab' dt fW kQ:Nat->Nat} {rv fv Nf sv:Value} {fs EL:List (af×af)} {ed zd:Nat} {since:List af}
theorem yY{P:Program}{m:Bool}{R:aN->ae->ae->Prop}{Gu:aN->ae->ae->Array Event->Prop}{X:aN->aY->ae->Prop}{fn:FuncId}{Q:Exit->Act->aN->ae->Prop}{a:Act}(W:fM P m R Gu X){x y:Code}(J:Act->aN->ae->Prop)(h1:wm X fn x (iM J Q) a o w)(h2:∀a' o' w',J a' o' w'->wm X fn y Q a' o' w'):wm X fn (.seq x y) Q a o w :=
 pO W (IK h1 fun e a o w hq=>by
  cases e
  case normal=>exact h2 _ _ _ hq
  all_goals exact hq)
structure FV(Fin:bL)(w:ae)(p:Option Addr)(b off:Nat)(xs:List (Int×Int×Int)):Prop where
 ptr:xs≠[]->p=some ⟨b,off,none⟩/\yh Fin b/\b<w.heap.size
 at_:∀i (h:i<xs.length),w.cell? ⟨b,off+i*3,none⟩=some (.int .i64 xs[i].1)/\w.cell? ⟨b,off+i*3+1,none⟩=some (.int .i64 xs[i].2.1)/\w.cell? ⟨b,off+i*3+2,none⟩=some (.int .i64 xs[i].2.2)
 Xg:∀x∈xs,(-9223372036854775808<=x.2.1/\x.2.1<=9223372036854775807)/\(-9223372036854775808<=x.2.2/\x.2.2<=9223372036854775807)
 ET:xs.length*24<=140737488355328
theorem Ng{P:Program}(w1:ae)(es:Array Event)(t e:TypeId)(b k n ec:Nat)(ht:P.underlying t=some (.slice e))(hkc:k<=ec):(Instr.sliceAt t (.slice (some ⟨b,0,none⟩) n ec) none (some (.int .i64 k)) none).events P w1 es=es:=by
 have h:(k:Int)<=ec:=aa;have b1:∀w es c,(Instr.sliceBound (.int .i64 k) ec c).events P w es=es:=fun w es c=>by
  simp[Instr.sliceBound,asIntOf,h]
 unfold Instr.sliceAt;simp[Instr.slice,Instr.sliceBounds,Instr.sureAddr,Sem.events_bind,run_underlying ht,run_sliceBound,b1,h,go_sem]
end
end Go.Proofs.Kz
namespace Go.Ren
open Go.Conc Go.ConcN
def DJ(P:Program)(X:aN->aY->ae->Prop)(f:FuncId)(fc:Func)(vs:Array Value)(o:aN)(w:ae)(Post:Value->aN->ae->Prop):Prop :=
 ∃c,fc.body=some c/\wm X f c (fun e a' o' w'=>(e=.normal\/e=.ret)/\a'.defers=[]/\∃v,ResultsC P fc a'.tmps v/\Post v o' w') {tmps:=vs++Array.replicate (fc.ntmps-vs.size) undef,defers:=[]} o w
section
variable {P:Program} {m:Bool} {R:aN->ae->ae->Prop} {Gu:aN->ae->ae->Array Event->Prop} {X:aN->aY->ae->Prop} {o:aN} {w:ae}
theorem DJ.top(W:fM P m R Gu X){f:FuncId}{fc:Func}{vs:Array Value}{Post:Value->aN->ae->Prop}(hf:P.funcs[f]?=some fc)(h:DJ P X f fc vs o w Post)(hc:∀(a':Act) (o':aN) (w':ae) (todo:List Item) (v:Value),a'.defers=[]->ResultsC P fc a'.tmps v->Post v o' w'->X o' (G {(base f).at a' todo with mode:=.returning} []) w'):
  X o (G (Frame.enter P f vs .normal) []) w:=by
 obtain⟨c,fK,h⟩:=h;rw[iS hf fK];refine h (base f) [] [] rfl (by simp[base]) fun e a' o' w' q=>?_;obtain⟨he,hd,v,hr,hx⟩:=q;rcases he with rfl|rfl
 ·exact W.go rfl (fun _=>eu) (hc a' o' w' [] v hd hr hx)
 ·exact fun todo=>hc a' o' w' todo v hd hr hx
theorem Bf{b:Frame}{a:Act}{fn:Func}{todo:List Item}{v:Value}(hi:P.inits.idxOf? b.fn=none)(hn:b.kind=.normal)(hd:a.defers=[])(hf:P.funcs[b.fn]?=some fn)(hr:(results fn a.tmps).run P w=.ok v w)(he:(results fn a.tmps).events P w #[]=#[]):
  stepG P true (G {b.at a todo with mode:=.returning} []) w=.ended (.done v) w #[]:=by
 simp[G,stepG,unwind,doReturn,Frame.at,hn,hd,hf,hr,he,hi,GStep.after,seen_none]
end
section
variable {P:Program}
theorem KF{S:Nat->Prop}{Post:Value->ae->Prop}{a:aY}{W:ae}(hS:∀b,W.heap.size<=b->¬S b)(h:BX P (Sz P Post) 0 S a W):
  ∃N last o w' t',runNT P (N+1) (solo a W) #[]=(.ended o w',t')/\runN P N (solo a W)=.next last/\step P last=.ended o w'/\Conc.Good P Post last o w' t':=by
 have UW:mI 0 S #[]:=⟨past_nil.clean,fun i a ha=>by simp[touchAt,Trace.act?] at ha,past_nil.over,rfl⟩;obtain⟨N,gs,w,sl,t,q,S,g,k1,k2,k3,k4,_,k6⟩:=h #[a] none #[] (fun _=>0) rfl (leavers_one P a) UW hS;obtain⟨B,hB⟩:=k4.RV;obtain⟨N2,last,o,w',t',l1,l2,l3,l4⟩:=beside_ends (P:=P) (Shun:=uh S) (B:=B+0) (D:=fun _ _ _=>False) (Post:=Post) (n:=0) (sl:=sl) (fun _ _ _ hf=>hf.elim) k2 k3 (hB 0) (fun w1 hw=>by
  obtain⟨h1,v,h2,h3⟩:=k6 w1 hw;exact⟨h1,v,#[],h2,aj,h3⟩)
 refine⟨N+N2,last,o,w',t',?_,?_,l3,l4⟩
 ·rw[dO,runNT_add,solo_eq_crowd,k1];exact l1
 ·rw[runN_add,solo_eq_crowd,<- runNT_fst P _ _ #[],k1];exact l2
theorem Hu{f:FuncId}{fc:Func}{vs:Array Value}{o:aN}{W:ae}{Q:Value->aN->ae->Prop}(A:Nat->Prop)(hA:∀b,A b->b<W.heap.size)(hf:P.funcs[f]?=some fc)(hi:P.inits.idxOf? f=none)(h:∀Fin,(∀b,A b->yh Fin b)->DJ P (XB P Fin 0) f fc vs o W Q):
  ∃N last o' w' t',runNT P (N+1) (solo (G (Frame.enter P f vs .normal) []) W) #[]=(.ended o' w',t')/\runN P N (solo (G (Frame.enter P f vs .normal) []) W)=.next last/\step P last=.ended o' w' /\
   Conc.Good P (fun v w'=>(∃o1 w1,w'.heap=w1.heap/\Q v o1 w1)/\w'.os=W.os/\w'.output=W.output) last o' w' t':=by
 have pw:∀{w1 w2:ae},AtRel w1 w2->w2.heap=w1.heap/\w2.os=w1.os/\w2.output=w1.output:=fun hx=>by obtain⟨d,rfl⟩:=hx;exact⟨rfl,rfl,rfl⟩
 let F:bL:=fun S g w=>Sz P (fun v w'=>∃o1 w1,w'.heap=w1.heap/\Q v o1 w1) S g w/\(∀b,A b->¬S b)\/w.output≠W.output/\∀b,A b->¬S b;have hL:∀b,A b->yh F b:=fun b hb S g w hx=>hx.elim (fun k=>k.2 b hb) fun k=>k.2 b hb;have hB:uA F W:=fun b hb=>fF fun hle=>hb (fun x=>x=b) (G (Frame.enter P f vs .normal) []) {W with output:=W.output.push (0,ByteArray.empty)} (.inr ⟨fun e=>by have:=congrArg (fun x=>x.size) e;simp at this,fun x hx e=>by have:=hA x hx;omega⟩) rfl;have hx:XB P F 0 o (G (Frame.enter P f vs .normal) []) W :=
  DJ.top bY hf (h _ hL) fun a' o' w' todo v hd hr hq=>(fun _=>A3.fin fun w1 hw=>⟨.inl ⟨fun w2 va=>⟨rfl,v,Bf hi rfl hd hf (hr w2).1 (hr w2).2,o',w',(pw (atRel_trans _ _ _ hw va)).1,hq⟩,fun b hb hs=>hs.2.2 (hL b hb)⟩,(pw hw).2⟩)
 refine KF (S:=Fo F o W) (fun b hb hx=>by have:=hx.1;omega) ((hx hB).bx.mono fun S g w hw=>?_);intro w1 h1;obtain⟨k1,v,k2,k3⟩:=(hw.1.resolve_right fun k=>k.1 hw.2.2).1 w1 h1;exact⟨k1,v,k2,k3,(pw h1).2.1.trans hw.2.1,(pw h1).2.2.trans hw.2.2⟩
end
end Go.Ren
namespace Go
open Go.Conc
section
open Go.ConcM
section
variable {H:Type} {enc:TypeId×Value->H}
theorem jf{a:Assume}{C:Checked}{os:Os}{f:FuncId}{fn:Func}{s:ChangeSpec}{F:Stop.Interp}{conds:List PathCond}{apart fresh handsOn:Bool}{laid:List (String×DataW Unit)}(own:ownKnob C.prog.godebug=none)(started:os.Started)(qK:C.prog.funcs[f]?=some fn)(witness:∃(w:ae) (tape:Tape) (i:Input),w.os=os/\(w.forCall tape i).Shaped C.prog/\i.vars=[]/\Input.okWide C.prog (w.forCall tape i) .any w.heap.size f i /\
   ((s.pre enc C.prog fn conds apart (w.forCall tape i).memory i.args/\laidMetH C.prog laid (w.forCall tape i).memory)/\sizedMet enc C.prog fn (OpenSpec.ofChange s) apart (w.forCall tape i).memory i.args)/\a.holds C.prog (lone (Frame.enter C.prog f i.args .normal) [] (w.forCall tape i)))(runs:∀(W:ae) (base:Nat) (args:Array Value) (ds gs:List (DataW H)) (before:List MemPlace),
   (∀(j:Nat) t v,fn.params[j]?=some t->args[j]?=some v->Value.okWide C.prog W .any base t v) ->
   DataW.Whole enc C.prog fn.params.toList s.vars apart W args.toList ds gs before ->
   (DataW.weightsEach C.prog (fn.params.toList++s.plain.varTypes C.prog) (ds++gs)).all (·<=reachBytes)=true ->
   laidMetH C.prog laid W->W.ShapedOpen C.prog ->
   ∃M last o w' t',runNT C.prog (M+1) (solo (G (Frame.enter C.prog f args .normal) []) W) #[]=(.ended o w',t')/\runN C.prog M (solo (G (Frame.enter C.prog f args .normal) []) W)=.next last /\
    step C.prog last=.ended o w'/\Conc.Good C.prog (fun v W'=>s.post enc C.prog fn apart fresh handsOn false W args v {W' with os:=W.os}/\OsLater W.os W'.os) last o w' t'):
  ReturnsInLeavingWide a C os f .any (fun w args=>(s.pre enc C.prog fn conds apart w args/\laidMetH C.prog laid w)/\sizedMet enc C.prog fn (OpenSpec.ofChange s) apart w args) ((OpenSpec.ofChange s).postWith enc C.prog fn F (outsideKept [.timePasses]) apart fresh handsOn):=by
 refine returnsInLeavingWide_of_good own started witness ?_;intro w tape i _ tx _ jj QQ ajK;obtain⟨_,_,_,fn',ajL,_,_,_,_,oJ⟩:=jj;have e:fn'=fn:=aR (ajL.symm.trans qK);subst e;obtain⟨⟨⟨ds,gs,before,hw,hc⟩,hl⟩,hz⟩:=QQ;have hw':=DataW.Whole.of_heap (w':=w.forCall tape i) ar hw;obtain⟨M,last,o,w',t',h1,h2,h3,h4⟩:=runs (w.forCall tape i) w.heap.size i.args ds gs before oJ hw' (hz.weights hw) (laidMetH.of_heap ar hl) tx;obtain⟨v,e,hp,r1,r2,r3,r4⟩:=h4;exact⟨M,last,o,w',t',h1,h2,h3,v,e,postWith_blind (postWith_of_post hp.1 hp.2),r1,r2,r3,r4⟩
theorem ChangeSpec.yZ{C:Checked}{os:Os}{f:FuncId}{fn:Func}{s:ChangeSpec}{conds:List PathCond}{apart:Bool}{laid:List (String×DataW Unit)}(w0:ae)(args:Array Value)(fuel:Nat)(Y7:w0.os=os)(tx:(w0.forCall (fun _ _=>0) ⟨#[],args,[]⟩).Shaped C.prog)(jj:Input.okWideB C.prog (w0.forCall (fun _ _=>0) ⟨#[],args,[]⟩) f ⟨#[],args,[]⟩=true)(QQ:s.preB enc C.prog fn conds apart (w0.forCall (fun _ _=>0) ⟨#[],args,[]⟩).memory args fuel=true)(fJ:s.sizedB enc C.prog fn apart (w0.forCall (fun _ _=>0) ⟨#[],args,[]⟩).memory args fuel=true)(hx:laidMetH C.prog laid (w0.forCall (fun _ _=>0) ⟨#[],args,[]⟩).memory):
  ∃(w:ae) (tape:Tape) (i:Input),w.os=os/\(w.forCall tape i).Shaped C.prog/\i.vars=[]/\Input.okWide C.prog (w.forCall tape i) .any w.heap.size f i /\
   ((s.pre enc C.prog fn conds apart (w.forCall tape i).memory i.args/\laidMetH C.prog laid (w.forCall tape i).memory)/\sizedMet enc C.prog fn (OpenSpec.ofChange s) apart (w.forCall tape i).memory i.args)/\({calm:=true}:Assume).holds C.prog (lone (Frame.enter C.prog f i.args .normal) [] (w.forCall tape i)) :=
 ⟨w0,fun _ _=>0,⟨#[],args,[]⟩,Y7,tx,(Input.okWide_of_okWideB (base:=0) jj).1,(Input.okWide_of_okWideB jj).2,⟨⟨ChangeSpec.pre_of_preB QQ,hx⟩,sizedMet_of_sizedB fJ⟩,by
  simp only[Assume.holds];exact⟨aj,fun _ _ _ _=>rfl,aj,aj,aj⟩⟩
end
end
end Go
namespace Go.Proofs.Kz
open Go.Proofs.Tryz
open Go.Proofs.Tryz renaming prog → au
open _root_.ByteArray renaming empty → aP
open Go.Ren Go.Conc Go.Proofs Go.ConcN
open Go.ConcR (Payload)
section
open Go.ChangeShapes Go.WideShapes Go.Deep Go.RowKit Go.ConcM
section
variable {Fin:bL} {W:ae}
theorem uW.of{p:Option Addr}{b off:Nat}{rw:List EH}(hL:∀b,b<W.heap.size->yh Fin b)(h1:rw≠[]->p=some ⟨b,off,none⟩/\b<W.heap.size)(h2:∀i (h:i<rw.length),OF W ⟨b,off,none⟩ i rw[i])(h3:rw.length<=9223372036854775807):uW Fin W p b off rw:=by
 have hm:∀r∈rw,∃i,OF W ⟨b,off,none⟩ i r:=fun r hr=>by
  obtain⟨i,hi,rfl⟩:=bf hr;exact⟨i,h2 i hi⟩
 refine⟨fun q=>⟨(h1 q).1,hL _ (h1 q).2,(h1 q).2⟩,fun i hi=>?_,fun r hr=>?_,fun r hr=>?_,h3,fun r hr=>?_⟩
 ·have c0:=(h2 i hi).c0;have c1:=(h2 i hi).c1;rw[DD] at c0 c1;exact⟨c0,by rw[dO];exact c1⟩
 ·obtain⟨i,h⟩:=hm r hr;exact⟨fun q=>⟨(h.ptr q).1,hL _ (h.ptr q).2,(h.ptr q).2⟩,h.ins⟩
 ·obtain⟨i,h⟩:=hm r hr;exact h.Xg
 ·obtain⟨i,h⟩:=hm r hr;exact h.ET
theorem FV.of{p:Option Addr}{b off:Nat}{xs:List (Int×Int×Int)}(hL:∀b,b<W.heap.size->yh Fin b)(h1:xs≠[]->p=some ⟨b,off,none⟩/\b<W.heap.size)(h2:∀i (h:i<xs.length),M8 W ⟨b,off,none⟩ i xs[i])(h3:xs.length*24<=140737488355328):FV Fin W p b off xs:=by
 refine⟨fun q=>⟨(h1 q).1,hL _ (h1 q).2,(h1 q).2⟩,fun i hi=>?_,fun x hx=>?_,h3⟩
 ·have c0:=(h2 i hi).c0;have c1:=(h2 i hi).c1;have c2:=(h2 i hi).c2;rw[DD] at c0 c1 c2;exact⟨c0,by rw[dO];exact c1,by rw[dO];exact c2⟩
 ·obtain⟨i,hi,rfl⟩:=bf hx;exact(h2 i hi).Xg
end
def p6(f:FuncId)(fc:Func):Prop :=
 ∀(Fin:bL) (o:aN) (w:ae),bN au L0 o w->jb w->∀(p:Option Addr) (b off c:Nat) (rw:List EH),uW Fin w p b off rw->∀(q:Option Addr) (qb Bg d:Nat) (xs:List (Int×Int×Int)),FV Fin w q qb Bg xs ->
  DJ au (XB au Fin 0) f fc #[.slice p rw.length c,.slice q xs.length d] o w fun v o' w'=>v=.bool true/\bB (fun _=>False) o w o' w'
def OM:List (String×DataW Unit):=[("math/bits.deBruijn32tab",YtgjekaaknjgnmaaGreatDoor.Rows.laid_math_bits_deBruijn32tab),("math/bits.deBruijn64tab",YtgjekaaknjgnmaaGreatDoor.Rows.laid_math_bits_deBruijn64tab),("internal/strconv.uint64pow10",YtgjekaaknjgnmaaGreatDoor.Rows.laid_internal_strconv_uint64pow10)]
theorem KG:ownKnob au.godebug=none:=ah
theorem KH:laidOutB au=true:=ah
theorem KI(os:Os)(args:Array Value):laidMetH au OM ((World.doorLaid au 400 os).forCall (fun _ _=>0) ⟨#[],args,[]⟩).memory :=
 laidMetH_of_parts3 (fuel:=8) (laidMet_of_run' 8 ah ah) ah ah
section
variable {H:Type} {enc:TypeId×Value->H}
theorem KJ{f:FuncId}{fc:Func}{s:ChangeSpec}(hf:au.funcs[f]?=some fc)(hi:au.inits.idxOf? f=none)(hp:fc.params=#[25,26])(hr:fc.resultTypes=#[4])(hv:s.vars=[])(hs:∀(H:Type) (d1 d2:DataW H),s.fn H [d1,d2]={results:=[.lit (.bool true)],args:=[d1,d2]})(hb:p6 f fc)(W:ae)(base:Nat)(args:Array Value)(ds gs:List (DataW H))(before:List MemPlace)(oJ:∀(j:Nat) t v,fc.params[j]?=some t->args[j]?=some v->Value.okWide au W .any base t v)(hW:DataW.Whole enc au fc.params.toList s.vars false W args.toList ds gs before)(hwt:(DataW.weightsEach au (fc.params.toList++s.plain.varTypes au) (ds++gs)).all (·<=reachBytes)=true)(ae8:laidMetH au OM W)(tx:W.ShapedOpen au):
  ∃M last o w' t',runNT au (M+1) (solo (G (Frame.enter au f args .normal) []) W) #[]=(.ended o w',t')/\runN au M (solo (G (Frame.enter au f args .normal) []) W)=.next last /\
   step au last=.ended o w'/\Conc.Good au (fun v W'=>s.post enc au fc false true false false W args v {W' with os:=W.os}/\OsLater W.os W'.os) last o w' t':=by
 have hW':=hW;obtain⟨p,q,hA,hV,rfl,hfz,vk⟩:=hW;rw[hp] at hA oJ;rw[hv] at hV;obtain⟨v0,v1,d0,d1,p0,p1,rfl,rfl,rfl,h0,h1⟩:=trodAll_two hA;obtain⟨rfl,rfl⟩:=trodVars_none hV;have hvt:s.plain.varTypes au=[]:=by simp[ChangeSpec.plain,DataSpec.varTypes,hv]
 rw[hp,hvt] at hwt;have rm:∀x∈d1.weights au 26,x<=reachBytes:=fun x hx=>by
  have:=List.all_eq_true.1 hwt x (by simp[DataW.weightsEach,hx]);simpa using this
 obtain⟨rp,rb,ajM,ajN,rw,e0,r1,r2,r3⟩:=Us (oJ 0 _ v0 rfl rfl) h0;obtain⟨sp,sb,ajO,ajP,xs,e1,s1,s2,s3⟩:=Uu (oJ 1 _ v1 rfl rfl) h1 rm;obtain⟨M,last,o,w',t',k1,k2,k3,v,ev,⟨⟨o1,w1,eh,rfl,YS⟩,eos,ajQ⟩,g1,g2,g3,g4⟩:=Hu (P:=au) (vs:=#[v0,v1]) (o:=fun b=>b<4) (W:=W) (Q:=fun v o' w'=>v=.bool true/\bB (fun _=>False) (fun b=>b<4) W o' w') (fun b=>b<W.heap.size) (fun b hb=>hb) hf hi (fun Fin hL=>by
  rw[e0,e1];exact hb Fin _ W (QF tx) (MN rfl ae8) rp rb ajM ajN rw (uW.of hL r1 r2 r3) sp sb ajO ajP xs (FV.of hL s1 s2 s3))
 refine⟨M,last,o,w',t',k1,k2,k3,_,ev,⟨?_,0,by rw[eos];rfl⟩,g1,g2,g3,g4⟩;have aaZ:Below W.heap.size W {W with heap:=w'.heap}:=⟨rfl,rfl,rfl,by show W.heap.size<=w'.heap.size;rw[eh];exact YS.size,fun k hk=>by show w'.heap[k]?=_;rw[eh];exact YS.same k hk id⟩;have cB:∀x∈p0++p1,x.block<W.heap.size:=hA.lt;have uv:DataW.TrodAll enc au {W with heap:=w'.heap} 0 (fun b=>decide (b<W.heap.size)) true [25,26] [v0,v1] [d0,d1] (p0++p1) :=
  trodAll_mk2 (Below.trod KH ah (fx ah) h0 aaZ fun x hx=>cB x (List.mem_append_left _ hx)) (Below.trod KH ah (fx ah) h1 aaZ fun x hx=>cB x (List.mem_append_right _ hx))
 have hk:=aaZ.frame (fun p=>p∈p0++p1++[]/\(p∈([]:List MemPlace)\/p∈p0++p1\/p∈([]:List MemPlace)));refine⟨_,_,_,[],p0++p1,[],hW',?_,?_,?_,⟨rfl,ajQ,hk.2.2⟩,fun h=>by cases h⟩
 ·rw[show([d0,d1]++[]:List (DataW H))=[d0,d1] from rfl,hs,hr];exact trodAll_mk1 (shut_bool underlying4 _)
 ·rw[show([d0,d1]++[]:List (DataW H))=[d0,d1] from rfl,hs,hp];exact uv.of_heap ar
 ·rw[show([d0,d1]++[]:List (DataW H))=[d0,d1] from rfl,hs,hv];rfl
end
theorem FW(Lk:Looks){p:Pinned}{s:OpenSpec}{c:OpenClaim}(kinds:List LaidKind)(UK:Bool)(har:Bool×String)(lk:Bool)(hc:c.holds p s)(hw:c.wfByText s=true)(ajR:c.laidByTextAt Lk p kinds UK)(eI:c.start=.entering)(Gv:c.noBlocks=false/\c.again=false)(hm:p.checked.prog.mainIs=some (har.1,har.2.toList))(hn:(!har.1&&har.2.isEmpty&&!lk)=false)(hl:∀f fn,p.checked.prog.funcNamed c.func=some f->p.checked.prog.funcs[f]?=some fn->lk=p.checked.prog.looks []/\∀(j:Nat) t,fn.params[j]?=some t->p.checked.prog.wantsStandIn t=false)(hg:true=c.goesBy p.checked.prog):
  Claim7.holds p (.plain s) {stood:={row:=c,standIns:=[],harness:=har,looks:=lk},kinds:=[],alts:=[],goes:=true,laidByText:=true,laidKinds:=kinds,laidTests:=UK,laidLooks:=Lk}:=by
 have h6:∀r:OpenClaim,Claim7.isSixth {stood:={row:=r,standIns:=[],harness:=har,looks:=lk},kinds:=[]}=false:=fun r=>by simpa[Claim7.isSixth] using hn
 exact⟨Claim7.tied_new_at Lk kinds UK (Claim7.new_of_sixth hc har lk eI Gv hm (h6 c) hl) hw,(fun D hD=>by cases hD),ajR,(fun h=>by cases h),hg⟩
end
end Go.Proofs.Kz
