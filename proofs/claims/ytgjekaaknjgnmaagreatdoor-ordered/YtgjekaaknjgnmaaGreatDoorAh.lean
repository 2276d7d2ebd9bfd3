import Derived.Test.YtgjekaaknjgnmaaGreatDoorAg
import Derived.Carry
import Derived.ChangeMaps5
import Derived.Conc.HoldsTime
import Derived.LaidLaws
import Derived.LaidMore
import Derived.Stop.Joined
import Derived.Test.YtgjekaaknjgnmaaGreatDoorCards
import Derived.Test.YtgjekaaknjgnmaaGreatDoorTie
set_option linter.all false
set_option maxHeartbeats 40000000
set_option maxRecDepth 200000
namespace Go.Proofs.Kz
open Go.Proofs.Tryz
open Go.Proofs.Tryz renaming prog → au
open _root_.ByteArray renaming empty → aO
open Go.Ren Go.Conc Go.Proofs Go.ConcN
section
open Go.ChangeShapes Go.WideShapes Go.Deep
section
variable {H:Type} {enc:TypeId×Value->H} {W:ae} {base:Nat}
theorem tu{P:Program}{t e:TypeId}{v:Value}(ht:P.underlying t=some (.slice e))(h:Value.okWide P W .any base t v):∃a l c,v=.slice a l c:=by
 unfold Value.okWide at h;rw[ht] at h;simp only at h;unfold Cell.okWide at h;rw[ht] at h;cases v with
 |slice a l c=>exact⟨a,l,c,rfl⟩
 |_=>simp[Cell.ok,ht] at h
theorem Ko{n:Int}(h:(Lit.int .i64 n).wf=true):-9223372036854775808<=n/\n<=9223372036854775807:=by
 simp[Lit.wf,IntKind.min,IntKind.max,IntKind.signed,IntKind.bits] at h;omega
structure Oo(W:ae)(a:Addr)(i:Nat)(r:Ex):Prop where
 c0:W.cell? (a.add (i*2))=some (.int .i64 r.eR)
 c1:W.cell? (a.add (i*2+1))=some (.slice r.sa r.ins.length r.sc)
 ptr:r.ins≠[]->r.sa=some ⟨r.ib,r.T1,none⟩/\r.ib<W.heap.size
 ins:∀j (h:j<r.ins.length),W.cell? ⟨r.ib,r.T1+j,none⟩=some (.int .i64 r.ins[j])
 WS:(-9223372036854775808<=r.eR/\r.eR<=9223372036854775807)/\∀x∈r.ins,-9223372036854775808<=x/\x<=9223372036854775807
 EI:r.ins.length<=9223372036854775807
theorem Dr{b off i:Nat}:(⟨b,off,none⟩:Addr).add i=⟨b,off+i,none⟩:=by
 unfold Addr.add;split
 ·rename_i h;subst h;rfl
 ·rfl
theorem Ue{v:Value}{d:DataW H}{ps:List MemPlace}(hv:Value.okWide au W .any base 25 v)(h:DataW.Trod enc au W 0 (fun _=>true) true 25 v d ps):
  ∃p b off c rw,v=.slice p (List.length rw) c/\(rw≠[]->p=some ⟨b,off,none⟩/\b<W.heap.size)/\(∀i (h:i<rw.length),Oo W ⟨b,off,none⟩ i rw[i])/\rw.length<=9223372036854775807:=by
 haveI:Inhabited Ex:=⟨⟨0,[],none,0,0,0⟩⟩
 obtain⟨a0,l0,cp0,rfl⟩:=tu underlying25 hv;obtain⟨fuel,h⟩:=h;have hc:(Value.slice a0 l0 cp0).cells.toList=[.slice a0 l0 cp0]:=rfl;rw[hc] at h;rcases open_slice_pairs underlying25 underlying132 ah rfl rfl ah ah h with⟨e,-⟩|⟨a,len,cap,m,n,V0,V1,D0,D1,P0,P1,e,-,hl,hm,Yz,-,iB⟩
 ·simp only[cv,Value.slice.injEq,and_true] at e;obtain⟨rfl,rfl,rfl⟩:=e;exact⟨none,0,0,0,[],rfl,fun q=>absurd rfl q,fun i hi=>by simp at hi,aj⟩
 simp only[cv,Value.slice.injEq,and_true] at e;obtain⟨rfl,rfl,rfl⟩:=e;simp only[if_true] at Yz;subst Yz;have each:∀i,i<l0->∃r,Oo W a i r:=by
  intro i hi;obtain⟨k0,k1,t0,t1⟩:=iB i aa;obtain⟨x,ex,-,wx⟩:=DataW.trod_int underlying3 t0;simp only[cv,and_true] at ex;rw[ex] at k0;rcases open_ints underlying130 underlying3 ah t1 with⟨e1,-⟩|⟨a1,Uf,aiS,zs,e1,-,yJ,hm1,hz,-,hcz,hwz⟩
  ·simp only[cv,and_true] at e1;rw[e1] at k1;exact⟨⟨x,[],none,0,0,0⟩,k0,k1,fun q=>absurd rfl q,fun j hj=>by simp at hj,⟨Ko wx,aj⟩,aj⟩
  ·simp only[cv,and_true] at e1;rw[e1] at k1;simp only[if_true] at hz;have hlz:(zs.take Uf).length=Uf:=dV;refine⟨⟨x,zs.take Uf,some a1,a1.block,a1.off,aiS⟩,k0,by rw[k1];simp only[hlz],fun q=>?_,fun j hj=>?_,⟨Ko wx,fun y hy=>Ko (hwz y (List.mem_of_mem_take hy))⟩,by simp only[hlz];have:=hm1;simp only[maxLen] at this;omega⟩
   ·have h0:0<Uf:=by
     rcases bg Uf with h0|h0
     ·subst h0;exact absurd aj q
     ·exact h0
    have OZ:=hcz 0 aa;have hs:=World.cell?_spot OZ;have hb:=World.block_lt_of_cell? W _ OZ;rw[block_add] at hb;obtain⟨b1,o1,s1⟩:=a1;have:s1=none:=by simpa[Addr.add] using hs
    subst this;exact⟨rfl,hb⟩
   ·simp only[hlz] at hj;have OZ:=hcz 0 aa;have hs:=World.cell?_spot OZ;obtain⟨b1,o1,s1⟩:=a1;have:s1=none:=by simpa[Addr.add] using hs
    subst this;have:=hcz j aa;rw[Dr] at this;rw[this];simp[List.getD,bo (show j<zs.length by omega)]
 obtain⟨q,hq⟩:=choose_lt each;have hlen:((List.range l0).map q).length=l0:=aj;refine⟨some a,a.block,a.off,m,(List.range l0).map q,by rw[hlen],fun dH=>?_,fun i hi=>?_,by rw[hlen];simp only[maxLen] at hm;omega⟩
 ·have h0:0<l0:=by
   rcases bg l0 with h0|h0
   ·subst h0;exact absurd aj dH
   ·exact h0
  have OZ:=(hq 0 h0).c0;have hs:=World.cell?_spot OZ;have hb:=World.block_lt_of_cell? W _ OZ;rw[block_add] at hb;obtain⟨b1,o1,s1⟩:=a;have:s1=none:=by simpa[Addr.add] using hs
  subst this;exact⟨rfl,hb⟩
 ·rw[hlen] at hi;have hs:=World.cell?_spot (hq 0 aa).c0;obtain⟨b1,o1,s1⟩:=a;have:s1=none:=by simpa[Addr.add] using hs
  subst this;simpa using hq i hi
structure MT(W:ae)(a:Addr)(i:Nat)(x:Int×Int×Int):Prop where
 c0:W.cell? (a.add (i*3))=some (.int .i64 x.1)
 c1:W.cell? (a.add (i*3+1))=some (.int .i64 x.2.1)
 c2:W.cell? (a.add (i*3+2))=some (.int .i64 x.2.2)
 WS:(-9223372036854775808<=x.2.1/\x.2.1<=9223372036854775807)/\(-9223372036854775808<=x.2.2/\x.2.2<=9223372036854775807)
theorem Ug{v:Value}{d:DataW H}{ps:List MemPlace}(hv:Value.okWide au W .any base 26 v)(h:DataW.Trod enc au W 0 (fun _=>true) true 26 v d ps)(hw:∀x∈d.weights au 26,x<=reachBytes):
  ∃p b off c xs,v=.slice p (List.length xs) c/\(xs≠[]->p=some ⟨b,off,none⟩/\b<W.heap.size)/\(∀i (h:i<xs.length),MT W ⟨b,off,none⟩ i xs[i])/\xs.length*24<=140737488355328:=by
 obtain⟨a0,l0,cp0,rfl⟩:=tu underlying26 hv;obtain⟨fuel,h⟩:=h;have hc:(Value.slice a0 l0 cp0).cells.toList=[.slice a0 l0 cp0]:=rfl;rw[hc] at h;have ce:au.cellsOf 30=3:=ah;have c3:au.cellsOf 3=1:=ah;have by_:au.bytesOf 30=24:=ah;rcases open_slice underlying26 h with⟨e,-⟩|⟨a,len,cap,m,n,D,Pl,e,-,hl,hm,Yz,hx,iB⟩
 ·simp only[cv,Value.slice.injEq,and_true] at e;obtain⟨rfl,rfl,rfl⟩:=e;exact⟨none,0,0,0,[],rfl,fun q=>absurd rfl q,fun i hi=>by simp at hi,aj⟩
 simp only[cv,Value.slice.injEq,and_true] at e;obtain⟨rfl,rfl,rfl⟩:=e;simp only[if_true] at Yz;subst Yz;have each:∀i,i<l0->∃x:Int×Int×Int,MT W a i x:=by
  intro i hi;obtain⟨DI,h1,h2⟩:=iB i aa;rw[ce] at h1;obtain⟨_,hlen,lQ⟩:=World.cells?_some h1;obtain⟨xs,k,hk,XC,_,hxl,hf⟩:=DataW.trod_struct underlying30 h2
  match DI,hlen with
  | [v0,v1,v2],_ =>
   have g0:=hf 0 _ rfl;have g1:=hf 1 _ rfl;have g2:=hf 2 _ rfl;have e0:=lQ 0 aa;have e1:=lQ 1 aa;have e2:=lQ 2 aa;rw[add_add] at e0 e1 e2
   match xs,hxl with
   | [y0,y1,y2],_ =>
    simp[c3] at g0 g1 g2;obtain⟨n0,k0,-,w0⟩:=DataW.trod_int underlying3 g0;obtain⟨n1,k1,-,w1⟩:=DataW.trod_int underlying3 g1;obtain⟨n2,k2,-,w2⟩:=DataW.trod_int underlying3 g2;simp only[cv,and_true] at k0 k1 k2;subst k0 k1 k2;exact⟨(n0,n1,n2),by simpa using e0,by simpa using e1,by simpa using e2,Ko w1,Ko w2⟩
 obtain⟨q,hq⟩:=choose_lt each;have hlen:((List.range l0).map q).length=l0:=aj;have AY:l0*24<=140737488355328:=by
  have hd:=(Prod.mk.inj hx).1;have:=hw ((l0+(m-l0))*24) (by
   rw[hd];simp only[DataW.weights,underlying26,by_,List.length_map,List.length_range];exact jD)
  simp only[reachBytes] at this;omega
 refine⟨some a,a.block,a.off,m,(List.range l0).map q,by rw[hlen],fun dH=>?_,fun i hi=>?_,by rw[hlen];exact AY⟩
 ·have h0:0<l0:=by
   rcases bg l0 with h0|h0
   ·subst h0;exact absurd aj dH
   ·exact h0
  have OZ:=(hq 0 h0).c0;have hs:=World.cell?_spot OZ;have hb:=World.block_lt_of_cell? W _ OZ;rw[block_add] at hb;obtain⟨b1,o1,s1⟩:=a;have:s1=none:=by simpa[Addr.add] using hs
  subst this;exact⟨rfl,hb⟩
 ·rw[hlen] at hi;have hs:=World.cell?_spot (hq 0 aa).c0;obtain⟨b1,o1,s1⟩:=a;have:s1=none:=by simpa[Addr.add] using hs
  subst this;simpa using hq i hi
end
end
section
variable {Fin:bK} {d:Nat} {o:aM} {w:ae} {K:pz} {s:gQ} {lk:Int} {lab:Nat->Nat} {fn:FuncId} {Q:Exit->Act->aM->ae->Prop} {a:Act} {ops:Array Oper} {i j:Nat} {rest:List Nat} {t:Tmp} {e1 e2:Oper}
structure Var(o:aM)(w:ae)(K:pz)(s:gQ)(lk:Int)(lab:Nat->Nat)(D:Nat)(c:Obj)(o':aM)(w':ae)(lab':Nat->Nat):Prop where
 dF:bm o' w' K s lk lab'
 step:cN o w lab o' w' lab'
 br:bA (fun _=>False) o w o' w'
 own:o' D
 xg:lab' D=7
 blk:w'.heap[D]?=some c
 old:∀b,b<w.heap.size->lab' b=lab b/\w'.heap[b]?=w.heap[b]?
theorem sX(n:Int)(y:af)(h:bm o w K s lk lab)(k:∀D o' w' lab',D=w.heap.size->Var o w K s lk lab D (.cells #[.int .i64 n,.string y] 32) o' w' lab'->eX (XB au Fin d) fn ops rest Q ((a.put (some t) (.pointer (some ⟨D,0,none⟩))).put none undef) o' w')(h1:ops[i]?=some e1:=by rfl)(h2:Region.wanted e1 (yielded ops a.tmps)=true:=by rfl)(h3:e1.op=.alloc 32:=by rfl)(h4:e1.dst=some t:=by rfl)(h5:ops[j]?=some e2:=by rfl)(h6:∀p,Region.wanted e2 (yielded ops (a.put (some t) p).tmps)=true:=by intro p;rfl)(h7:∃x,e2.op=.store 32 (.tmp t) x/\∀p,(a.put (some t) p).eval x=.agg #[.int .i64 n,.string y]:=by exact⟨_,rfl,fun p=>rfl⟩)(h8:e2.dst=none:=by rfl)(h9:∀p,(a.put (some t) p).eval (.tmp t)=p:=by intro p;rfl):eX (XB au Fin d) fn ops (i::j::rest) Q a o w:=by
 obtain⟨x,h7,nA⟩:=h7;obtain⟨_,_,_,_,_,_⟩:=e1;obtain⟨_,_,_,_,_,_⟩:=e2;simp only at h3 h4 h7 h8;subst h3 h4 h7 h8;refine dt bQ h.aF h1 h2 ar mW rfl (R:=fun wl v aV=>v=.pointer (some ⟨wl.heap.size,0,none⟩)/\aV=wl.alloc (Obj.cells #[.int .i64 0,.string aO] 32)) (fun wl aT=>⟨_,_,by first|(simp[go_sem];done)|(simp[go_sem];rfl),rfl,rfl⟩) fun wl v1 aV w3 aT nD bN=>?_;obtain⟨rfl,nD⟩:=nD;obtain⟨z3,k3,sB⟩:=bN.alloc h.aF aT nD;obtain⟨W3,oD⟩:=bA.qx bN.aF z3 k3;rw[aT.size];clear nD bN aT wl aV;obtain⟨kL,h3,T3,Bp,Oh⟩:=h.grown (cN.refl h.aF) W3;generalize Go.Ren.grow o w w3=o3 at *;refine mr n y h3.aF oD sB (fun w4 tj vo kD4=>?_) h5 (h6 _) ⟨_,x,rfl,h9 _,nA _⟩ rfl;obtain⟨h4,T4⟩:=h3.wrote T3 (Oh _ (ag _)) (ag _) tj vo;exact k _ _ _ kL rfl ⟨h4,T4,⟨tj,W3.more,W3.new,by rw[vo.1];exact W3.size,fun b hb hx=>(vo.2 b aa).trans (W3.same b hb hx)⟩,oD,Oh _ (ag _),kD4,fun b hb=>⟨Bp b hb,(vo.2 b aa).trans (k3 b hb)⟩⟩
theorem Hd(n:Int)(p:Option Addr)(l c:Nat)(q:Option Addr)(m e:Nat)(h:bm o w K s lk lab)(hp:Cl au L0 o (.slice p l c))(ht:Cl au L0 o (.slice q m e))(k:∀D o' w' lab',D=w.heap.size->Var o w K s lk lab D (.cells #[.int .i64 n,.slice p l c,.slice q m e] 59) o' w' lab'->eX (XB au Fin d) fn ops rest Q ((a.put (some t) (.pointer (some ⟨D,0,none⟩))).put none undef) o' w')(h1:ops[i]?=some e1:=by rfl)(h2:Region.wanted e1 (yielded ops a.tmps)=true:=by rfl)(h3:e1.op=.alloc 59:=by rfl)(h4:e1.dst=some t:=by rfl)(h5:ops[j]?=some e2:=by rfl)(h6:∀p,Region.wanted e2 (yielded ops (a.put (some t) p).tmps)=true:=by intro p;rfl)(h7:∃x,e2.op=.store 59 (.tmp t) x/\∀u,(a.put (some t) u).eval x=.agg #[.int .i64 n,.slice p l c,.slice q m e]:=by exact⟨_,rfl,fun p=>rfl⟩)(h8:e2.dst=none:=by rfl)(h9:∀p,(a.put (some t) p).eval (.tmp t)=p:=by intro p;rfl):eX (XB au Fin d) fn ops (i::j::rest) Q a o w:=by
 obtain⟨x,h7,nA⟩:=h7;obtain⟨_,_,_,_,_,_⟩:=e1;obtain⟨_,_,_,_,_,_⟩:=e2;simp only at h3 h4 h7 h8;subst h3 h4 h7 h8;refine dt bQ h.aF h1 h2 ar mW rfl (R:=fun wl v aV=>v=.pointer (some ⟨wl.heap.size,0,none⟩)/\aV=wl.alloc (Obj.cells #[.int .i64 0,.slice none 0 0,.slice none 0 0] 59)) (fun wl aT=>⟨_,_,by first|(simp[go_sem];done)|(simp[go_sem];rfl),rfl,rfl⟩) fun wl v1 aV w3 aT nD bN=>?_;obtain⟨rfl,nD⟩:=nD;obtain⟨z3,k3,sB⟩:=bN.alloc h.aF aT nD;obtain⟨W3,oD⟩:=bA.qx bN.aF z3 k3;rw[aT.size];clear nD bN aT wl aV;obtain⟨kL,h3,T3,Bp,Oh⟩:=h.grown (cN.refl h.aF) W3;have hp3:=hp.up W3.more;have ht3:=ht.up W3.more;generalize Go.Ren.grow o w w3=o3 at *;refine du bQ h3.aF h5 (h6 _) ar ?_ rfl (R:=fun wl aV=>aV=((wl.setCell ⟨w.heap.size,0,none⟩ (.int .i64 n)).setCell ⟨w.heap.size,1,none⟩ (.slice p l c)).setCell ⟨w.heap.size,2,none⟩ (.slice q m e)) (fun wl aT=>⟨_,?_,rfl⟩) fun wl aV w4 aT Bq bN=>?_
 ·intro z hz;simp[Op.operands] at hz;rcases hz with rfl|rfl
  ·rw[h9];exact bU oD
  ·rw[nA];refine fS (vs:=[_,_,_]) (fun x hx=>?_);simp at hx;rcases hx with rfl|rfl|rfl
   ·exact dS
   ·exact hp3
   ·exact ht3
 ·obtain⟨e0,e1,e2,f0,f1,f2⟩:=eO ((aT.heap _ oD).trans sB);have q9:=h9 (.pointer (some ⟨w.heap.size,0,none⟩));have q10:=nA (.pointer (some ⟨w.heap.size,0,none⟩));generalize Act.eval (a.put (some t) (.pointer (some ⟨w.heap.size,0,none⟩)))=ev at q9 q10 |-;simp[go_sem,q9,q10,e0,e1,e2,f0,f1,f2]
 have hO:eI w.heap.size wl aV:=by rw[Bq];exact uE _ _ _ _ _ _ _ _
 obtain⟨vo,kD4,ey⟩:=bN.only aT oD hO;have tj:=bN.aF;rw[ey] at tj |-;rw[Bq,JK ((aT.heap _ oD).trans sB)] at kD4;obtain⟨h4,T4⟩:=h3.wrote T3 (Oh _ (ag _)) (ag _) tj vo;exact k _ _ _ kL rfl ⟨h4,T4,⟨tj,W3.more,W3.new,by rw[vo.1];exact W3.size,fun b hb hx=>(vo.2 b aa).trans (W3.same b hb hx)⟩,oD,Oh _ (ag _),kD4,fun b hb=>⟨Bp b hb,(vo.2 b aa).trans (k3 b hb)⟩⟩
end
def AF(x:af):Nat:=if x=iR 1 then 1 else if x=iR 2 then 2 else if x=iR 3 then 3 else if x=iR 4 then 4 else if x=iR 5 then 5 else if x=iR 6 then 6 else if x=iR 7 then 7 else 0
theorem yN{i:Nat}(h:i<8):AF (iR i)=i:=by
 have dH:∀j,j<8->i≠j->iR i≠iR j:=fun j hj e q=>e (Ka h hj q);unfold AF;rcases Dg h with rfl|rfl|rfl|rfl|rfl|rfl|rfl|rfl;all_goals simp[dH 1 aa,dH 2 aa,dH 3 aa,dH 4 aa,dH 5 aa,dH 6 aa,dH 7 aa]
theorem vt{x:af}(h1:1<=x.data.size)(h4:x.data.size<=4)(h:∀u∈x.data.toList,97<=u.toNat/\u.toNat<=122):isName x:=by
 refine⟨h1,h4,fun j hj _=>?_⟩;have:x[j]∈x.data.toList:=by
  show x.data[j]∈x.data.toList;simp
 exact h _ this
theorem AG{i:Nat}(h:i<8):isName (iR i):=by
 have e:=vq i h;refine vt (by rw[e];simp) (by rw[e];simp) (fun u hu=>?_);rw[e] at hu;rcases Dg h with rfl|rfl|rfl|rfl|rfl|rfl|rfl|rfl;all_goals (simp at hu;rcases hu with rfl|rfl<;>decide)
theorem sY{x:af}(h:x∈kR):isName x:=by
 simp only[kR,bJ,dh,or_false] at h;rcases h with rfl|rfl|rfl|rfl|rfl|rfl;all_goals exact vt eu eu (fun u hu=>by simp at hu;subst hu;decide)
def nj(rs:List aI)(NM:aI->List af)(NB:aI->Nat)(b g:Nat):Prop:=(rs≠[]/\g=b)\/∃r∈rs,NM r≠[]/\g=NB r
section
variable {Fin:bK} {o o':aM} {w w':ae} {K:pz} {s s':gQ}
theorem RB.hand{v:Value}{rs:List aI}{uP:Nat->List af}(h:RB o w v rs uP o' w')(hl:rs.length<=8):∃p b c,v=.slice p rs.length c/\Hand o' w' p b c rs (fun r=>uP (AF r.out)) (fun r=>(r.sa.map (·.block)).getD 0) AF/\(∀g,nj rs (fun r=>uP (AF r.out)) (fun r=>(r.sa.map (·.block)).getD 0) b g->w.heap.size<=g/\g<w'.heap.size):=by
 have pg:∀j (hj:j<rs.length),uP (AF rs[j].out)=uP j:=fun j hj=>by rw[(h.each j hj).1,yN aa]
 have hY:Dj rs (fun r=>uP (AF r.out)) AF:=by
  refine⟨fun r hr=>?_,fun r hr x hx=>?_,fun r hr=>?_,?_,fun r hr x hx ho=>?_⟩
  ·obtain⟨j,hj,rfl⟩:=bc hr;rw[(h.each j hj).1];exact AG aa
  ·obtain⟨j,hj,rfl⟩:=bc hr;simp only[pg j hj] at hx;rcases(h.each j hj).2.2.2.1 x hx with q|⟨q,hq,rfl⟩
   ·exact sY q
   ·exact AG aa
  ·obtain⟨j,hj,rfl⟩:=bc hr;exact(h.each j hj).2.1
  ·refine List.pairwise_iff_getElem.2 fun i j hi hj E7 e=>?_;have ma:i<rs.length:=by simpa using hi
   have r8:j<rs.length:=by simpa using hj
   simp only[List.getElem_map,(h.each i ma).1,(h.each j r8).1] at e;have:=Ka aa aa e;omega
  ·obtain⟨j,hj,rfl⟩:=bc hr;simp only[pg j hj] at hx;rw[(h.each j hj).1,yN aa];rcases(h.each j hj).2.2.2.1 x hx with q|⟨q,hq,rfl⟩
   ·obtain⟨r2,GC,rfl⟩:=List.mem_map.1 ho;obtain⟨i,hi,rfl⟩:=bc GC;rw[(h.each i hi).1] at q;exact absurd q (FB i aa)
   ·rw[yN aa];exact hq
 have Cm:∀r∈rs,AF r.out<rs.length:=fun r hr=>by
  obtain⟨j,hj,rfl⟩:=bc hr;rw[(h.each j hj).1,yN aa];exact hj
 have zo:∀r∈rs,r.sl=(uP (AF r.out)).length/\(uP (AF r.out)≠[]->r.sa=some ⟨(r.sa.map (·.block)).getD 0,0,none⟩/\o' ((r.sa.map (·.block)).getD 0))/\fy w' ((r.sa.map (·.block)).getD 0) 0 (uP (AF r.out))/\(uP (AF r.out)).length<=4:=fun r hr=>by
  obtain⟨j,hj,rfl⟩:=bc hr;obtain⟨e1,e2,e3,e4,e5,e6⟩:=h.each j hj;rw[pg j hj];rcases e6 with⟨q1,q2⟩|⟨g,q1,q2,q3,q4,q5⟩
  ·rw[q2];exact⟨by rw[e5,q2],fun q=>absurd rfl q,(fun i hi=>by simp at hi),aj⟩
  ·rw[q1];exact⟨e5,fun _=>⟨rfl,h.jj.all g q2 q3⟩,q5,e3⟩
 have R1:∀r∈rs,r.sa=none->uP (AF r.out)=[]:=fun r hr e=>by
  obtain⟨j,hj,rfl⟩:=bc hr;rw[pg j hj];rcases(h.each j hj).2.2.2.2.2 with⟨q1,q2⟩|⟨g,q1,-⟩
  ·exact q2
  ·rw[q1] at e;cases e
 have Pf:∀b,(rs≠[]->w.heap.size<=b/\b<w'.heap.size)->∀g,nj rs (fun r=>uP (AF r.out)) (fun r=>(r.sa.map (·.block)).getD 0) b g->w.heap.size<=g/\g<w'.heap.size:=fun b hb g hg=>by
  rcases hg with⟨q1,rfl⟩|⟨r,hr,q1,rfl⟩
  ·exact hb q1
  ·obtain⟨j,hj,rfl⟩:=bc hr;simp only[pg j hj] at q1;rcases(h.each j hj).2.2.2.2.2 with⟨-,q2⟩|⟨g,q2,q3,q4,-⟩
   ·exact absurd q2 q1
   ·simp only[q2,aJ,bq];exact⟨q3,q4⟩
 have cj:=h.row.row;have fu:=h.row.cl;obtain⟨h0,hc⟩:=h.row.row;rcases hc with⟨e1,e2⟩|⟨g,cap,cur,e1,k1,k2,k3,k4,k5,k6⟩
 ·have QG:=List.length_eq_zero_iff.1 e2;subst e1;refine⟨none,0,0,by rw[e2],⟨hl,fun q=>absurd QG q,fun _=>QG,fun i hi=>by rw[QG] at hi;simp at hi,by rw[e2];exact iP,aa,zo,R1,hY,Cm⟩,Pf 0 fun q=>absurd QG q⟩
 ·subst e1;have Tb:g<w'.heap.size:=(Array.getElem?_eq_some_iff.1 k2).1;refine⟨some ⟨g,0,none⟩,g,cap,rfl,⟨hl,fun _=>⟨rfl,h.jj.all g k1 Tb⟩,(fun e=>by cases e),fun i hi=>?_,fu,k3,zo,R1,hY,Cm⟩,Pf g fun _=>⟨k1,Tb⟩⟩;have lQ:∀j u,(eM rs)[j]?=some u->w'.cell? ⟨g,j,none⟩=some u:=fun j u hu=>by
   have:=cj.cells (g:=g) rfl j u hu;have ha:(⟨g,0,none⟩:Addr).add j=⟨g,j,none⟩:=by simp[Addr.add];omega
   rw[ha] at this;exact this
  obtain⟨c0,c1,c2⟩:=oh rs i hi;exact⟨lQ _ _ c0,lQ _ _ c1,lQ _ _ c2⟩
theorem jU.aay{F:cY}{file:af->V}{v:Value}(h:jU K s s' F file v)(hp:s.phase<=1)(hq:0<s.qn.length):v=did 1 aO/\s'=gQ.stand {s with qv:=.slice none 0 0,qn:=[],lost:=false} 1 s.time:=by
 rcases h with⟨h2,-⟩|⟨h2,-⟩|⟨-,-,h4⟩
 ·omega
 ·omega
 ·rcases h4 with⟨-,e1,e2⟩|⟨q,-⟩|⟨q,-⟩
  ·exact⟨e1,e2⟩
  ·exact absurd (.inl hq) q
  ·exact absurd (.inl hq) q
theorem jU.start{F:cY}{file:af->V}{v:Value}(h:jU K s s' F file v)(hp:s.phase=1)(hq:s.qn=[])(hl:s.lost=false)(ht:s.since+5<=s.time):v=did 2 aO/\∃lo F' MI,s'={s.stand 2 0 with fd:=some (lo,F'),sv:=MI,src:=fh K.B.NM K.B.rs}:=by
 have hn:¬(0<s.qn.length\/s.lost=true):=by rw[hq,hl];simp
 rcases h with⟨h2,-⟩|⟨h2,-⟩|⟨-,-,h4⟩
 ·omega
 ·omega
 ·rcases h4 with⟨q,-⟩|⟨-,-,e1,e2⟩|⟨-,q,-⟩
  ·exact absurd q hn
  ·exact⟨e1,e2⟩
  ·exact absurd ⟨hp,ht⟩ q
theorem jU.aeu{F:cY}{file:af->V}{v:Value}(h:jU K s s' F file v)(hp:s.phase=2)(hr:s.rd.length<s.src.length):v=did 3 s.src[s.rd.length]/\∃MG,s'={s with rv:=MG,rd:=s.rd++[(dU s.th s.src[s.rd.length],cg s.st s.src[s.rd.length])]}:=by
 rcases h with⟨-,h3⟩|⟨h2,-⟩|⟨h2,-,-⟩
 ·rcases h3 with⟨q,-⟩|⟨q,e1,e2⟩
  ·omega
  ·exact⟨e1,e2⟩
 ·omega
 ·exact absurd hp h2
theorem jU.check{F:cY}{file:af->V}{v:Value}(h:jU K s s' F file v)(hp:s.phase=2\/s.phase=3)(hr:s.rd.length=s.src.length)(hc:s.ck<s.src.length)(H9:s.ck<s.rd.length)(he:cg s.st s.src[s.ck]=s.rd[s.ck].2):v=did 4 s.src[s.ck]/\s'={s with phase:=3,ck:=s.ck+1}:=by
 have Kl:∀s s':gQ,Checked K s s' F file v->s.ck<s.src.length->∀(hc:s.ck<s.src.length) (H9:s.ck<s.rd.length),cg s.st s.src[s.ck]=s.rd[s.ck].2->v=did 4 s.src[s.ck]/\s'={s with ck:=s.ck+1}:=fun s s' h hk hc H9 he=>by
  rcases h with⟨q,-⟩|⟨q1,q2,⟨q3,-⟩|⟨-,e1,e2⟩⟩
  ·omega
  ·exact absurd he q3
  ·exact⟨e1,e2⟩
 rcases h with⟨-,h3⟩|⟨h2,h3⟩|⟨h2,h3,-⟩
 ·rcases h3 with⟨-,q⟩|⟨q,-⟩
  ·exact Kl {s with phase:=3} s' q hc hc H9 he
  ·omega
 ·obtain⟨e1,e2⟩:=Kl s s' h3 hc hc H9 he;exact⟨e1,by rw[e2,<- h2]⟩
 ·exact absurd hp aa
theorem jU.W8{F:cY}{file:af->V}{v:Value}(h:jU K s s' F file v)(hp:s.phase=3)(hc:s.ck=s.src.length):v=did 6 aO/\Yq K s s' F file:=by
 rcases h with⟨h2,-⟩|⟨-,h3⟩|⟨-,h3,-⟩
 ·omega
 ·rcases h3 with⟨-,e1,e2⟩|⟨q,-⟩
  ·exact⟨e1,e2⟩
  ·omega
 ·exact absurd hp h3
end
open Go.ConcR (Payload)
section
variable {Fin:bK} {o o' o1 o2 o3:aM} {w w' w1 w2 w3:ae} {K:pz} {lab dp fR lab':Nat->Nat}
def Kept(o:aM)(w:ae)(lab:Nat->Nat)(L:List (Nat×Obj)):Prop:=∀p∈L,o p.1/\lab p.1=7/\w.heap[p.1]?=some p.2
theorem Kept.lt{L:List (Nat×Obj)}(h:Kept o w lab L):∀p∈L,p.1<w.heap.size:=fun p hp=>(Array.getElem?_eq_some_iff.1 (h p hp).2.2).1
theorem Kept.step{L:List (Nat×Obj)}(h:Kept o w lab L)(S:cN o w lab o' w' lab'):Kept o' w' lab' L:=fun p hp=>by
 obtain⟨h1,h2,h3⟩:=h p hp;have hl:=h.lt p hp;exact⟨S.br.more _ h1,(S.lab _ hl).trans h2,(S.br.same _ hl (by rw[h2];omega)).trans h3⟩
theorem Kept.var{K:pz}{s:gQ}{lk:Int}{D:Nat}{x:Obj}{L:List (Nat×Obj)}(h:Kept o w lab L)(V:Var o w K s lk lab D x o' w' lab'):Kept o' w' lab' ((D,x)::L):=fun p hp=>by
 rcases List.mem_cons.1 hp with rfl|hp
 ·exact⟨V.own,V.xg,V.blk⟩
 ·obtain⟨h1,h2,h3⟩:=h p hp;have l:=h.lt p hp;exact⟨V.br.more _ h1,(V.old _ l).1.trans h2,(V.old _ l).2.trans h3⟩
theorem cN.old(S:cN o1 w1 dp o' w' lab')(hW:bA (fun _=>False) o w o1 w1)(hl:∀b,b<w.heap.size->7<=dp b):bA (fun _=>False) o w o' w':=by
 have z1:=hW.size;have z2:=S.br.size;exact⟨S.br.aF,fun b hb=>S.br.more b (hW.more b hb),fun b hb=>(S.br.new b hb).elim (fun q=>hW.new b q) fun q=>.inr aa,aa,fun b hb hx=>(S.br.same b aa (by have:=hl b hb;omega)).trans (hW.same b hb hx)⟩
theorem He:au.globals.size=4:=ah
theorem Uh(hF:bM au L0 o w):o 1:=hF.kp 1 (by rw[He];omega)
theorem aev:au.underlying 36=some (.pointer (au.pointee 36)):=ah
theorem aew:au.underlying 27=some (.pointer (au.pointee 27)):=ah
def aB:af:=⟨#[97]⟩
def zB:af:=⟨#[122]⟩
def Oq:af:=⟨#[120,121]⟩
def yxB:af:=⟨#[121,120]⟩
theorem Ui:aB≠zB:=fun e=>by have:=congrArg ByteArray.data e;revert this;decide
theorem Ot:isName aB:=vt eu eu (fun u hu=>by simp[aB] at hu;subst hu;decide)
theorem Xa:isName zB:=vt eu eu (fun u hu=>by simp[zB] at hu;subst hu;decide)
theorem Uj{l:List af}{a:af}(hn:l.Nodup)(h:∀x,x∈l↔x=a):l=[a]:=by
 match l,hn,h with
 | [],_,h=>exact absurd ((h a).2 rfl) aj
 | [x],_,h=>rw[(h x).1 aj]
 |x::y::l,hn,h =>
  have e1:=(h x).1 aj;have e2:=(h y).1 aj;rw[da] at hn;exact absurd (by rw[e1,e2];simp) hn.1
theorem Hf{α:Type}{l:List α}{a:α}(h:l=[a]):∀(i:Nat) (hi:i<l.length),l[i]=a:=by
 subst h;intro i hi;have:i=0:=by simpa using hi
 subst this;rfl
def Ou(Ab:Nat):aI:=⟨zB,2,some ⟨Ab,0,none⟩,1,1⟩
theorem aex{Ab Rl:Nat}(h1:w.heap[Ab]?=some (.cells #[.string aB] 9))(h2:w.heap[Rl]?=some (.cells #[.string zB,.int .i64 2,.slice (some ⟨Ab,0,none⟩) 1 1] 42))(o1:o Ab)(o2:o Rl):Hand o w (some ⟨Rl,0,none⟩) Rl 1 [Ou Ab] (fun _=>[aB]) (fun _=>Ab) (fun _=>0):=by
 refine⟨aj,fun _=>⟨rfl,o2⟩,(fun e=>by cases e),fun i hi=>?_,dY o2,aj,fun r hr=>?_,fun r hr e=>?_,⟨fun r hr=>?_,fun r hr x hx=>?_,fun r hr=>?_,aj,fun r hr x hx ho=>?_⟩,aj⟩
 ·have hi0:i=0:=by simpa using hi
  subst hi0;obtain⟨c0,c1,c2,-⟩:=eO h2;exact⟨c0,c1,c2⟩
 ·simp at hr;subst hr;exact⟨rfl,fun _=>⟨rfl,o1⟩,(fun k hk=>by
   have HH:k=0:=by simpa using hk
   subst HH;exact(CZ h1).1),aj⟩
 ·simp at hr;subst hr;cases e
 ·simp at hr;subst hr;exact Xa
 ·simp at hx;subst hx;exact Ot
 ·simp at hr;subst hr;exact⟨by simp[Ou],by simp[Ou]⟩
 ·simp at hx ho;subst hx;exact absurd ho Ui
theorem aey{B:vk}{Ab:Nat}(h:gx [Ou Ab] (fun _=>[aB]) (fun _=>0) B):∃r,B.rs=[r]/\r.out=zB/\r.eR=2/\B.NM r=[aB]:=by
 obtain⟨r,hr⟩:=List.length_eq_one_iff.1 h.len;have:=h.at_ 0 aj (by rw[h.len];simp);simp only[hr,List.getElem_cons_zero] at this;exact⟨r,hr,this⟩
theorem aiV{B:vk}{r:aI}(h1:B.rs=[r])(h2:r.out=zB)(h3:B.NM r=[aB]):fh B.NM B.rs=[aB]:=by
 refine Uj (oO _).1.nodup fun x=>?_;rw[sf,h1];simp only[List.mem_singleton,exists_eq_left,aA,aP,h2,h3];exact⟨fun q=>q.1,fun q=>⟨q,by rw[q];exact Ui⟩⟩
theorem aez:iX 2 [(true,Oq)]=(true,yxB):=ah
theorem aiW{B:vk}{r:aI}{F:cY}{file:af->V}(h1:B.rs=[r])(h2:r.out=zB)(h3:B.NM r=[aB])(h4:r.eR=2)(hp:F.cp.Perm B.rs)(hR:mq B.rs B.NM B.RK)(hf:file aB=(true,Oq)):nS B F file=[(zB,(true,yxB))]:=by
 have e:F.cp=[r]:=by rw[h1] at hp;exact List.perm_singleton.1 hp
 have hv:valOf B.rs B.NM file zB=(true,yxB):=by
  have:=Fs hR file (r:=r) (by rw[h1];simp);rw[h2,h3,h4] at this;rw[this,aA,aP,Ft file (by rw[h1];simp[h2];exact Ui),hf];exact aez
 have ho:qH F.cp 0=zB:=by rw[e];exact h2
 simp only[nS,h1,List.length_singleton,List.range_one,aA,aP,ho,lu];rw[<- h1,hv]
theorem Xb[Payload](hF:bM au L0 o w)(pow:iW w):
  bz au (XB au Fin 0) 32 #[] o w fun v o' w'=>v=.bool true/\bA (fun _=>False) o w o' w':=by
 have W:=bV (P:=au) (Fin:=Fin) (d:=0);refine bC W func32 ar ?_;walk_nrmf Tryz.f32;refine ax ?_;refine dt bQ hF rfl ar ar ?_ rfl (R:=fun wl v aV=>v=.slice (some ⟨wl.heap.size,0,none⟩) 1 1/\aV=wl.alloc (.cells #[.string aB] 9)) (fun wl aT=>⟨_,_,by first|(simp[go_sem,Act.eval,aB];done)|(simp[go_sem,Act.eval,aB];rfl),rfl,rfl⟩) fun wl v1 aV w1 aT hR bN=>?_
 ·exact mU bS
 obtain⟨rfl,hR⟩:=hR;obtain⟨z1,k1,tF⟩:=bN.alloc hF aT hR;obtain⟨W1,wR⟩:=bA.qx bN.aF z1 k1;rw[aT.size];clear hR bN aT wl aV;generalize grow o w w1=o1 at *;refine ax ?_;refine dt bQ W1.aF rfl ar ar ?_ rfl (R:=fun wl v aV=>v=.slice (some ⟨wl.heap.size,0,none⟩) 1 1/\aV=wl.alloc (.cells #[.string zB,.int .i64 2,.slice (some ⟨w.heap.size,0,none⟩) 1 1] 42)) (fun wl aT=>⟨_,_,by first|(simp[go_sem,Act.eval,zB];done)|(simp[go_sem,Act.eval,zB];rfl),rfl,rfl⟩) fun wl v1 aV w2 aT hR bN=>?_
 ·refine mU ?_;refine fS (vs:=[_,_,_]) (fun x hx=>?_);simp at hx;rcases hx with rfl|rfl|rfl
  ·exact bS
  ·exact dS
  ·exact dY wR
 obtain⟨rfl,hR⟩:=hR;obtain⟨z2,k2,Og⟩:=bN.alloc W1.aF aT hR;obtain⟨W2,IS⟩:=bA.qx bN.aF z2 k2;rw[aT.size];clear hR bN aT wl aV;generalize grow o1 w1 w2=o2 at *;have hH:=aex ((k2 _ aa).trans tF) Og (W2.more _ wR) IS;have l1:=hF.lt (Uh hF);have aaz:iW w2:=fun q hq=>(cell_of ((k2 1 aa).trans (k1 1 l1))).trans (pow q hq);clear z1 z2;refine ax ?_;refine dA W rfl ar rfl func34 ah rfl (by first|(simp[Act.eval];done)|(simp[Act.eval];rfl)) rfl ((Yv W2.aF hH aaz).mono ?_);rintro v3 o3 w3 ⟨K,pb,kL,rfl,h3,W3,Kp,Bp,-⟩;obtain⟨r,ly,GC,hr4,Eg⟩:=aey Kp;have WN:=(W1.trans W2).trans W3;have z2:=(W1.trans W2).size;have aiX:∀b,b<w.heap.size->7<=kL b:=fun b hb=>(Bp b aa).1;have u3:=TW K pb;have S3:cN o3 w3 kL o3 w3 kL:=cN.refl h3.aF;have P3:Kept o3 w3 kL []:=(fun p hp=>by simp at hp);have e31:(s0 pb).th=[]:=rfl;have e32:(s0 pb).phase=0:=rfl;have e33:(s0 pb).time=0:=rfl;have e34:(s0 pb).num=0:=rfl;have e35:(s0 pb).st=[]:=rfl;have e36:(s0 pb).qn=[]:=rfl;have e37:(s0 pb).lost=false:=rfl;generalize s0 pb=s3 at *;refine ax ?_;refine dB bQ h3.aF rfl ar ar ?_ rfl (v:=.bool false) (fun wl aT=>by simp[go_sem,aev]) fun _=>?_
 ·exact iV (bU h3.own) yc
 refine ax ?_;refine dA W rfl ar rfl func21 ah rfl (by simp[Act.eval,aB,Oq]) rfl ((TK h3 aB Oq eu).mono ?_);rintro v4 o4 w4 ⟨su,T4,hq⟩;have vW:isName aB/\Oq.size<=12/\¬(eT s3.th aB=none/\12<=s3.th.length):=⟨Ot,eu,by rw[e31];simp⟩;rcases hq with⟨e,-,-,q,-⟩|⟨rfl,-,qJ,h4⟩
 ·exact absurd vW q
 have u4:=u3.edit (x:=aB) (t:=Oq) eu (gN s3.st aB (IntKind.i64.wrap (cg s3.st aB+1))) qJ;have S4:=S3.trans T4;have P4:=P3.step T4;obtain⟨s4,hs4⟩:∃s4,s4={s3 with th:=gN s3.th aB Oq,st:=gN s3.st aB (IntKind.i64.wrap (cg s3.st aB+1)),qv:=qJ,qn:=(jC s3.qn s3.lost aB).1,lost:=(jC s3.qn s3.lost aB).2}:=⟨_,rfl⟩;rw[<- hs4] at h4 u4;have e41:s4.th=[(aB,Oq)]:=by rw[hs4];simp only[e31];rfl
 have e42:s4.phase=0:=by rw[hs4];exact e32
 have e43:s4.time=0:=by rw[hs4];exact e33
 have e44:s4.num=0:=by rw[hs4];exact e34
 have e46:0<s4.qn.length:=by rw[hs4];simp only[e36,e37];decide
 clear hs4 S3 P3 u3 e31 e32 e33 e34 e35 e36 e37 vW;refine ax ?_;refine cd func38 (uM h4 u4) ?_;rintro v5 o5 w5 ⟨s5,oT,F5,Uk,hw5,u5,h5,T5⟩;have S5:=S4.trans T5;have P5:=P4.step T5;obtain⟨hv,hs⟩:=hw5.aay aa e46;subst hv;have e51:s5.th=[(aB,Oq)]:=by rw[hs];exact e41
 have e52:s5.phase=1:=by rw[hs];rfl
 have e53:s5.time=0:=by rw[hs];exact e43
 have e54:s5.num=0:=by rw[hs];exact e44
 have e55:s5.since=0:=by rw[hs];exact e43
 have e56:s5.qn=[]:=by rw[hs];rfl
 have e57:s5.lost=false:=by rw[hs];rfl
 clear hs hw5 e41 e42 e43 e44 e46;unfold did;refine ax ?_;refine sX 1 aO h5 fun D ox w6 A3 hD hV=>?_;have h6:=hV.dF;have S6:=S5.trans hV.step;have P6:=P5.var hV;clear hV hD;refine ax ?_;refine cd func37 (MF h6 5) ?_;rintro v7 o7 w7 ⟨rfl,tz,ts,hq⟩;have je:rH s5.time 5:=by rw[e53];exact⟨aa,aa,aa⟩
 rcases hq with⟨-,q,-⟩|⟨rfl,-,h7⟩
 ·exact absurd je q
 have u7:=u5.tick (s5.time+Int.toNat 5);have T7:cN o7 w6 A3 o7 w7 A3:=cN.of (bA.dG (ex:=(·=K.kb)) h7.aF ⟨tz,ts⟩ rfl) (fun b hb=>by rw[hb,h6.l0];omega);have S7:=S6.trans T7;have P7:=P6.step T7;obtain⟨s7,YA⟩:∃s7,s7={s5 with time:=s5.time+Int.toNat 5}:=⟨_,rfl⟩;rw[<- YA] at h7 u7;have e71:s7.th=[(aB,Oq)]:=by rw[YA];exact e51
 have e72:s7.phase=1:=by rw[YA];exact e52
 have e73:s7.since+5<=s7.time:=by rw[YA];simp only[e53,e55];decide
 have e74:s7.num=0:=by rw[YA];exact e54
 have e76:s7.qn=[]:=by rw[YA];exact e56
 have e77:s7.lost=false:=by rw[YA];exact e57
 clear YA e51 e52 e53 e54 e55 e56 e57 je tz ts;refine ax ?_;refine cd func38 (uM h7 u7) ?_;rintro v8 o8 w8 ⟨s8,apT,F8,hf8,hw8,u8,h8,T8⟩;have S8:=S7.trans T8;have P8:=P7.step T8;obtain⟨hv,lo8,F8',sv8,hs⟩:=hw8.start e72 e76 e77 e73;subst hv;have e81:s8.th=[(aB,Oq)]:=by rw[hs];exact e71
 have e82:s8.phase=2:=by rw[hs];rfl
 have e83:s8.src=[aB]:=by rw[hs];exact aiV ly GC Eg
 have e84:s8.num=0:=by rw[hs];exact e74
 have e85:s8.rd=[]:=by rw[hs];rfl
 have e86:s8.ck=0:=by rw[hs];rfl
 clear hs hw8 e71 e72 e73 e74 e76 e77;unfold did;refine ax ?_;refine sX 2 aO h8 fun D ox w9 A3 hD hV=>?_;have h9:=hV.dF;have S9:=S8.trans hV.step;have P9:=P8.var hV;clear hV hD;refine ax ?_;refine cd func38 (uM h9 u8) ?_;rintro v10 o10 YB ⟨Mx,FE,F10,apU,aeB,u10,nA,T10⟩;have S10:=S9.trans T10;have P10:=P9.step T10;obtain⟨hv,apX,hs⟩:=aeB.aeu e82 (by rw[e83,e85];simp);have aeC:=Hf e83;rw[aeC] at hv hs;subst hv;have ai4:Mx.th=[(aB,Oq)]:=by rw[hs];exact e81
 have aeD:Mx.phase=2:=by rw[hs];exact e82
 have Ul:Mx.src=[aB]:=by rw[hs];exact e83
 have aeE:Mx.num=0:=by rw[hs];exact e84
 have Um:Mx.rd=[((true,Oq),cg Mx.st aB)]:=by
  rw[hs];simp only[e85,e81,List.nil_append];rfl
 have Xc:Mx.ck=0:=by rw[hs];exact e86
 clear hs aeB e81 e82 e83 e84 e85 e86 aeC;unfold did;refine ax ?_;refine sX 3 aB nA fun D ox w11 A3 hD hV=>?_;have h11:=hV.dF;have S11:=S10.trans hV.step;have P11:=P10.var hV;clear hV hD;refine ax ?_;refine cd func38 (uM h11 u10) ?_;rintro v12 o12 w12 ⟨s12,alS,F12,apZ,aeF,u12,pY,T12⟩;have S12:=S11.trans T12;have P12:=P11.step T12;have aaB:=Hf Ul;have aeG:=Hf Um;obtain⟨hv,hs⟩:=aeF.check (.inl aeD) (by rw[Ul,Um];rfl) (by rw[Ul,Xc];simp) (by rw[Um,Xc];simp) (by rw[aaB,aeG]);rw[aaB] at hv;subst hv;have aaC:s12.phase=3:=by rw[hs]
 have aaD:s12.src=[aB]:=by rw[hs];exact Ul
 have aeH:s12.num=0:=by rw[hs];exact aeE
 have aeI:s12.rd.map (·.1)=[(true,Oq)]:=by rw[hs];simp only[Um];rfl
 have aeJ:s12.ck=s12.src.length:=by rw[aaD,hs];simp only[Xc];rfl
 clear hs aeF ai4 aeD Ul aeE Um Xc aaB aeG;unfold did;refine ax ?_;refine sX 4 aB pY fun D ox w13 A3 hD hV=>?_;have A2:=hV.dF;have S13:=S12.trans hV.step;have P13:=P12.var hV;clear hV hD;refine ax ?_;refine cd func38 (uM A2 u12) ?_;rintro v14 o14 w14 ⟨s14,alU,F14,ai5,aeK,u14,h14,T14⟩;have S14:=S13.trans T14;have P14:=P13.step T14;obtain⟨hv,ij,Qx,sn,sr,-,hs⟩:=aeK.W8 aaC aeJ;subst hv;obtain⟨ai6,DO⟩:=ai5 (.inr aaC);obtain⟨y0,y1,y2,-,Na⟩:=A2.build.blk;have aaE:s14.res=[(zB,(true,yxB))]:=by
  rw[hs];refine aiW ly GC Eg hr4 (Na ai6 F14 DO).perm A2.build.right ?_;rw[aaD,aeI];simp[fileOf]
 have ai7:s14.num=1:=by rw[hs];simp only[aeH];decide
 clear hs aeK aaC aaD aeH aeI aeJ Na DO;unfold did;refine ax ?_;refine sX 6 aO h14 fun D ox w15 A3 hD hV=>?_;have Re:=hV.dF;have S15:=S14.trans hV.step;have P15:=P14.var hV;clear hV hD;refine ax ?_;refine cd func24 (G7 Re) ?_;rintro v16 o16 w16 ⟨RO,alW,h16,T16,-⟩;have S16:=S15.trans T16;have P16:=P15.step T16;obtain⟨rv,tv,rfl,⟨rp,rb,rc,KY,Yp,wM⟩,Gq,Ov⟩:=RO.ex;rw[ai7] at *;have hlen:s14.res.length=1:=by rw[aaE];rfl
 rw[hlen] at KY;obtain⟨ai8,orb⟩:=Yp (by rw[aaE];simp);subst ai8;subst KY;obtain⟨c0,c1,c2⟩:=wM 0 (by rw[hlen];decide);simp only[aaE,List.getElem_cons_zero] at c0 c1 c2;obtain⟨tp,tb,tc,ai9,-⟩:=Ov.row;generalize cy:s14.jS.length=ln at *;subst ai9;refine ax ?_;refine Hd 1 (some ⟨rb,0,none⟩) 1 rc tp ln tc h16 Gq Ov.cl fun D ox w17 A3 hD hV=>?_;have UX:=hV.dF;have S17:=S16.trans hV.step;have P17:=P16.var hV;have erb:=(hV.old rb (h16.aF.lt orb)).2;have Xd:=hV.br.more _ orb;have hW:=S17.old WN aiX;clear hV hD;refine ax ?_;simp only[Kept,bJ,dh,or_false,forall_eq_or_imp,forall_eq] at P17;obtain⟨⟨aaF,-,q16⟩,⟨ajc,-,q14⟩,⟨ajd,-,q12⟩,⟨aje,-,q10⟩,⟨o8',-,q8⟩,⟨o5',-,q5⟩⟩:=P17;refine lh UX.aF o5' (dO q5).1 fun _=>?_;refine ax ?_;refine lh UX.aF o8' (dO q8).1 fun _=>?_;refine ax ?_;refine lh UX.aF aje (dO q10).1 fun _=>?_;refine ax ?_;refine lh UX.aF ajd (dO q12).1 fun _=>?_;refine ax ?_;refine lh UX.aF ajc (dO q14).1 fun _=>?_;refine ax ?_;refine lh UX.aF aaF (eO q16).1 fun _=>?_;refine ax ?_;refine lh UX.aF aaF (eO q16).2.1 fun _=>?_;refine ax ?_;refine lh UX.aF aaF (eO q16).2.1 fun _=>?_;refine ax ?_;refine dB bQ UX.aF rfl ar ar ?_ rfl (v:=.agg #[.string zB,.string yxB,.bool false]) (fun wl aT=>by simp[go_sem,(aT.cell Xd).trans ((cell_of erb).trans c0),(aT.cell Xd).trans ((cell_of erb).trans c1),(aT.cell Xd).trans ((cell_of erb).trans c2)]) fun _=>?_
 ·exact mU (bU Xd)
 refine ax ?_;refine dB bQ UX.aF rfl ar ar ?_ rfl (v:=.bool true) (fun wl aT=>by simp[go_sem,zB,yxB]) fun _=>?_
 ·intro y hy;simp[Op.operands] at hy;rcases hy with rfl|rfl
  ·simp[Act.eval];refine fS (vs:=[_,_,_]) (fun x hx=>?_);simp at hx;rcases hx with rfl|rfl|rfl
   ·exact bS
   ·exact bS
   ·exact mR
  ·simp[Act.eval];refine fS (vs:=[_,_,_]) (fun x hx=>?_);simp at hx;rcases hx with rfl|rfl|rfl
   ·exact bS
   ·exact bS
   ·exact mR
 refine ax ?_;exact⟨.inr trivial,trivial,_,resultsC_tmp (t:=0) ar _,aH,hW⟩
end
section
variable {Fin:bK} {o o':aM} {w w':ae}
theorem Hand.keep{p:Option Addr}{b c:Nat}{rs:List aI}{NM:aI->List af}{NB:aI->Nat}{RK:af->Nat}(h:Hand o w p b c rs NM NB RK)(nX:∀b,o b->o' b)(e:∀g,nj rs NM NB b g->w'.heap[g]?=w.heap[g]?):Hand o' w' p b c rs NM NB RK:=by
 refine⟨h.gT,fun q=>⟨(h.ptr q).1,nX _ (h.ptr q).2⟩,h.nil,fun i hi=>?_,h.cl.up nX,h.cap,fun r hr=>⟨(h.nm r hr).1,fun q=>⟨((h.nm r hr).2.1 q).1,nX _ ((h.nm r hr).2.1 q).2⟩,fun k hk=>?_,(h.nm r hr).2.2.2⟩,h.nmn,h.yes,h.low⟩
 ·exact gV h.at_ (e b (.inl ⟨(fun q=>by rw[q] at hi;simp at hi),rfl⟩)) i hi
 ·exact dc (h.nm r hr).2.2.1 (e _ (.inr ⟨r,hr,(fun q=>by rw[q] at hk;simp at hk),rfl⟩)) k hk
theorem uO.keep{p:Option Addr}{b off:Nat}{rw:List Ex}(h:uO Fin w p b off rw)(W:bA (fun _=>False) o w o' w'):uO Fin w' p b off rw:=by
 refine⟨fun q=>⟨(h.ptr q).1,(h.ptr q).2.1,bw (h.ptr q).2.2 W.size⟩,fun i hi=>?_,fun r hr=>⟨fun q=>⟨((h.ins r hr).1 q).1,((h.ins r hr).1 q).2.1,bw ((h.ins r hr).1 q).2.2 W.size⟩,fun j hj=>?_⟩,h.WS,h.EI⟩
 ·have e:=W.same b (h.ptr (fun q=>by rw[q] at hi;simp at hi)).2.2 id;exact⟨(cell_of e).trans (h.at_ i hi).1,(cell_of e).trans (h.at_ i hi).2⟩
 ·have e:=W.same r.ib ((h.ins r hr).1 (fun q=>by rw[q] at hj;simp at hj)).2.2 id;exact(cell_of e).trans ((h.ins r hr).2 j hj)
structure FF(rs:List aI)(NM:aI->List af):Prop where
 out:∀r∈rs,r.out∉kR
 ins:∀r∈rs,∀x∈NM r,x∈kR\/x∈rs.map (·.out)
structure Un(o:aM)(w:ae)(v:Value)(o':aM)(w':ae):Prop where
 ex:∃S K pb lab rp rb rc rs NM NB,v=.pointer (some ⟨S,0,none⟩)/\w'.heap[S]?=some (.cells #[.pointer (some ⟨K.kb,0,none⟩),.slice rp rs.length rc,.slice none 0 0,.int .i64 0] 39)/\o' S/\lab S=7/\bm o' w' K (s0 pb) 0 lab/\bA (fun _=>False) o w o' w'/\(∀b,b<w.heap.size->7<=lab b/\(b≠1->lab b=7))/\Hand o' w' rp rb rc rs NM NB AF/\gx rs NM AF K.B/\(∀g,nj rs NM NB rb g->lab g=7/\w.heap.size<=g)/\w.heap.size<=S/\FF rs NM
theorem Kq[Payload](hF:bM au L0 o w)(pow:iW w)(p:Option Addr)(b off c:Nat)(rw:List Ex)(hR:uO Fin w p b off rw):
  bz au (XB au Fin 0) 13 #[.slice p rw.length c] o w fun v o' w'=>Un o w v o' w':=by
 have W:=bV (P:=au) (Fin:=Fin) (d:=0);have l1:=hF.lt (Uh hF);have hz4:4<=w.heap.size:=by have:=hF.size;rw[show au.globals.size=4 by kernel_rfl] at this;omega
 refine bC W func13 ar ?_;walk_nrmf Tryz.f13;refine ax ?_;refine cd func32 (Xb hF pow) ?_;rintro v1 o1 w1 ⟨rfl,W1⟩;have ajf:iW w1:=fun q hq=>(cell_of (W1.same 1 l1 id)).trans (pow q hq);have z1:=W1.size;refine ax ?_;refine cd func33 (Ua W1.aF p b off c rw (hR.keep W1)) ?_;rintro v2 o2 w2 ⟨rs,uP,Hz,hlen⟩;have W2:=Hz.jj.br;have z2:=W2.size;obtain⟨rp,rb,rc,rfl,hH,uN⟩:=Hz.hand hlen;have aaz:iW w2:=fun q hq=>(cell_of (W2.same 1 aa id)).trans (ajf q hq);have Io:FF rs (fun r:aI=>uP (AF r.out)):=by
  refine⟨fun r hr=>?_,fun r hr x hx=>?_⟩
  ·obtain⟨j,hj,rfl⟩:=bc hr;rw[(Hz.each j hj).1];exact FB j aa
  ·obtain⟨j,hj,rfl⟩:=bc hr;obtain⟨e1,-,-,e4,-⟩:=Hz.each j hj;simp only[e1,yN (show j<8 by omega)] at hx;rcases e4 x hx with q|⟨i,hi,rfl⟩
   ·exact .inl q
   ·refine .inr (List.mem_map.2 ⟨rs[i],aG aa,(Hz.each i aa).1⟩)
 clear Hz;generalize (fun r:aI=>uP (AF r.out))=NM at *;generalize (fun r:aI=>(r.sa.map (·.block)).getD 0)=NB at *;refine ax ?_;refine cd func34 (Yv W2.aF hH aaz) ?_;rintro v3 o3 w3 ⟨K,pb,kL,rfl,h3,W3,Kp,Bp,Zs⟩;have z3:=W3.size;have hH3:=hH.keep W3.more fun g hg=>W3.same g (uN g hg).2 id;refine ax ?_;refine dB bQ h3.aF rfl ar ar ?_ rfl (v:=.bool false) (fun wl aT=>by simp[go_sem,aev]) fun _=>?_
 ·exact iV (bU h3.own) yc
 refine ax ?_;refine dt bQ h3.aF rfl ar ar ?_ rfl (R:=fun wl v aV=>v=.pointer (some ⟨wl.heap.size,0,none⟩)/\aV=wl.alloc (Obj.cells #[.pointer (some ⟨K.kb,0,none⟩),.slice rp rs.length rc,.slice none 0 0,.int .i64 0] 39)) (fun wl aT=>⟨_,_,by first|(simp[go_sem];done)|(simp[go_sem];rfl),rfl,rfl⟩) fun wl v1 aV w4 aT Bq bN=>?_
 ·refine mU ?_;refine fS (vs:=[_,_,_,_]) (fun x hx=>?_);simp at hx;rcases hx with rfl|rfl|rfl|rfl
  ·exact bU h3.own
  ·exact hH3.cl
  ·exact iP
  ·exact dS
 obtain⟨rfl,Bq⟩:=Bq;obtain⟨z4,k4,yG⟩:=bN.alloc h3.aF aT Bq;obtain⟨W4,tC⟩:=bA.qx bN.aF z4 k4;rw[aT.size];clear Bq bN aT wl aV;obtain⟨su,h4,S4,Hy,hn4⟩:=h3.grown (cN.refl h3.aF) W4;have hlA:=hn4 _ (ag _);generalize grow o3 w3 w4=o4 at *;have hWW:=((W1.trans W2).trans W3).trans W4;have hH4:=hH3.keep W4.more fun g hg=>W4.same g (by have:=(uN g hg).2;omega) id;clear z4;refine ax ?_;refine⟨.inr trivial,trivial,_,resultsC_tmp (t:=2) ar _,w3.heap.size,K,pb,su,rp,rb,rc,rs,NM,NB,aH,yG,tC,hlA,h4,hWW,fun b hb=>?_,hH4,Kp,fun g hg=>?_,aa,Io⟩
 ·rw[Hy b aa];exact Bp b aa
 ·obtain⟨q1,q2⟩:=uN g hg;rw[Hy g aa];exact⟨(Bp g q2).2 aa,aa⟩
end
theorem yO{α:Type}(x y:af)(v:α):∀l:List (af×α),eT (gN l x v) y=if y=x then some v else eT l y
 | []=>by
  simp only[gN,eT]
 | (k,u)::l=>by
  unfold gN;by_cases hx:x=k
  ·rw[if_pos hx];by_cases hy:y=x
   ·rw[if_pos hy];unfold eT;rw[if_pos hy]
   ·rw[if_neg hy];unfold eT;rw[if_neg hy,if_neg (fun e=>hy (e.trans hx.symm))]
  ·rw[if_neg hx];unfold eT;by_cases DQ:y=k
   ·rw[if_pos DQ,if_pos DQ,if_neg (fun e=>hx (e.symm.trans DQ))]
   ·rw[if_neg DQ,if_neg DQ,yO x y v l]
theorem vu{α:Type}{x:af}:∀{l:List (af×α)},x∉l.map (·.1)->eT l x=none
 | [],_=>rfl
 | (k,u)::l,h=>by
  simp only[aA,bJ,not_or] at h;unfold eT;rw[if_neg h.1];exact vu h.2
theorem Ds{α:Type}(x y:af):∀l:List (af×α),(l.map (·.1)).Nodup->eT (lT l x) y=if y=x then none else eT l y
 | [],_=>by simp[lT,eT]
 | (k,u)::l,hn=>by
  rw[aA,da] at hn;unfold lT;by_cases hx:x=k
  ·rw[if_pos hx];by_cases hy:y=x
   ·rw[if_pos hy,hy];exact vu (by rw[hx];exact hn.1)
   ·rw[if_neg hy]
    conv=>rhs;unfold eT
    rw[if_neg (fun e=>hy (e.trans hx.symm))]
  ·rw[if_neg hx];unfold eT;by_cases DQ:y=k
   ·rw[if_pos DQ,if_pos DQ,if_neg (fun e=>hx (e.symm.trans DQ))]
   ·rw[if_neg DQ,if_neg DQ,Ds x y l hn.2]
theorem Kr(fs:List (af×af))(x y:af):eT (sT fs x) y=if y=x then none else eT fs y:=by
 induction fs with
 |nil=>simp[sT,eT]
 |cons f fs ih =>
  obtain⟨k,u⟩:=f;unfold sT at *;by_cases hk:k=x
  ·rw[List.filter_cons_of_neg (by simp[hk]),ih];by_cases hy:y=x
   ·rw[if_pos hy,if_pos hy]
   ·rw[if_neg hy,if_neg hy]
    conv=>rhs;unfold eT
    rw[if_neg (fun e=>hy (e.trans hk))]
  ·rw[List.filter_cons_of_pos (by simp[hk])];unfold eT;by_cases DQ:y=k
   ·rw[if_pos DQ,if_pos DQ,if_neg (fun e=>hk (DQ.symm.trans e))]
   ·rw[if_neg DQ,if_neg DQ,ih]
theorem zV{α:Type}(x y:af)(v:α):∀l:List (af×α),eT (l++[(x,v)]) y=match eT l y with
  |some u=>some u
  |none=>if y=x then some v else none
 | []=>by simp[eT]
 | (k,u)::l=>by
  rw[List.cons_append];unfold eT;by_cases DQ:y=k
  ·rw[if_pos DQ,if_pos DQ]
  ·rw[if_neg DQ,if_neg DQ];exact zV x y v l
theorem zX(fs:List (af×af))(x t y:af)(there:Bool):eT (qy fs x t there) y=if y=x then(if there then some t else none) else eT fs y:=by
 unfold qy;cases there
 ·simp only[aL,if_false,List.append_nil];exact Kr fs x y
 ·simp only[if_true];rw[zV,Kr];by_cases hy:y=x
  ·simp[hy]
  ·simp only[if_neg hy];cases eT fs y<;>rfl
theorem Uo(fs:List (af×af))(x:af):Ha fs x=true↔eT fs x≠none:=by
 rw[Ha,Br];constructor
 ·intro h
  induction fs with
  |nil=>simp at h
  |cons f fs ih =>
   obtain⟨k,u⟩:=f;unfold eT;by_cases hx:x=k
   ·rw[if_pos hx];simp
   ·rw[if_neg hx];exact ih (by simpa[hx] using h)
 ·intro h;exact aZ fun q=>h (vu q)
theorem FG{α:Type}{x:af}{v:α}:∀{l:List (af×α)},(l.map (·.1)).Nodup->((gN l x v).map (·.1)).Nodup/\∀y,y∈(gN l x v).map (·.1)↔y=x\/y∈l.map (·.1)
 | [],_=>by simp[gN]
 | (k,u)::l,hn=>by
  rw[aA,da] at hn;unfold gN;by_cases hx:x=k
  ·rw[if_pos hx];subst hx;refine⟨by rw[aA,da];exact hn,fun y=>?_⟩;simp
  ·rw[if_neg hx];obtain⟨h1,h2⟩:=FG (x:=x) (v:=v) hn.2;refine⟨?_,fun y=>?_⟩
   ·rw[aA,da];exact⟨fun q=>((h2 k).1 q).elim (fun e=>hx e.symm) hn.1,h1⟩
   ·rw[aA,bJ,h2 y,aA,bJ];constructor
    ·rintro(q|q|q)
     ·exact .inr (.inl q)
     ·exact .inl q
     ·exact .inr (.inr q)
    ·rintro(q|q|q)
     ·exact .inr (.inl q)
     ·exact .inl q
     ·exact .inr (.inr q)
theorem FH{α:Type}{x:af}:∀{l:List (af×α)},(l.map (·.1)).Nodup->((lT l x).map (·.1)).Nodup/\∀y,y∈(lT l x).map (·.1)->y∈l.map (·.1)
 | [],_=>by simp[lT]
 | (k,u)::l,hn=>by
  rw[aA,da] at hn;unfold lT;by_cases hx:x=k
  ·rw[if_pos hx];exact⟨hn.2,fun y hy=>bD _ hy⟩
  ·rw[if_neg hx];obtain⟨h1,h2⟩:=FH (x:=x) hn.2;refine⟨?_,fun y hy=>?_⟩
   ·rw[aA,da];exact⟨fun q=>hn.1 (h2 k q),h1⟩
   ·rw[aA,bJ] at hy |-;exact hy.imp id (h2 y)
theorem qh:∀(l m:List af),l.Nodup->(∀x∈l,x∈m)->l.length<=m.length
 | [],m,_,_=>aj
 |x::l,m,hn,h=>by
  rw[da] at hn;have hx:=h x aj;obtain⟨m1,m2,rfl⟩:=List.append_of_mem hx;have:=qh l (m1++m2) hn.2 (fun y hy=>by
   have hy2:=h y (bD _ hy);rw[gH,bJ] at hy2;rw[gH];rcases hy2 with q|q|q
   ·exact .inl q
   ·rw[q] at hy;exact absurd hy hn.1
   ·exact .inr q)
  simp only[List.length_append,List.length_cons] at this |-;omega
structure gd(s:gQ)(fs:List (af×af)):Prop where
 get:∀x,eT s.th x=eT fs x
 tk:(s.th.map (·.1)).Nodup/\∀x∈s.th.map (·.1),x∈kR
 fk:(fs.map (·.1)).Nodup/\∀x∈fs.map (·.1),x∈kR
theorem gd.gT{s:gQ}{fs:List (af×af)}(h:gd s fs):s.th.length<=6/\fs.length<=6:=by
 have h1:=qh _ _ h.tk.1 h.tk.2;have h2:=qh _ _ h.fk.1 h.fk.2;simp[kR] at h1 h2;exact⟨h1,h2⟩
theorem Up{fs:List (af×af)}(x:af)(h:(fs.map (·.1)).Nodup):((sT fs x).map (·.1)).Nodup/\(∀y∈(sT fs x).map (·.1),y∈fs.map (·.1))/\x∉(sT fs x).map (·.1):=by
 refine⟨(List.Sublist.map _ List.filter_sublist).nodup h,fun y hy=>?_,fun q=>?_⟩
 ·obtain⟨f,hf,rfl⟩:=List.mem_map.1 hy;exact List.mem_map.2 ⟨f,(List.mem_filter.1 hf).1,rfl⟩
 ·obtain⟨f,hf,e⟩:=List.mem_map.1 q;have:=(List.mem_filter.1 hf).2;simp at this;exact this e
theorem Dt{fs:List (af×af)}(x t:af)(there:Bool)(h:(fs.map (·.1)).Nodup/\∀y∈fs.map (·.1),y∈kR)(hx:x∈kR):((qy fs x t there).map (·.1)).Nodup/\∀y∈(qy fs x t there).map (·.1),y∈kR:=by
 obtain⟨h1,h2,h3⟩:=Up x h.1;unfold qy;cases there
 ·simp only[aL,if_false,List.append_nil];exact⟨h1,fun y hy=>h.2 y (h2 y hy)⟩
 ·simp only[if_true,List.map_append,aA,aP];refine⟨List.nodup_append.2 ⟨h1,aj,fun a ha b hb e=>?_⟩,fun y hy=>?_⟩
  ·have ex:a=x:=e.trans (by simpa using hb);rw[ex] at ha;exact h3 ha
  ·rcases List.mem_append.1 hy with hy|hy
   ·exact h.2 y (h2 y hy)
   ·simp at hy;rw[hy];exact hx
theorem gd.edit{s:gQ}{fs:List (af×af)}(h:gd s fs){x:af}(t:af)(hx:x∈kR){s':gQ}(hs:s'.th=gN s.th x t):gd s' (qy fs x t true):=by
 obtain⟨k1,k2⟩:=FG (x:=x) (v:=t) h.tk.1;refine⟨fun y=>?_,⟨by rw[hs];exact k1,fun y hy=>?_⟩,Dt x t true h.fk hx⟩
 ·rw[hs,yO,zX,h.get];simp
 ·rw[hs,k2] at hy;rcases hy with rfl|hy
  ·exact hx
  ·exact h.tk.2 y hy
theorem gd.remove{s:gQ}{fs:List (af×af)}(h:gd s fs){x:af}(t:af)(hx:x∈kR){s':gQ}(hs:s'.th=lT s.th x):gd s' (qy fs x t false):=by
 obtain⟨k1,k2⟩:=FH (x:=x) h.tk.1;refine⟨fun y=>?_,⟨by rw[hs];exact k1,fun y hy=>?_⟩,Dt x t false h.fk hx⟩
 ·rw[hs,Ds x y _ h.tk.1,zX,h.get];simp
 ·rw[hs] at hy;exact h.tk.2 y (k2 y hy)
theorem gd.Zm{s:gQ}{fs:List (af×af)}(h:gd s fs){x:af}(t:af)(hx:x∈kR)(hn:eT s.th x=none):gd s (qy fs x t false):=by
 refine⟨fun y=>?_,h.tk,Dt x t false h.fk hx⟩;rw[zX];by_cases e:y=x
 ·rw[if_pos e,e,hn];simp
 ·rw[if_neg e];exact h.get y
theorem gd.same{s s':gQ}{fs:List (af×af)}(h:gd s fs)(e:s'.th=s.th):gd s' fs:=⟨fun x=>by rw[e];exact h.get x,by rw[e];exact h.tk,h.fk⟩
def jd(a:Int):af:=kR[eF a 6]'(oU a aa)
theorem Uq(a:Int):jd a∈kR:=aG _
section
variable {Fin:bK} {o o' o1 o2:aM} {w w' w1 w2:ae} {S:Nat} {K:pz} {s s':gQ} {lab lab' dp fR:Nat->Nat} {rv fv:Value} {fs:List (af×af)} {ed:Nat}
structure vJ(o:aM)(w:ae)(S:Nat)(K:pz)(s:gQ)(lab:Nat->Nat)(rv fv:Value)(fs:List (af×af))(ed:Nat):Prop where
 dF:bm o w K s 0 lab
 sound:Sound K s
 blk:w.heap[S]?=some (.cells #[.pointer (some ⟨K.kb,0,none⟩),rv,fv,.int .i64 ed] 39)
 own:o S
 Xe:lab S=7
 files:pr o w fv fs
 QI:∀g,fv.ownBlock=some g->lab g=7/\g≠S
 A4:gd s fs
structure gD(S:Nat)(o:aM)(w:ae)(lab:Nat->Nat)(o':aM)(w':ae)(lab':Nat->Nat):Prop where
 br:bA (fun b=>lab b<=6\/b=S) o w o' w'
 lab:∀b,b<w.heap.size->lab' b=lab b
theorem gD.refl(hF:bM au L0 o w):gD S o w lab o w lab:=⟨bA.refl hF,fun _ _=>rfl⟩
theorem gD.trans(h:gD S o w lab o1 w1 dp)(k:gD S o1 w1 dp o2 w2 fR):gD S o w lab o2 w2 fR:=by
 have hz:=h.br.size;refine⟨⟨k.br.aF,fun b hb=>k.br.more b (h.br.more b hb),fun b hb=>(k.br.new b hb).elim (fun q=>h.br.new b q) fun q=>.inr aa,by have:=k.br.size;omega,fun b hb hx=>?_⟩,fun b hb=>(k.lab b aa).trans (h.lab b hb)⟩;rw[k.br.same b aa (by rw[h.lab b hb];exact hx),h.br.same b hb hx]
theorem gD.k(h:gD S o w lab o1 w1 dp)(k:cN o1 w1 dp o2 w2 fR):gD S o w lab o2 w2 fR:=h.trans ⟨k.br.mono fun b hb=>.inl hb,k.lab⟩
theorem gD.wrote{A:Nat}(h:gD S o w lab o1 w1 dp)(hA:w.heap.size<=A\/A=S)(hF:bM au L0 o1 w2)(on:eI A w1 w2):gD S o w lab o1 w2 dp:=by
 refine⟨⟨hF,h.br.more,h.br.new,by rw[on.1];exact h.br.size,fun b hb hx=>?_⟩,h.lab⟩;rw[on.2 b (fun e=>by rcases hA with q|q;omega;exact hx (.inr (e.trans q)))];exact h.br.same b hb hx
theorem bm.aaG{lk:Int}(h:bm o1 w1 K s lk dp)(hl:dp S=7)(hSz:S<w1.heap.size)(W:bA (fun b=>b=S) o1 w1 o2 w2):∃fR,bm o2 w2 K s lk fR/\gD S o1 w1 dp o2 w2 fR/\(∀b,b<w1.heap.size->fR b=dp b)/\∀b,w1.heap.size<=b->fR b=7:=by
 have hq:∀b,b<w1.heap.size->(if b<w1.heap.size then dp b else 7)=dp b:=fun b hb=>if_pos hb;refine⟨fun b=>if b<w1.heap.size then dp b else 7,(h.J3 fun b hb=>hq b (h.aF.lt hb)).aside W (fun b hb=>?_),⟨W.mono fun b hb=>.inr hb,hq⟩,hq,fun b hb=>if_neg aa⟩;rw[hb,hq S hSz];exact hl
theorem bm.Hg{A:Nat}{lk:Int}(h:bm o1 w1 K s lk dp)(U:gD S o w lab o1 w1 dp)(hl:dp A=7)(hA:w.heap.size<=A\/A=S)(hF:bM au L0 o1 w2)(on:eI A w1 w2):bm o1 w2 K s lk dp/\gD S o w lab o1 w2 dp :=
 ⟨h.aside (ex:=fun b=>b=A) (bA.dG hF on rfl) fun b hb=>by rw[hb];exact hl,U.wrote hA hF on⟩
theorem nU{w:ae}{b:Nat}{t:TypeId}{c0 c1 c2 c3:Value}(h:w.heap[b]?=some (.cells #[c0,c1,c2,c3] t)):w.cell? ⟨b,0,none⟩=some c0/\w.cell? ⟨b,1,none⟩=some c1/\w.cell? ⟨b,2,none⟩=some c2/\w.cell? ⟨b,3,none⟩=some c3:=by
 simp[World.cell?,h]
theorem pr.step(h:pr o w fv fs)(hl:∀g,fv.ownBlock=some g->lab g=7/\g≠S)(U:gD S o w lab o' w' lab')(hF:bM au L0 o w):pr o' w' fv fs/\∀g,fv.ownBlock=some g->lab' g=7/\g≠S:=by
 have cy:∀g,fv.ownBlock=some g->g<w.heap.size:=fun g hg=>hF.lt (gG hF h.cl g hg);refine⟨h.keep U.br.more fun g hg=>U.br.same g (cy g hg) (by rw[(hl g hg).1];intro q;rcases q with q|q;omega;exact(hl g hg).2 q),fun g hg=>⟨(U.lab g (cy g hg)).trans (hl g hg).1,(hl g hg).2⟩⟩
theorem uQ{d A:Nat}{fn:FuncId}{Q:Exit->Act->aM->ae->Prop}{x:Act}{ops:Array Oper}{i:Nat}{rest:List Nat}{e:Oper}{lk n0:Int}{y0:af}(n:Int)(y:af)(h:bm o1 w1 K s lk dp)(U:gD S o w lab o1 w1 dp)(hl:dp A=7)(hA:w.heap.size<=A\/A=S)(oA:o1 A)(kA:w1.heap[A]?=some (.cells #[.int .i64 n0,.string y0] 32))(k:∀w2,bm o1 w2 K s lk dp->gD S o w lab o1 w2 dp->eI A w1 w2->w2.heap[A]?=some (.cells #[.int .i64 n,.string y] 32)->eX (XB au Fin d) fn ops rest Q (x.put none undef) o1 w2)(h5:ops[i]?=some e:=by rfl)(h6:Region.wanted e (yielded ops x.tmps)=true:=by rfl)(h7:∃p v,e.op=.store 32 p v/\x.eval p=.pointer (some ⟨A,0,none⟩)/\x.eval v=.agg #[.int .i64 n,.string y]:=by exact⟨_,_,rfl,rfl,rfl⟩)(h8:e.dst=none:=by rfl):eX (XB au Fin d) fn ops (i::rest) Q x o1 w1:=by
 refine mr n y h.aF oA kA (fun w2 rO on kA2=>?_) h5 h6 h7 h8;obtain⟨h2,U2⟩:=h.Hg U hl hA rO on;exact k w2 h2 U2 on kA2
theorem vv{A:Nat}{n:Int}{y:af}{tmps:Array Value}(kA:w.heap[A]?=some (.cells #[.int .i64 n,.string y] 32))(oA:o A)(h4:tmps[4]?=some (.pointer (some ⟨A,0,none⟩)):=by rfl)(h5:tmps[5]?=some (.bool true):=by rfl):uj au (fun _=>AtRel) (GuO Fin) Tryz.f14 tmps o w (.tuple #[.agg #[.int .i64 n,.string y],.bool true]):=by
 refine wS (fun m=>?_) (fun m e he=>?_)
 ·obtain⟨c0,c1,-⟩:=dO (w:=w.at m) kA;simp[results,results14,go_sem,c0,c1,h4,h5]
 ·obtain⟨c0,c1,-⟩:=dO (w:=w.at m) kA;simp[results,results14,go_sem,c0,c1,h4,h5] at he;rcases he with rfl|rfl;all_goals exact⟨_,_,_,rfl,oA⟩
def Du(K:pz)(kd a b:Int)(s s':gQ)(fs fs':List (af×af))(ed YC:Nat)(n:Int)(y:af):Prop :=
 (kd=0/\n=0/\y=aO/\YC=ed+1/\fs'=qy fs (jd a) (rq b) true/\∃qJ,s'={s with th:=gN s.th (jd a) (rq b),st:=gN s.st (jd a) (IntKind.i64.wrap (cg s.st (jd a)+1)),qv:=qJ,qn:=(jC s.qn s.lost (jd a)).1,lost:=(jC s.qn s.lost (jd a)).2}) \/
 (kd=1/\n=0/\y=aO/\fs'=qy fs (jd a) aO false/\((eT s.th (jd a)≠none/\YC=ed+1/\∃qJ,s'={s with th:=lT s.th (jd a),st:=gN s.st (jd a) (IntKind.i64.wrap (cg s.st (jd a)+1)),qv:=qJ,qn:=(jC s.qn s.lost (jd a)).1,lost:=(jC s.qn s.lost (jd a)).2})\/(eT s.th (jd a)=none/\YC=ed/\s'=s))) \/
 (kd=2/\n=0/\y=aO/\fs'=fs/\YC=ed/\((¬rH s.time (1+eF a 9)/\s'=s)\/(rH s.time (1+eF a 9)/\s'={s with time:=s.time+(1+(eF a 9:Int)).toNat}))) \/
 (kd≠0/\kd≠1/\kd≠2/\fs'=fs/\YC=ed/\∃F,((s.phase=2\/s.phase=3)->∃lo,s.fd=some (lo,F))/\jU K s s' F (fileOf s.src (s.rd.map (·.1))) (did n y))
theorem Ur[Payload](h:vJ o w S K s lab rv fv fs ed)(kd a b:Int)(ha1:-9223372036854775808<=a)(ha2:a<=9223372036854775807)(Bo:-9223372036854775808<=b)(pA:b<=9223372036854775807)(Us:ed<4611686018427387904):
  bz au (XB au Fin 0) 14 #[.pointer (some ⟨S,0,none⟩),.agg #[.int .i64 kd,.int .i64 a,.int .i64 b]] o w fun v o' w'=>∃n y s' lab' zU fs' YC,v=.tuple #[.agg #[.int .i64 n,.string y],.bool true]/\vJ o' w' S K s' lab' rv zU fs' YC/\Du K kd a b s s' fs fs' ed YC n y/\gD S o w lab o' w' lab'/\∀g,zU.ownBlock=some g->fv.ownBlock=some g\/w.heap.size<=g:=by
 have W:=bV (P:=au) (Fin:=Fin) (d:=0);have hSl:=h.dF.aF.lt h.own;refine eA W func14 ar ?_;walk_nrmf Tryz.f14;refine ax ?_;refine dt bQ h.dF.aF rfl ar ar ?_ rfl (R:=fun wl v aV=>v=.pointer (some ⟨wl.heap.size,0,none⟩)/\aV=wl.alloc (Obj.cells #[.int .i64 kd,.int .i64 a,.int .i64 b] 30)) (fun wl aT=>⟨_,_,by first|(simp[go_sem];done)|(simp[go_sem];rfl),rfl,rfl⟩) fun wl v1 aV w1 aT hR bN=>?_
 ·refine mU ?_;refine fS (vs:=[_,_,_]) (fun x hx=>?_);simp at hx;rcases hx with rfl|rfl|rfl;all_goals exact dS
 obtain⟨rfl,hR⟩:=hR;obtain⟨z1,k1,tF⟩:=bN.alloc h.dF.aF aT hR;obtain⟨W1,hX1⟩:=bA.qx bN.aF z1 k1;rw[aT.size];clear hR bN aT wl aV;generalize grow o w w1=o1 at *;have l1:w.heap.size<w1.heap.size:=aa;clear z1;refine ax ?_;refine dt bQ W1.aF rfl ar ar mW rfl (R:=fun wl v aV=>v=.pointer (some ⟨wl.heap.size,0,none⟩)/\aV=wl.alloc (Obj.cells #[.int .i64 0,.string aO] 32)) (fun wl aT=>⟨_,_,by first|(simp[go_sem];done)|(simp[go_sem];rfl),rfl,rfl⟩) fun wl v1 aV w2 aT hR bN=>?_;obtain⟨rfl,hR⟩:=hR;obtain⟨z2,k2,Og⟩:=bN.alloc W1.aF aT hR;obtain⟨W2,IS⟩:=bA.qx bN.aF z2 k2;rw[aT.size];clear hR bN aT wl aV;generalize grow o1 w1 w2=o2 at *;have hX2:=(k2 _ aa).trans tF;have oX2:=W2.more _ hX1;have l2:w1.heap.size<w2.heap.size:=aa;clear z2;refine ax ?_;refine cd func18 (On W2.aF) ?_;rintro v3 o3 w3 ⟨N3,rfl,z3,kn3⟩;have W3:bA (fun _=>False) o2 w2 o3 w3:=bA.eJ N3;have onb:o3 w2.heap.size:=by rw[N3.own];exact .inr ⟨ag _,aa⟩
 have hX3:=(N3.old _ aa).trans hX2;have vf:=(N3.old w1.heap.size aa).trans Og;have oX3:=W3.more _ oX2;have oA3:=W3.more _ IS;have hAX:w.heap.size<w1.heap.size/\w1.heap.size<w2.heap.size:=⟨aa,aa⟩;have W03:=(W1.trans W2).trans W3;have zz3:w2.heap.size<w3.heap.size:=aa;clear z3 l1 l2 k1 k2 tF Og hX1 hX2 oX2 IS N3 W1 W2 W3;obtain⟨kL,h3,T3,Bp,Oh⟩:=h.dF.grown (cN.refl h.dF.aF) W03;have U3:=(gD.refl (S:=S) (lab:=lab) h.dF.aF).k T3;have hlX:=Oh w.heap.size (ag _);have hlA:=Oh w1.heap.size aa;have aeL:kL S=7:=(Bp S hSl).trans h.Xe;have hS3:=(W03.same S hSl id).trans h.blk;have oS3:=W03.more _ h.own;obtain⟨hf3,aeM⟩:=h.files.step h.QI U3 h.dF.aF;clear Oh Bp T3 W03;have hp:=oU a (n:=6) aa;have vL:w3.cell? ⟨w2.heap.size,eF a 6,none⟩=some (.string (jd a)):=by
  have hc6:nT[eF a 6]?=some (.string (jd a)):=by
   rw[nT,kS,eE,bo hp];rfl
  simp[World.cell?,kn3,hc6]
 have hpI:((eF a 6:Nat):Int)<6:=aa;have zo:=Uq a;have R1:=sY zo;have XH:(jd a).size<=1000000:=by have:=R1.2.1;omega
 obtain⟨x0,x1,x2,-⟩:=eO hX3;generalize Wq:w2.heap.size=Nb at *;generalize hAe:w1.heap.size=A at *;generalize hXe:w.heap.size=X at *;have Q5:w.heap.size<=A:=aa;have uR:A≠S:=aa;have al8:X≠S:=aa;clear Wq hAe;refine ax ?_;refine lh h3.aF oX3 x1 fun _=>?_;refine ax ?_;refine cd func19 (Dp h3.aF a 6 ha1 ha2 aa aa) ?_;rintro v4 o4 w4 ⟨rfl,N4⟩;have W4:bA (fun _=>False) o3 w3 o4 w4:=bA.eJ N4;obtain⟨su,h4,T4,Hy,-⟩:=h3.grown (cN.refl h3.aF) W4;have U4:=U3.k T4;have zA3:=h3.aF.lt oA3;have zX3:=h3.aF.lt oX3;have zS3:=h3.aF.lt oS3;have hX4:=(N4.old X zX3).trans hX3;have tC:=(N4.old A zA3).trans vf;have Q8:=(N4.old S zS3).trans hS3;have ajm:=(cell_of (N4.old Nb zz3)).trans vL;have ajn:=W4.more _ onb;have oX4:=W4.more _ oX3;have MU:=W4.more _ oA3;have Hh:=W4.more _ oS3;have aql:=(Hy X zX3).trans hlX;have QJ:=(Hy A zA3).trans hlA;have QK:=(Hy S zS3).trans aeL;obtain⟨Xf,Ut⟩:=hf3.step aeM ((gD.refl (S:=S) h3.aF).k T4) h3.aF;obtain⟨x0,x1,x2,-⟩:=eO hX4;have d0:w4.cell? ⟨S,0,none⟩=some (.pointer (some ⟨K.kb,0,none⟩)):=by simp[World.cell?,Q8]
 clear hX3 vf hS3 vL onb oX3 oA3 oS3 hlX hlA aeL hf3 aeM T4 Hy N4 W4 h3 U3 zz3 zA3 zX3 zS3 kn3;refine ax ?_;refine lh h4.aF ajn ajm fun _=>?_;refine ax ?_;refine lh h4.aF oX4 x0 fun _=>?_;walk_nrm;by_cases HH:kd=0
 ·subst HH;refine ax ?_;refine lh h4.aF oX4 x2 fun _=>?_;refine ax ?_;refine cd func20 (WO h4.aF b Bo pA) ?_;rintro v5 o5 w5 ⟨rfl,N5⟩;have W5:bA (fun _=>False) o4 w4 o5 w5:=bA.eJ N5;obtain⟨oT,h5,T5,Rf,-⟩:=h4.grown (cN.refl h4.aF) W5;have U5:=U4.k T5;have wZ:=(N5.old A (h4.aF.lt MU)).trans tC;have nu:=(N5.old S (h4.aF.lt Hh)).trans Q8;have Ey:=W5.more _ MU;have DR:=W5.more _ Hh;have uK:=(Rf A (h4.aF.lt MU)).trans QJ;have xi:=(Rf S (h4.aF.lt Hh)).trans QK;obtain⟨Uk,Ez⟩:=Xf.step Ut ((gD.refl (S:=S) h4.aF).k T5) h4.aF;have d05:w5.cell? ⟨S,0,none⟩=some (.pointer (some ⟨K.kb,0,none⟩)):=by simp[World.cell?,nu]
  refine ax ?_;refine lh h5.aF DR d05 fun _=>?_;refine ax ?_;refine cd func21 (TK h5 (jd a) (rq b) XH) ?_;rintro v6 o6 w6 ⟨aaJ,T6,hq⟩;have vW:isName (jd a)/\(rq b).size<=12/\¬(eT s.th (jd a)=none/\12<=s.th.length):=⟨R1,Df b,fun q=>by have:=h.A4.gT.1;omega⟩;rcases hq with⟨e,-,-,q,-⟩|⟨rfl,-,qJ,h6⟩
  ·exact absurd vW q
  have u6:=h.sound.edit (x:=jd a) (t:=rq b) (Df b) (gN s.st (jd a) (IntKind.i64.wrap (cg s.st (jd a)+1))) qJ;have Xg:=(T6.br.same A (h5.aF.lt Ey) (by rw[uK];omega)).trans wZ;have Xh:=(T6.br.same S (h5.aF.lt DR) (by rw[xi];omega)).trans nu;have FI:=T6.br.more _ Ey;have Hi:=T6.br.more _ DR;have MV:=(T6.lab A (h5.aF.lt Ey)).trans uK;have EA:=(T6.lab S (h5.aF.lt DR)).trans xi;obtain⟨Xi,Dv⟩:=Uk.step Ez ((gD.refl (S:=S) h5.aF).k T6) h5.aF;have U6:=U5.k T6;refine ax ?_;refine cd func22 (TX h6.aF S _ rv fv ed fs (jd a) (rq b) true Xh Hi Xi (by have:=h.A4.gT.2;omega) (fun e=>(Dv S e).2 rfl)) ?_;rintro v7 o7 w7 ⟨rfl,W7,zU,Uu,hf7,Ow⟩;obtain⟨xg,h7,T7,qA,hn7⟩:=h6.aaG EA (h6.aF.lt Hi) W7;have U7:=U6.trans T7;have L8:=(W7.same A (h6.aF.lt FI) uR).trans Xg;have YD:=W7.more _ FI;have MW:=W7.more _ Hi;have MM:=(qA A (h6.aF.lt FI)).trans MV;have MX:=(qA S (h6.aF.lt Hi)).trans EA;have QL:∀g,zU.ownBlock=some g->xg g=7/\g≠S:=fun g hg=>⟨hn7 g (Ow g hg),by have:=Ow g hg;have:=h6.aF.lt Hi;omega⟩;have hwe:IntKind.i64.wrap ((ed:Int)+1)=((ed+1:Nat):Int):=by rw[IntKind.wrap_i64]<;>omega
  refine ax ?_;refine lh h7.aF MW (nU Uu).2.2.2 fun _=>?_;refine ax ?_;refine du bQ h7.aF rfl ar ar ?_ rfl (R:=fun wl aV=>aV=wl.setCell ⟨S,3,none⟩ (.int .i64 ((ed+1:Nat):Int))) (fun wl aT=>⟨_,?_,rfl⟩) fun wl aV w8 aT hR bN=>?_
  ·exact iV (bU MW) dS
  ·have e:=(aT.heap _ MW).trans Uu;have e3:wl.cell? ⟨S,3,none⟩=some (.int .i64 ed):=by simp[World.cell?,e]
   have f3:wl.frozen? ⟨S,3,none⟩=false:=by simp[World.frozen?,e]
   simp[go_sem,e3,f3,hwe]
  have hO:eI S wl aV:=by rw[hR];exact iZ _ _ _ _
  obtain⟨FA,kSx,ey⟩:=bN.only aT MW hO;have se:=bN.aF;rw[ey] at se |-;have kS8:w8.heap[S]?=some (.cells #[.pointer (some ⟨K.kb,0,none⟩),rv,zU,.int .i64 ((ed+1:Nat):Int)] 39):=by
   rw[kSx,hR];have e:=(aT.heap _ MW).trans Uu;simp[World.setCell,aR,e]
  obtain⟨h8,U8⟩:=h7.Hg U7 MX (.inr rfl) se FA;clear hR bN aT hO wl aV ey kSx;refine ax ?_;have Qj:=(FA.2 A uR).trans L8;obtain⟨hf8,ajo⟩:=hf7.step (lab:=xg) QL ((gD.refl (S:=S) h7.aF).wrote (.inr rfl) se FA) h7.aF;refine uQ 0 aO h8 U8 MM (.inl Q5) YD Qj fun w9 h9 U9 lO Xj=>?_;refine ax ?_;have Xk:=(lO.2 S (fun e=>uR e.symm)).trans kS8;have Uv:∀g,zU.ownBlock=some g->g≠A:=fun g hg=>by have:=Ow g hg;have:=h6.aF.lt FI;omega
  have Xl:=hf8.keep (o':=o7) (w':=w9) (fun _ q=>q) (fun g hg=>lO.2 g (Uv g hg));refine⟨.inr trivial,trivial,.tuple #[.agg #[.int .i64 0,.string aO],.bool true],vv Xj YD,_,_,_,_,_,_,_,rfl,⟨h9,u6,Xk,MW,MX,Xl,ajo,h.A4.edit (rq b) zo rfl⟩,.inl ⟨rfl,rfl,rfl,rfl,rfl,qJ,rfl⟩,U9,fun g hg=>.inr (by have:=Ow g hg;have:=U6.br.size;omega)⟩
 by_cases X9:kd=1
 ·subst X9;clear HH;refine ax ?_;refine cd func35 (aep h4.aF S _ rv fv ed fs (jd a) Q8 Hh Xf (by have:=h.A4.gT.2;omega)) ?_;rintro v5 o5 w5 ⟨rfl,N5⟩;have W5:bA (fun _=>False) o4 w4 o5 w5:=bA.eJ N5;obtain⟨oT,h5,T5,Rf,-⟩:=h4.grown (cN.refl h4.aF) W5;have U5:=U4.k T5;have wZ:=(N5.old A (h4.aF.lt MU)).trans tC;have nu:=(N5.old S (h4.aF.lt Hh)).trans Q8;have Ey:=W5.more _ MU;have DR:=W5.more _ Hh;have uK:=(Rf A (h4.aF.lt MU)).trans QJ;have xi:=(Rf S (h4.aF.lt Hh)).trans QK;obtain⟨Uk,Ez⟩:=Xf.step Ut ((gD.refl (S:=S) h4.aF).k T5) h4.aF;have d05:w5.cell? ⟨S,0,none⟩=some (.pointer (some ⟨K.kb,0,none⟩)):=by simp[World.cell?,nu]
  have hhi:=Uo fs (jd a);rw[<- h.A4.get] at hhi;cases Cr:Ha fs (jd a)
  ·have Mp:eT s.th (jd a)=none:=aZ fun q=>by rw[hhi.2 q] at Cr;cases Cr
   clear hhi;refine ax ?_;refine lh h5.aF DR d05 fun _=>?_;refine ax ?_;refine cd func36 (J1 h5 (jd a) XH) ?_;rintro v6 o6 w6 ⟨aaJ,T6,hq⟩;rcases hq with⟨e,rfl,-,q,h6⟩|⟨-,q,-⟩;rotate_left
   ·exact absurd Mp q.2
   have e7:=q.2 R1;subst e7;have U6:=U5.k T6;have Xg:=(T6.br.same A (h5.aF.lt Ey) (by rw[uK];omega)).trans wZ;have Xh:=(T6.br.same S (h5.aF.lt DR) (by rw[xi];omega)).trans nu;have FI:=T6.br.more _ Ey;have Hi:=T6.br.more _ DR;have MV:=(T6.lab A (h5.aF.lt Ey)).trans uK;have EA:=(T6.lab S (h5.aF.lt DR)).trans xi;obtain⟨Xi,Dv⟩:=Uk.step Ez ((gD.refl (S:=S) h5.aF).k T6) h5.aF;refine ax ?_;refine dA W rfl ar rfl func22 ah rfl (by first|(simp[Act.eval];done)|(simp[Act.eval];rfl)) rfl ((TX h6.aF S _ rv fv ed fs (jd a) aO false Xh Hi Xi (by have:=h.A4.gT.2;omega) (fun e=>(Dv S e).2 rfl)).mono ?_);rintro v7 o7 w7 ⟨rfl,W7,zU,Uu,hf7,Ow⟩;obtain⟨xg,h7,T7,qA,hn7⟩:=h6.aaG EA (h6.aF.lt Hi) W7;have U7:=U6.trans T7;have L8:=(W7.same A (h6.aF.lt FI) uR).trans Xg;have YD:=W7.more _ FI;have MW:=W7.more _ Hi;have MM:=(qA A (h6.aF.lt FI)).trans MV;have MX:=(qA S (h6.aF.lt Hi)).trans EA;have QL:∀g,zU.ownBlock=some g->xg g=7/\g≠S:=fun g hg=>⟨hn7 g (Ow g hg),by have:=Ow g hg;have:=h6.aF.lt Hi;omega⟩;have Uv:∀g,zU.ownBlock=some g->g≠A:=fun g hg=>by have:=Ow g hg;have:=h6.aF.lt FI;omega
   have hwe:IntKind.i64.wrap ((ed:Int)+1)=((ed+1:Nat):Int):=by rw[IntKind.wrap_i64]<;>omega
   refine ax ?_;refine uQ 0 aO h7 U7 MM (.inl Q5) YD L8 fun w9 h9 U9 lO Xj=>?_;refine ax ?_;have Xk:=(lO.2 S (fun e=>uR e.symm)).trans Uu;have Xl:=hf7.keep (o':=o7) (w':=w9) (fun _ q=>q) (fun g hg=>lO.2 g (Uv g hg));refine⟨.inr trivial,trivial,.tuple #[.agg #[.int .i64 0,.string aO],.bool true],vv Xj YD,_,_,_,_,_,_,_,rfl,⟨h9,h.sound,Xk,MW,MX,Xl,QL,h.A4.Zm aO zo Mp⟩,.inr (.inl ⟨rfl,rfl,rfl,rfl,.inr ⟨Mp,rfl,rfl⟩⟩),U9,fun g hg=>.inr (by have:=Ow g hg;have:=U6.br.size;omega)⟩
  ·have aeQ:eT s.th (jd a)≠none:=hhi.1 Cr;clear hhi;refine ax ?_;refine lh h5.aF DR d05 fun _=>?_;refine ax ?_;refine cd func36 (J1 h5 (jd a) XH) ?_;rintro v6 o6 w6 ⟨aaJ,T6,hq⟩;rcases hq with⟨e,rfl,-,q,-⟩|⟨rfl,-,qJ,h6⟩
   ·exact absurd ⟨R1,aeQ⟩ q.1
   have u6:=h.sound.remove (x:=jd a) (gN s.st (jd a) (IntKind.i64.wrap (cg s.st (jd a)+1))) qJ;have U6:=U5.k T6;have Xg:=(T6.br.same A (h5.aF.lt Ey) (by rw[uK];omega)).trans wZ;have Xh:=(T6.br.same S (h5.aF.lt DR) (by rw[xi];omega)).trans nu;have FI:=T6.br.more _ Ey;have Hi:=T6.br.more _ DR;have MV:=(T6.lab A (h5.aF.lt Ey)).trans uK;have EA:=(T6.lab S (h5.aF.lt DR)).trans xi;obtain⟨Xi,Dv⟩:=Uk.step Ez ((gD.refl (S:=S) h5.aF).k T6) h5.aF;refine ax ?_;refine dA W rfl ar rfl func22 ah rfl (by first|(simp[Act.eval];done)|(simp[Act.eval];rfl)) rfl ((TX h6.aF S _ rv fv ed fs (jd a) aO false Xh Hi Xi (by have:=h.A4.gT.2;omega) (fun e=>(Dv S e).2 rfl)).mono ?_);rintro v7 o7 w7 ⟨rfl,W7,zU,Uu,hf7,Ow⟩;obtain⟨xg,h7,T7,qA,hn7⟩:=h6.aaG EA (h6.aF.lt Hi) W7;have U7:=U6.trans T7;have L8:=(W7.same A (h6.aF.lt FI) uR).trans Xg;have YD:=W7.more _ FI;have MW:=W7.more _ Hi;have MM:=(qA A (h6.aF.lt FI)).trans MV;have MX:=(qA S (h6.aF.lt Hi)).trans EA;have QL:∀g,zU.ownBlock=some g->xg g=7/\g≠S:=fun g hg=>⟨hn7 g (Ow g hg),by have:=Ow g hg;have:=h6.aF.lt Hi;omega⟩;have Uv:∀g,zU.ownBlock=some g->g≠A:=fun g hg=>by have:=Ow g hg;have:=h6.aF.lt FI;omega
   have hwe:IntKind.i64.wrap ((ed:Int)+1)=((ed+1:Nat):Int):=by rw[IntKind.wrap_i64]<;>omega
   refine ax ?_;refine lh h7.aF MW (nU Uu).2.2.2 fun _=>?_;refine ax ?_;refine du bQ h7.aF rfl ar ar ?_ rfl (R:=fun wl aV=>aV=wl.setCell ⟨S,3,none⟩ (.int .i64 ((ed+1:Nat):Int))) (fun wl aT=>⟨_,?_,rfl⟩) fun wl aV w8 aT hR bN=>?_
   ·exact iV (bU MW) dS
   ·have e:=(aT.heap _ MW).trans Uu;have e3:wl.cell? ⟨S,3,none⟩=some (.int .i64 ed):=by simp[World.cell?,e]
    have f3:wl.frozen? ⟨S,3,none⟩=false:=by simp[World.frozen?,e]
    simp[go_sem,e3,f3,hwe]
   have hO:eI S wl aV:=by rw[hR];exact iZ _ _ _ _
   obtain⟨FA,kSx,ey⟩:=bN.only aT MW hO;have se:=bN.aF;rw[ey] at se |-;have kS8:w8.heap[S]?=some (.cells #[.pointer (some ⟨K.kb,0,none⟩),rv,zU,.int .i64 ((ed+1:Nat):Int)] 39):=by
    rw[kSx,hR];have e:=(aT.heap _ MW).trans Uu;simp[World.setCell,aR,e]
   obtain⟨h8,U8⟩:=h7.Hg U7 MX (.inr rfl) se FA;clear hR bN aT hO wl aV ey kSx;refine ax ?_;have Qj:=(FA.2 A uR).trans L8;have hf8:=hf7.keep (o':=o7) (w':=w8) (fun _ q=>q) (fun g hg=>FA.2 g (QL g hg).2);refine uQ 0 aO h8 U8 MM (.inl Q5) YD Qj fun w9 h9 U9 lO Xj=>?_;refine ax ?_;have Xk:=(lO.2 S (fun e=>uR e.symm)).trans kS8;have Xl:=hf8.keep (o':=o7) (w':=w9) (fun _ q=>q) (fun g hg=>lO.2 g (Uv g hg));refine⟨.inr trivial,trivial,.tuple #[.agg #[.int .i64 0,.string aO],.bool true],vv Xj YD,_,_,_,_,_,_,_,rfl,⟨h9,u6,Xk,MW,MX,Xl,QL,h.A4.remove aO zo rfl⟩,.inr (.inl ⟨rfl,rfl,rfl,rfl,.inl ⟨aeQ,rfl,qJ,rfl⟩⟩),U9,fun g hg=>.inr (by have:=Ow g hg;have:=U6.br.size;omega)⟩
 by_cases RH:kd=2
 ·subst RH;clear HH X9;have hp9:=oU a (n:=9) aa;have hw9:IntKind.i64.wrap (1+(eF a 9:Int))=1+(eF a 9:Int):=by rw[IntKind.wrap_i64]<;>omega
  refine ax ?_;refine dQ mixed ah [some none,some none,some none,some (some (.pointer (some ⟨K.kb,0,none⟩))),some none,some (some (.int .i64 a)),some (some (.int .i64 (eF a 9:Nat))),some none,none,some none]
   (S:=fun σ o' w'=>(σ 8=none/\fZ o4 w4 o' w')\/∃y w5 oT,σ 8=some y/\fZ o4 w4 o' w5/\bm o' w5 K s 0 oT/\(∀b,b<w4.heap.size->oT b=su b)/\w'.heap.size=w5.heap.size/\(∀b,b≠K.kb->w'.heap[b]?=w5.heap[b]?)/\((y=.int .i64 8/\¬rH s.time (1+(eF a 9:Int))/\bm o' w' K s 0 oT)\/(y=.int .i64 0/\rH s.time (1+(eF a 9:Int))/\bm o' w' K {s with time:=s.time+(1+(eF a 9:Int)).toNat} 0 oT))) (.inl ⟨rfl,fZ.refl h4.aF⟩) fun v9=>?_
  refine dP ?_;refine cC ?_;refine cm bQ rfl rfl rfl ar ar (fun σ o' w' H hS=>?_) ?_
  ·rcases hS with⟨-,G⟩|⟨y,w5,oT,q,-⟩
   ·have hx:=G.br.more _ Hh;exact tE G.br.aF hx ((cell_of (G.br.same S (h4.aF.lt Hh) id)).trans d0)
   ·rw[H.xm 8 ah] at q;cases q
  refine cC ?_;refine cm bQ rfl rfl rfl ar ar (fun σ o' w' H hS=>?_) ?_
  ·rcases hS with⟨-,G⟩|⟨y,w5,oT,q,-⟩
   ·have hx:=G.br.more _ oX4;exact tE G.br.aF hx ((cell_of (G.br.same X (h4.aF.lt oX4) id)).trans x1)
   ·rw[H.qE [7,6] 8 ah] at q;cases q
  refine cC ?_;refine jP rfl rfl ar rfl func19 ah rfl (av:=#[.int .i64 a,.int .i64 9]) aH (fun σ o' w' H hS=>?_) ?_
  ·rcases hS with⟨h8,G⟩|⟨y,w5,oT,q,-⟩
   ·refine(Dp G.br.aF a 9 ha1 ha2 aa aa).mono ?_;rintro y o5 w5 ⟨rfl,N5⟩;exact⟨rfl,.inl ⟨h8,G.trans (fZ.eJ N5)⟩⟩
   ·rw[H.qE [7] 8 ah] at q;cases q
  walk_nrm;refine re (y:=.int .i64 (1+(eF a 9:Int))) rfl rfl rfl ar (fun w1=>by simp[go_sem,Act.eval,hw9]) (fun w1=>by simp[go_sem,Act.eval]) ?_;walk_nrm;refine ve rfl rfl ar rfl func37 ah rfl (av:=#[.pointer (some ⟨K.kb,0,none⟩),.int .i64 (1+(eF a 9:Int))]) aH (fun σ o' w' H h8 hS=>?_) ?_
  ·rcases hS with⟨-,G⟩|⟨y,w5,oT,q,-⟩
   ·obtain⟨oT,h5,-,Rf,-⟩:=h4.grown (cN.refl h4.aF) G.br;refine(MF h5 (1+(eF a 9:Int))).mono ?_;rintro y o6 w6 ⟨rfl,t1,t2,t3⟩;exact .inr ⟨y,w',oT,by simp[fM],G,h5,Rf,t1,t2,t3⟩
   ·rw[h8] at q;cases q
  refine cC ?_;refine cB fun σ o5 w6 mn hS=>?_;rcases hS with⟨q,-⟩|⟨y,w5,oT,q,G5,h5,q2,q3,q4,q5⟩
  ·rw[mn 8 eu rfl] at q;cases q
  have hv:v9 8=y:=aQ ((mn 8 eu rfl).symm.trans q);clear mn q;rcases q5 with⟨rfl,ht,h6⟩|⟨rfl,ht,h6⟩
  ·simp only[hv];have Fo:=h6.aF;have T6:cN o5 w5 oT o5 w6 oT:=cN.of (bA.dG (ex:=(·=K.kb)) Fo ⟨q3,q4⟩ rfl) (fun b hb=>by rw[hb,h5.l0];omega);have U6:=(U4.trans ⟨G5.br.mono (fun b hb=>hb.elim),q2⟩).k T6;have wZ:=(G5.br.same A (h4.aF.lt MU) id).trans tC;have nu:=(G5.br.same S (h4.aF.lt Hh) id).trans Q8;have Ey:=G5.br.more _ MU;have DR:=G5.br.more _ Hh;have uK:=(q2 A (h4.aF.lt MU)).trans QJ;have xi:=(q2 S (h4.aF.lt Hh)).trans QK;obtain⟨Uk,Ez⟩:=Xf.step Ut (S:=S) (lab':=oT) ⟨G5.br.mono (fun b hb=>hb.elim),q2⟩ h4.aF;have Xg:=(T6.br.same A (h5.aF.lt Ey) (by rw[uK];omega)).trans wZ;have Xh:=(T6.br.same S (h5.aF.lt DR) (by rw[xi];omega)).trans nu;obtain⟨Xi,Dv⟩:=Uk.step Ez ((gD.refl (S:=S) h5.aF).k T6) h5.aF;have Uv:∀g,fv.ownBlock=some g->g≠A:=fun g hg=>by have:=h.dF.aF.lt (gG h.dF.aF h.files.cl g hg);omega
   simp only[iH,dI,if_true,if_false,reduceIte,Nat.reduceEqDiff];refine ax ?_;refine uQ 0 aO h6 U6 uK (.inl Q5) Ey Xg fun w9 h9 U9 lO Xj=>?_;refine ax ?_;have Xk:=(lO.2 S (fun e=>uR e.symm)).trans Xh;have Xl:=Xi.keep (o':=o5) (w':=w9) (fun _ q=>q) (fun g hg=>lO.2 g (Uv g hg));refine⟨.inr trivial,trivial,.tuple #[.agg #[.int .i64 0,.string aO],.bool true],vv Xj Ey,_,_,_,_,_,_,_,rfl,⟨h9,h.sound,Xk,DR,xi,Xl,Dv,h.A4⟩,.inr (.inr (.inl ⟨rfl,rfl,rfl,rfl,rfl,.inl ⟨ht,rfl⟩⟩)),U9,fun g hg=>.inl hg⟩
  ·simp only[hv];have Fo:=h6.aF;have T6:cN o5 w5 oT o5 w6 oT:=cN.of (bA.dG (ex:=(·=K.kb)) Fo ⟨q3,q4⟩ rfl) (fun b hb=>by rw[hb,h5.l0];omega);have U6:=(U4.trans ⟨G5.br.mono (fun b hb=>hb.elim),q2⟩).k T6;have wZ:=(G5.br.same A (h4.aF.lt MU) id).trans tC;have nu:=(G5.br.same S (h4.aF.lt Hh) id).trans Q8;have Ey:=G5.br.more _ MU;have DR:=G5.br.more _ Hh;have uK:=(q2 A (h4.aF.lt MU)).trans QJ;have xi:=(q2 S (h4.aF.lt Hh)).trans QK;obtain⟨Uk,Ez⟩:=Xf.step Ut (S:=S) (lab':=oT) ⟨G5.br.mono (fun b hb=>hb.elim),q2⟩ h4.aF;have Xg:=(T6.br.same A (h5.aF.lt Ey) (by rw[uK];omega)).trans wZ;have Xh:=(T6.br.same S (h5.aF.lt DR) (by rw[xi];omega)).trans nu;obtain⟨Xi,Dv⟩:=Uk.step Ez ((gD.refl (S:=S) h5.aF).k T6) h5.aF;have Uv:∀g,fv.ownBlock=some g->g≠A:=fun g hg=>by have:=h.dF.aF.lt (gG h.dF.aF h.files.cl g hg);omega
   simp only[iH,dI,if_true,if_false,reduceIte,Nat.reduceEqDiff];refine ax ?_;refine uQ 0 aO h6 U6 uK (.inl Q5) Ey Xg fun w9 h9 U9 lO Xj=>?_;refine ax ?_;have Xk:=(lO.2 S (fun e=>uR e.symm)).trans Xh;have Xl:=Xi.keep (o':=o5) (w':=w9) (fun _ q=>q) (fun g hg=>lO.2 g (Uv g hg));refine⟨.inr trivial,trivial,.tuple #[.agg #[.int .i64 0,.string aO],.bool true],vv Xj Ey,_,_,_,_,_,_,_,rfl,⟨h9,h.sound.tick _,Xk,DR,xi,Xl,Dv,h.A4.same rfl⟩,.inr (.inr (.inl ⟨rfl,rfl,rfl,rfl,rfl,.inr ⟨ht,rfl⟩⟩)),U9,fun g hg=>.inl hg⟩
 refine ax ?_;refine gX W (t:=false) (by simp[Act.eval,HH]) ?_;simp only[if_false,reduceIte,aL];refine ax ?_;refine gX W (t:=false) (by simp[Act.eval,X9]) ?_;simp only[if_false,reduceIte,aL];refine ax ?_;refine gX W (t:=false) (by simp[Act.eval,RH]) ?_;simp only[if_false,reduceIte,aL];refine ax ?_;refine lh h4.aF Hh d0 fun _=>?_;refine ax ?_;refine cd func38 (uM h4 h.sound) ?_;rintro v5 o5 w5 ⟨s5,oT,F5,ajp,hw5,u5,h5,T5⟩;have U5:=U4.k T5;have wZ:=(T5.br.same A (h4.aF.lt MU) (by rw[QJ];omega)).trans tC;have nu:=(T5.br.same S (h4.aF.lt Hh) (by rw[QK];omega)).trans Q8;have Ey:=T5.br.more _ MU;have DR:=T5.br.more _ Hh;have uK:=(T5.lab A (h4.aF.lt MU)).trans QJ;have xi:=(T5.lab S (h4.aF.lt Hh)).trans QK;obtain⟨Uk,Ez⟩:=Xf.step Ut ((gD.refl (S:=S) h4.aF).k T5) h4.aF;obtain⟨n,y,hv,KI,hn6,-,UU,-⟩:=hw5.kind;subst hv;have Uv:∀g,fv.ownBlock=some g->g≠A:=fun g hg=>by have:=h.dF.aF.lt (gG h.dF.aF h.files.cl g hg);omega
 unfold did;refine ax ?_;refine sX n y h5 fun D o6 w7 aaJ hD hV=>?_;have zA5:=h5.aF.lt Ey;have zS5:=h5.aF.lt DR;have h7:=hV.dF;have U7:=U5.k hV.step;have L8:=(hV.old A zA5).2.trans wZ;have Uu:=(hV.old S zS5).2.trans nu;have FI:=hV.br.more _ Ey;have Hi:=hV.br.more _ DR;have MV:=(hV.old A zA5).1.trans uK;have EA:=(hV.old S zS5).1.trans xi;obtain⟨hf7,Dv⟩:=Uk.step Ez ((gD.refl (S:=S) h5.aF).k hV.step) h5.aF;obtain⟨g0,g1,-⟩:=dO hV.blk;have oD6:=hV.own;have hF7:=h7.aF;have hDA:D≠A:=aa;refine ax ?_;refine dQ mixed ah [some (some (.agg #[.int .i64 n,.string y])),some none,some (some (.int .i64 n)),some none,some none,some none,some (some (.int .i64 n)),some none,some none,none,some none]
  (S:=fun σ o' w'=>o6=o'/\bM au L0 o' w'/\eI A w7 w'/\w'.heap[A]?=some (.cells (if (σ 9).isSome then #[.int .i64 n,.string y] else #[.int .i64 0,.string aO]) 32)) ⟨rfl,hF7,eI.refl,L8⟩ fun v9=>?_
 refine dP ?_;refine cm bQ rfl rfl rfl ar ar (fun σ o' w' H hS=>?_) ?_
 ·obtain⟨rfl,hf,on,-⟩:=hS;have e:=on.2 D hDA;exact⟨hf,mU (bU oD6),fun wl aT=>by simp[go_sem,(aT.cell oD6).trans ((cell_of e).trans g0),(aT.cell oD6).trans ((cell_of e).trans g1)]⟩
 refine cC ?_;refine cm bQ rfl rfl rfl ar ar (fun σ o' w' H hS=>?_) ?_
 ·obtain⟨rfl,hf,on,-⟩:=hS;exact tE hf oD6 ((cell_of (on.2 D hDA)).trans g0)
 walk_nrm;refine re (y:=.bool true) rfl rfl rfl ar (fun w1=>by simp[go_sem,Act.eval,KI]) (fun w1=>by simp[go_sem,Act.eval]) ?_;refine cC ?_;refine cm bQ rfl rfl rfl ar ar (fun σ o' w' H hS=>?_) ?_
 ·obtain⟨rfl,hf,on,-⟩:=hS;exact tE hf oD6 ((cell_of (on.2 D hDA)).trans g0)
 walk_nrm;refine re (y:=.bool true) rfl rfl rfl ar (fun w1=>by simp[go_sem,Act.eval,hn6]) (fun w1=>by simp[go_sem,Act.eval]) ?_;refine cC ?_;refine pL bQ rfl rfl rfl ar ar (fun σ o' w' H h9 hS=>?_) ?_
 ·obtain⟨rfl,hf,on,kA⟩:=hS;simp only[h9,Option.isSome_none,aL,if_false] at kA;refine⟨hf,fun z hz=>?_,fun wl aV=>aV=(wl.setCell ⟨A,0,none⟩ (.int .i64 n)).setCell ⟨A,1,none⟩ (.string y),fun wl aT=>⟨_,?_,rfl⟩,fun wl aV w8 aT hR bN=>?_⟩
  ·simp[Op.operands] at hz;rcases hz with rfl|rfl
   ·simp[Act.eval];exact bU FI
   ·simp[Act.eval];refine fS (vs:=[_,_]) (fun x hx=>?_);simp at hx;rcases hx with rfl|rfl
    ·exact dS
    ·exact bS
  ·obtain⟨e0,e1,f0,f1⟩:=dO ((aT.heap _ FI).trans kA);simp[go_sem,Act.eval,e0,e1,f0,f1]
  ·have hO:eI A wl aV:=by rw[hR];exact Aw _ _ _ _ _ _
   obtain⟨FA,Yt,ey⟩:=bN.only aT FI hO;have se:=bN.aF;rw[ey] at se |-;rw[hR,Tt ((aT.heap _ FI).trans kA)] at Yt;exact⟨rfl,se,⟨FA.1.trans on.1,fun c hc=>(FA.2 c hc).trans (on.2 c hc)⟩,by simp[fM,Yt]⟩
 refine cC ?_;refine cB fun σ o8 w8 mn hS=>?_;obtain⟨rfl,se,FA,Yt⟩:=hS;simp only[mn 9 eu rfl,Option.isSome_some,if_true] at Yt;clear mn;obtain⟨h8,U8⟩:=h7.Hg U7 MV (.inl Q5) se FA;have kS8:=(FA.2 S (fun e=>uR e.symm)).trans Uu;have hf8:=hf7.keep (o':=o6) (w':=w8) (fun _ q=>q) (fun g hg=>FA.2 g (Uv g hg));simp only[iH,dI,if_true,if_false,reduceIte,Nat.reduceEqDiff];refine ax ?_;refine⟨.inr trivial,trivial,.tuple #[.agg #[.int .i64 n,.string y],.bool true],vv Yt FI,_,_,_,_,_,_,_,rfl,⟨h8,u5,kS8,Hi,EA,hf8,Dv,h.A4.same UU⟩,.inr (.inr (.inr ⟨HH,X9,RH,rfl,rfl,F5,ajp,hw5⟩)),U8,fun g hg=>.inl hg⟩
end
section
variable {Fin:bK} {o o' o1 o2 o3:aM} {w w' w1 w2 w3:ae} {S Nb:Nat} {K:pz} {s s' s2:gQ} {lab lab' dp fR kL:Nat->Nat} {rv fv MY sv:Value} {fs EB:List (af×af)} {ed yV:Nat} {since:List af}
theorem yP{P:Program}{m:Bool}{R:aM->ae->ae->Prop}{Gu:aM->ae->ae->Array Event->Prop}{X:aM->aX->ae->Prop}{fn:FuncId}{Q:Exit->Act->aM->ae->Prop}{a:Act}(W:fH P m R Gu X){x y:Code}(J:Act->aM->ae->Prop)(h1:vV X fn x (iH J Q) a o w)(h2:∀a' o' w',J a' o' w'->vV X fn y Q a' o' w'):vV X fn (.seq x y) Q a o w :=
 pH W (Iz h1 fun e a o w hq=>by
  cases e
  case normal=>exact h2 _ _ _ hq
  all_goals exact hq)
structure FJ(Fin:bK)(w:ae)(p:Option Addr)(b off:Nat)(xs:List (Int×Int×Int)):Prop where
 ptr:xs≠[]->p=some ⟨b,off,none⟩/\x7 Fin b/\b<w.heap.size
 at_:∀i (h:i<xs.length),w.cell? ⟨b,off+i*3,none⟩=some (.int .i64 xs[i].1)/\w.cell? ⟨b,off+i*3+1,none⟩=some (.int .i64 xs[i].2.1)/\w.cell? ⟨b,off+i*3+2,none⟩=some (.int .i64 xs[i].2.2)
 WS:∀x∈xs,(-9223372036854775808<=x.2.1/\x.2.1<=9223372036854775807)/\(-9223372036854775808<=x.2.2/\x.2.2<=9223372036854775807)
 EI:xs.length*24<=140737488355328
theorem MZ{P:Program}(w1:ae)(es:Array Event)(t e:TypeId)(b k n ec:Nat)(ht:P.underlying t=some (.slice e))(hkc:k<=ec):(Instr.sliceAt t (.slice (some ⟨b,0,none⟩) n ec) none (some (.int .i64 k)) none).events P w1 es=es:=by
 have h:(k:Int)<=ec:=aa;have b1:∀w es c,(Instr.sliceBound (.int .i64 k) ec c).events P w es=es:=fun w es c=>by
  simp[Instr.sliceBound,asIntOf,h]
 unfold Instr.sliceAt;simp[Instr.slice,Instr.sliceBounds,Instr.sureAddr,Sem.events_bind,run_underlying ht,run_sliceBound,b1,h,go_sem]
end
end Go.Proofs.Kz
namespace Go.Ren
open Go.Conc Go.ConcN
def Dw(P:Program)(X:aM->aX->ae->Prop)(f:FuncId)(fc:Func)(vs:Array Value)(o:aM)(w:ae)(Post:Value->aM->ae->Prop):Prop :=
 ∃c,fc.body=some c/\vV X f c (fun e a' o' w'=>(e=.normal\/e=.ret)/\a'.defers=[]/\∃v,ResultsC P fc a'.tmps v/\Post v o' w') {tmps:=vs++Array.replicate (fc.ntmps-vs.size) undef,defers:=[]} o w
section
variable {P:Program} {m:Bool} {R:aM->ae->ae->Prop} {Gu:aM->ae->ae->Array Event->Prop} {X:aM->aX->ae->Prop} {o:aM} {w:ae}
theorem Dw.top(W:fH P m R Gu X){f:FuncId}{fc:Func}{vs:Array Value}{Post:Value->aM->ae->Prop}(hf:P.funcs[f]?=some fc)(h:Dw P X f fc vs o w Post)(hc:∀(a':Act) (o':aM) (w':ae) (todo:List Item) (v:Value),a'.defers=[]->ResultsC P fc a'.tmps v->Post v o' w'->X o' (G {(base f).at a' todo with mode:=.returning} []) w'):
  X o (G (Frame.enter P f vs .normal) []) w:=by
 obtain⟨c,fF,h⟩:=h;rw[iN hf fF];refine h (base f) [] [] rfl (by simp[base]) fun e a' o' w' q=>?_;obtain⟨he,hd,v,hr,hx⟩:=q;rcases he with rfl|rfl
 ·exact W.go rfl (fun _=>ef) (hc a' o' w' [] v hd hr hx)
 ·exact fun todo=>hc a' o' w' todo v hd hr hx
theorem A5{b:Frame}{a:Act}{fn:Func}{todo:List Item}{v:Value}(hi:P.inits.idxOf? b.fn=none)(hn:b.kind=.normal)(hd:a.defers=[])(hf:P.funcs[b.fn]?=some fn)(hr:(results fn a.tmps).run P w=.ok v w)(he:(results fn a.tmps).events P w #[]=#[]):
  stepG P true (G {b.at a todo with mode:=.returning} []) w=.ended (.done v) w #[]:=by
 simp[G,stepG,unwind,doReturn,Frame.at,hn,hd,hf,hr,he,hi,GStep.after,seen_none]
end
section
variable {P:Program}
theorem Ks{S:Nat->Prop}{Post:Value->ae->Prop}{a:aX}{W:ae}(hS:∀b,W.heap.size<=b->¬S b)(h:BX P (Si P Post) 0 S a W):
  ∃N last o w' t',runNT P (N+1) (solo a W) #[]=(.ended o w',t')/\runN P N (solo a W)=.next last/\step P last=.ended o w'/\Conc.Good P Post last o w' t':=by
 have UH:mB 0 S #[]:=⟨past_nil.clean,fun i a ha=>by simp[touchAt,Trace.act?] at ha,past_nil.over,rfl⟩;obtain⟨N,gs,w,sl,t,q,S,g,k1,k2,k3,k4,_,k6⟩:=h #[a] none #[] (fun _=>0) rfl (leavers_one P a) UH hS;obtain⟨B,hB⟩:=k4.RA;obtain⟨N2,last,o,w',t',l1,l2,l3,l4⟩:=beside_ends (P:=P) (Shun:=tW S) (B:=B+0) (D:=fun _ _ _=>False) (Post:=Post) (n:=0) (sl:=sl) (fun _ _ _ hf=>hf.elim) k2 k3 (hB 0) (fun w1 hw=>by
  obtain⟨h1,v,h2,h3⟩:=k6 w1 hw;exact⟨h1,v,#[],h2,aj,h3⟩)
 refine⟨N+N2,last,o,w',t',?_,?_,l3,l4⟩
 ·rw[dM,runNT_add,solo_eq_crowd,k1];exact l1
 ·rw[runN_add,solo_eq_crowd,<- runNT_fst P _ _ #[],k1];exact l2
theorem Hj{f:FuncId}{fc:Func}{vs:Array Value}{o:aM}{W:ae}{Q:Value->aM->ae->Prop}(A:Nat->Prop)(hA:∀b,A b->b<W.heap.size)(hf:P.funcs[f]?=some fc)(hi:P.inits.idxOf? f=none)(h:∀Fin,(∀b,A b->x7 Fin b)->Dw P (XB P Fin 0) f fc vs o W Q):
  ∃N last o' w' t',runNT P (N+1) (solo (G (Frame.enter P f vs .normal) []) W) #[]=(.ended o' w',t')/\runN P N (solo (G (Frame.enter P f vs .normal) []) W)=.next last/\step P last=.ended o' w' /\
   Conc.Good P (fun v w'=>(∃o1 w1,w'.heap=w1.heap/\Q v o1 w1)/\w'.os=W.os/\w'.output=W.output) last o' w' t':=by
 have pg:∀{w1 w2:ae},AtRel w1 w2->w2.heap=w1.heap/\w2.os=w1.os/\w2.output=w1.output:=fun hx=>by obtain⟨d,rfl⟩:=hx;exact⟨rfl,rfl,rfl⟩
 let F:bK:=fun S g w=>Si P (fun v w'=>∃o1 w1,w'.heap=w1.heap/\Q v o1 w1) S g w/\(∀b,A b->¬S b)\/w.output≠W.output/\∀b,A b->¬S b;have hL:∀b,A b->x7 F b:=fun b hb S g w hx=>hx.elim (fun k=>k.2 b hb) fun k=>k.2 b hb;have hB:um F W:=fun b hb=>fA fun hle=>hb (fun x=>x=b) (G (Frame.enter P f vs .normal) []) {W with output:=W.output.push (0,ByteArray.empty)} (.inr ⟨fun e=>by have:=congrArg (fun x=>x.size) e;simp at this,fun x hx e=>by have:=hA x hx;omega⟩) rfl;have hx:XB P F 0 o (G (Frame.enter P f vs .normal) []) W :=
  Dw.top bV hf (h _ hL) fun a' o' w' todo v hd hr hq=>(fun _=>AU.fin fun w1 hw=>⟨.inl ⟨fun w2 uS=>⟨rfl,v,A5 hi rfl hd hf (hr w2).1 (hr w2).2,o',w',(pg (atRel_trans _ _ _ hw uS)).1,hq⟩,fun b hb hs=>hs.2.2 (hL b hb)⟩,(pg hw).2⟩)
 refine Ks (S:=Fa F o W) (fun b hb hx=>by have:=hx.1;omega) ((hx hB).bx.mono fun S g w hw=>?_);intro w1 h1;obtain⟨k1,v,k2,k3⟩:=(hw.1.resolve_right fun k=>k.1 hw.2.2).1 w1 h1;exact⟨k1,v,k2,k3,(pg h1).2.1.trans hw.2.1,(pg h1).2.2.trans hw.2.2⟩
end
end Go.Ren
namespace Go
open Go.Conc
section
open Go.ConcM
section
variable {H:Type} {enc:TypeId×Value->H}
theorem ja{a:Assume}{C:Checked}{os:Os}{f:FuncId}{fn:Func}{s:ChangeSpec}{F:Stop.Interp}{conds:List PathCond}{apart fresh handsOn:Bool}{laid:List (String×DataW Unit)}(own:ownKnob C.prog.godebug=none)(started:os.Started)(qC:C.prog.funcs[f]?=some fn)(witness:∃(w:ae) (tape:Tape) (i:Input),w.os=os/\(w.forCall tape i).Shaped C.prog/\i.vars=[]/\Input.okWide C.prog (w.forCall tape i) .any w.heap.size f i /\
   ((s.pre enc C.prog fn conds apart (w.forCall tape i).memory i.args/\laidMetH C.prog laid (w.forCall tape i).memory)/\sizedMet enc C.prog fn (OpenSpec.ofChange s) apart (w.forCall tape i).memory i.args)/\a.holds C.prog (lone (Frame.enter C.prog f i.args .normal) [] (w.forCall tape i)))(runs:∀(W:ae) (base:Nat) (args:Array Value) (ds gs:List (DataW H)) (before:List MemPlace),
   (∀(j:Nat) t v,fn.params[j]?=some t->args[j]?=some v->Value.okWide C.prog W .any base t v) ->
   DataW.Whole enc C.prog fn.params.toList s.vars apart W args.toList ds gs before ->
   (DataW.weightsEach C.prog (fn.params.toList++s.plain.varTypes C.prog) (ds++gs)).all (·<=reachBytes)=true ->
   laidMetH C.prog laid W->W.ShapedOpen C.prog ->
   ∃M last o w' t',runNT C.prog (M+1) (solo (G (Frame.enter C.prog f args .normal) []) W) #[]=(.ended o w',t')/\runN C.prog M (solo (G (Frame.enter C.prog f args .normal) []) W)=.next last /\
    step C.prog last=.ended o w'/\Conc.Good C.prog (fun v W'=>s.post enc C.prog fn apart fresh handsOn false W args v {W' with os:=W.os}/\OsLater W.os W'.os) last o w' t'):
  ReturnsInLeavingWide a C os f .any (fun w args=>(s.pre enc C.prog fn conds apart w args/\laidMetH C.prog laid w)/\sizedMet enc C.prog fn (OpenSpec.ofChange s) apart w args) ((OpenSpec.ofChange s).postWith enc C.prog fn F (outsideKept [.timePasses]) apart fresh handsOn):=by
 refine returnsInLeavingWide_of_good own started witness ?_;intro w tape i _ tf _ je QC ajr;obtain⟨_,_,_,fn',ajs,_,_,_,_,oB⟩:=je;have e:fn'=fn:=aQ (ajs.symm.trans qC);subst e;obtain⟨⟨⟨ds,gs,before,hw,hc⟩,hl⟩,hz⟩:=QC;have hw':=DataW.Whole.of_heap (w':=w.forCall tape i) ar hw;obtain⟨M,last,o,w',t',h1,h2,h3,h4⟩:=runs (w.forCall tape i) w.heap.size i.args ds gs before oB hw' (hz.weights hw) (laidMetH.of_heap ar hl) tf;obtain⟨v,e,hp,r1,r2,r3,r4⟩:=h4;exact⟨M,last,o,w',t',h1,h2,h3,v,e,postWith_blind (postWith_of_post hp.1 hp.2),r1,r2,r3,r4⟩
theorem ChangeSpec.yQ{C:Checked}{os:Os}{f:FuncId}{fn:Func}{s:ChangeSpec}{conds:List PathCond}{apart:Bool}{laid:List (String×DataW Unit)}(w0:ae)(args:Array Value)(fuel:Nat)(YT:w0.os=os)(tf:(w0.forCall (fun _ _=>0) ⟨#[],args,[]⟩).Shaped C.prog)(je:Input.okWideB C.prog (w0.forCall (fun _ _=>0) ⟨#[],args,[]⟩) f ⟨#[],args,[]⟩=true)(QC:s.preB enc C.prog fn conds apart (w0.forCall (fun _ _=>0) ⟨#[],args,[]⟩).memory args fuel=true)(fE:s.sizedB enc C.prog fn apart (w0.forCall (fun _ _=>0) ⟨#[],args,[]⟩).memory args fuel=true)(hx:laidMetH C.prog laid (w0.forCall (fun _ _=>0) ⟨#[],args,[]⟩).memory):
  ∃(w:ae) (tape:Tape) (i:Input),w.os=os/\(w.forCall tape i).Shaped C.prog/\i.vars=[]/\Input.okWide C.prog (w.forCall tape i) .any w.heap.size f i /\
   ((s.pre enc C.prog fn conds apart (w.forCall tape i).memory i.args/\laidMetH C.prog laid (w.forCall tape i).memory)/\sizedMet enc C.prog fn (OpenSpec.ofChange s) apart (w.forCall tape i).memory i.args)/\({calm:=true}:Assume).holds C.prog (lone (Frame.enter C.prog f i.args .normal) [] (w.forCall tape i)) :=
 ⟨w0,fun _ _=>0,⟨#[],args,[]⟩,YT,tf,(Input.okWide_of_okWideB (base:=0) je).1,(Input.okWide_of_okWideB je).2,⟨⟨ChangeSpec.pre_of_preB QC,hx⟩,sizedMet_of_sizedB fE⟩,by
  simp only[Assume.holds];exact⟨aj,fun _ _ _ _=>rfl,aj,aj,aj⟩⟩
end
end
end Go
namespace Go.Proofs.Kz
open Go.Proofs.Tryz
open Go.Proofs.Tryz renaming prog → au
open _root_.ByteArray renaming empty → aO
open Go.Ren Go.Conc Go.Proofs Go.ConcN
open Go.ConcR (Payload)
section
open Go.ChangeShapes Go.WideShapes Go.Deep Go.RowKit Go.ConcM
section
variable {Fin:bK} {W:ae}
theorem uO.of{p:Option Addr}{b off:Nat}{rw:List Ex}(hL:∀b,b<W.heap.size->x7 Fin b)(h1:rw≠[]->p=some ⟨b,off,none⟩/\b<W.heap.size)(h2:∀i (h:i<rw.length),Oo W ⟨b,off,none⟩ i rw[i])(h3:rw.length<=9223372036854775807):uO Fin W p b off rw:=by
 have hm:∀r∈rw,∃i,Oo W ⟨b,off,none⟩ i r:=fun r hr=>by
  obtain⟨i,hi,rfl⟩:=bc hr;exact⟨i,h2 i hi⟩
 refine⟨fun q=>⟨(h1 q).1,hL _ (h1 q).2,(h1 q).2⟩,fun i hi=>?_,fun r hr=>?_,fun r hr=>?_,h3,fun r hr=>?_⟩
 ·have c0:=(h2 i hi).c0;have c1:=(h2 i hi).c1;rw[Dr] at c0 c1;exact⟨c0,by rw[dM];exact c1⟩
 ·obtain⟨i,h⟩:=hm r hr;exact⟨fun q=>⟨(h.ptr q).1,hL _ (h.ptr q).2,(h.ptr q).2⟩,h.ins⟩
 ·obtain⟨i,h⟩:=hm r hr;exact h.WS
 ·obtain⟨i,h⟩:=hm r hr;exact h.EI
theorem FJ.of{p:Option Addr}{b off:Nat}{xs:List (Int×Int×Int)}(hL:∀b,b<W.heap.size->x7 Fin b)(h1:xs≠[]->p=some ⟨b,off,none⟩/\b<W.heap.size)(h2:∀i (h:i<xs.length),MT W ⟨b,off,none⟩ i xs[i])(h3:xs.length*24<=140737488355328):FJ Fin W p b off xs:=by
 refine⟨fun q=>⟨(h1 q).1,hL _ (h1 q).2,(h1 q).2⟩,fun i hi=>?_,fun x hx=>?_,h3⟩
 ·have c0:=(h2 i hi).c0;have c1:=(h2 i hi).c1;have c2:=(h2 i hi).c2;rw[Dr] at c0 c1 c2;exact⟨c0,by rw[dM];exact c1,by rw[dM];exact c2⟩
 ·obtain⟨i,hi,rfl⟩:=bc hx;exact(h2 i hi).WS
end
def Ox:List (String×DataW Unit):=[("math/bits.deBruijn32tab",YtgjekaaknjgnmaaGreatDoor.Rows.laid_math_bits_deBruijn32tab),("math/bits.deBruijn64tab",YtgjekaaknjgnmaaGreatDoor.Rows.laid_math_bits_deBruijn64tab),("internal/strconv.uint64pow10",YtgjekaaknjgnmaaGreatDoor.Rows.laid_internal_strconv_uint64pow10)]
theorem Kt:ownKnob au.godebug=none:=ah
theorem Ku:laidOutB au=true:=ah
theorem Kv(os:Os)(args:Array Value):laidMetH au Ox ((World.doorLaid au 400 os).forCall (fun _ _=>0) ⟨#[],args,[]⟩).memory :=
 laidMetH_of_parts3 (fuel:=8) (laidMet_of_run' 8 ah ah) ah ah
section
variable {H:Type} {enc:TypeId×Value->H}
end
theorem FK(Lk:Looks){p:Pinned}{s:OpenSpec}{c:OpenClaim}(kinds:List LaidKind)(Uw:Bool)(har:Bool×String)(lk:Bool)(hc:c.holds p s)(hw:c.wfByText s=true)(ajy:c.laidByTextAt Lk p kinds Uw)(eG:c.start=.entering)(Gh:c.noBlocks=false/\c.again=false)(hm:p.checked.prog.mainIs=some (har.1,har.2.toList))(hn:(!har.1&&har.2.isEmpty&&!lk)=false)(hl:∀f fn,p.checked.prog.funcNamed c.func=some f->p.checked.prog.funcs[f]?=some fn->lk=p.checked.prog.looks []/\∀(j:Nat) t,fn.params[j]?=some t->p.checked.prog.wantsStandIn t=false)(hg:true=c.goesBy p.checked.prog):
  Claim7.holds p (.plain s) {stood:={row:=c,standIns:=[],harness:=har,looks:=lk},kinds:=[],alts:=[],goes:=true,laidByText:=true,laidKinds:=kinds,laidTests:=Uw,laidLooks:=Lk}:=by
 have h6:∀r:OpenClaim,Claim7.isSixth {stood:={row:=r,standIns:=[],harness:=har,looks:=lk},kinds:=[]}=false:=fun r=>by simpa[Claim7.isSixth] using hn
 exact⟨Claim7.tied_new_at Lk kinds Uw (Claim7.new_of_sixth hc har lk eG Gh hm (h6 c) hl) hw,(fun D hD=>by cases hD),ajy,(fun h=>by cases h),hg⟩
end
section
open Go.ChangeShapes Go.WideShapes Go.Deep Go.RowKit Go.ConcM
def gp(f:FuncId)(fc:Func):Prop :=
 ∀(Fin:bK) (o:aM) (w:ae),bM au L0 o w->iW w->∀(p:Option Addr) (b off c:Nat) (rw:List Ex),uO Fin w p b off rw->∀(q:Option Addr) (qb A6 d:Nat) (xs:List (Int×Int×Int)),FJ Fin w q qb A6 xs->∀ex:af,ex.size<=9223372036854775807 ->
  Dw au (XB au Fin 0) f fc #[.slice p rw.length c,.slice q xs.length d,.string ex] o w fun v o' w'=>v=.bool true/\bA (fun _=>False) o w o' w'
section
variable {H:Type} {enc:TypeId×Value->H}
theorem aau{f:FuncId}{fc:Func}{s:ChangeSpec}(hf:au.funcs[f]?=some fc)(hi:au.inits.idxOf? f=none)(hp:fc.params=#[25,26,9])(hr:fc.resultTypes=#[4])(hv:s.vars=[])(hs:∀(H:Type) (d1 d2 d3:DataW H),s.fn H [d1,d2,d3]={results:=[.lit (.bool true)],args:=[d1,d2,d3]})(hb:gp f fc)(W:ae)(base:Nat)(args:Array Value)(ds gs:List (DataW H))(before:List MemPlace)(oB:∀(j:Nat) t v,fc.params[j]?=some t->args[j]?=some v->Value.okWide au W .any base t v)(hW:DataW.Whole enc au fc.params.toList s.vars false W args.toList ds gs before)(hwt:(DataW.weightsEach au (fc.params.toList++s.plain.varTypes au) (ds++gs)).all (·<=reachBytes)=true)(aeS:laidMetH au Ox W)(tf:W.ShapedOpen au):
  ∃M last o w' t',runNT au (M+1) (solo (G (Frame.enter au f args .normal) []) W) #[]=(.ended o w',t')/\runN au M (solo (G (Frame.enter au f args .normal) []) W)=.next last /\
   step au last=.ended o w'/\Conc.Good au (fun v W'=>s.post enc au fc false true false false W args v {W' with os:=W.os}/\OsLater W.os W'.os) last o w' t':=by
 have hW':=hW;obtain⟨p,q,hA,hV,rfl,hfz,vc⟩:=hW;rw[hp] at hA oB;rw[hv] at hV;obtain⟨v0,v1,v2,d0,d1,d2,p0,p1,p2,rfl,rfl,rfl,h0,h1,h2⟩:=trodAll_three hA;obtain⟨rfl,rfl⟩:=trodVars_none hV;have hvt:s.plain.varTypes au=[]:=by simp[ChangeSpec.plain,DataSpec.varTypes,hv]
 rw[hp,hvt] at hwt;have qW:∀x∈d1.weights au 26,x<=reachBytes:=fun x hx=>by
  have:=List.all_eq_true.1 hwt x (by simp[DataW.weightsEach,hx]);simpa using this
 obtain⟨rp,rb,ajt,aju,rw,e0,r1,r2,r3⟩:=Ue (oB 0 _ v0 rfl rfl) h0;obtain⟨sp,sb,ajv,ajw,xs,e1,s1,s2,s3⟩:=Ug (oB 1 _ v1 rfl rfl) h1 qW;obtain⟨ex,e2,-,rfl,hex⟩:=Go.ChangeMaps.open_string underlying9 (oB 2 _ v2 rfl rfl) h2;obtain⟨M,last,o,w',t',k1,k2,k3,v,ev,⟨⟨o1,w1,eh,rfl,YE⟩,eos,ajx⟩,g1,g2,g3,g4⟩:=Hj (P:=au) (vs:=#[v0,v1,v2]) (o:=fun b=>b<4) (W:=W) (Q:=fun v o' w'=>v=.bool true/\bA (fun _=>False) (fun b=>b<4) W o' w') (fun b=>b<W.heap.size) (fun b hb=>hb) hf hi (fun Fin hL=>by
  rw[e0,e1,e2];exact hb Fin _ W (Qr tf) (Mz rfl aeS) rp rb ajt aju rw (uO.of hL r1 r2 r3) sp sb ajv ajw xs (FJ.of hL s1 s2 s3) ex (by simpa[maxLen] using hex))
 refine⟨M,last,o,w',t',k1,k2,k3,_,ev,⟨?_,0,by rw[eos];rfl⟩,g1,g2,g3,g4⟩;have aaL:Below W.heap.size W {W with heap:=w'.heap}:=⟨rfl,rfl,rfl,by show W.heap.size<=w'.heap.size;rw[eh];exact YE.size,fun k hk=>by show w'.heap[k]?=_;rw[eh];exact YE.same k hk id⟩;have cy:∀x∈p0++p1++[],x.block<W.heap.size:=hA.lt;have uh:DataW.TrodAll enc au {W with heap:=w'.heap} 0 (fun b=>decide (b<W.heap.size)) true [25,26,9] [v0,v1,v2] [d0,d1,d2] (p0++(p1++[])) :=
  trodAll_mk3 (Below.trod Ku ah (fo ah) h0 aaL fun x hx=>cy x (by simp[hx])) (Below.trod Ku ah (fo ah) h1 aaL fun x hx=>cy x (by simp[hx])) (Below.trod Ku ah (fo ah) h2 aaL fun x hx=>by cases hx)
 rw[<- List.append_assoc] at uh;have hk:=aaL.frame (fun p=>p∈p0++p1++[]++[]/\(p∈([]:List MemPlace)\/p∈p0++p1++[]\/p∈([]:List MemPlace)));refine⟨_,_,_,[],p0++p1++[],[],hW',?_,?_,?_,⟨rfl,ajx,hk.2.2⟩,fun h=>by cases h⟩
 ·rw[show([d0,d1,d2]++[]:List (DataW H))=[d0,d1,d2] from rfl,hs,hr];exact trodAll_mk1 (shut_bool underlying4 _)
 ·rw[show([d0,d1,d2]++[]:List (DataW H))=[d0,d1,d2] from rfl,hs,hp];exact uh.of_heap ar
 ·rw[show([d0,d1,d2]++[]:List (DataW H))=[d0,d1,d2] from rfl,hs,hv];rfl
end
end
end Go.Proofs.Kz
