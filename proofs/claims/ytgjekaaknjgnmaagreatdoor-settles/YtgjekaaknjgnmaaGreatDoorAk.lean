/- Proved: whatever raw rules and whatever script are handed in, kilnkeep.Settles answers true, whichever way the goroutines are scheduled: when edits stop, time goes on and work is done, the kiln comes to rest, and what is published is what Clean makes of the files. Conditions: those of the given card, Rows.SettlesCardSaid; none besides. -/
import Derived.Test.YtgjekaaknjgnmaaGreatDoorAi
import Derived.Test.YtgjekaaknjgnmaaGreatDoorAj
set_option linter.all false
set_option maxHeartbeats 40000000
set_option maxRecDepth 200000
namespace Go.Proofs.Kz
open Go.Proofs.Tryz
open Go.Proofs.Tryz renaming prog → au
open _root_.ByteArray renaming empty → aO
section
variable {K:pz} {s s':gQ} {F:cY} {file:af->V} {v:Value}
def iS(N:Nat)(s:gQ):Nat :=
 if s.phase=2 then 2*s.src.length-s.rd.length+4
 else if s.phase=3 then s.src.length-s.ck+3
 else if s.told=true then 1
 else if s.phase=1/\s.since+5<=s.time then 2*N+6
 else 0
theorem FR{N:Nat}(h:s.phase=2):iS N s=2*s.src.length-s.rd.length+4:=by simp[iS,h]
theorem Oz{N:Nat}(h:s.phase=3):iS N s=s.src.length-s.ck+3:=by simp[iS,h]
theorem Uy{N:Nat}(h:s.phase<=1)(ht:s.told=true):iS N s=1:=by
 unfold iS;rw[if_neg aa,if_neg aa,if_pos ht]
theorem YH{N:Nat}(h:s.phase<=1)(ht:¬s.told=true)(hq:s.phase=1/\s.since+5<=s.time):iS N s=2*N+6:=by
 unfold iS;rw[if_neg aa,if_neg aa,if_neg ht,if_pos hq]
theorem OA{N:Nat}(h:s.phase<=1)(ht:¬s.told=true)(hq:¬(s.phase=1/\s.since+5<=s.time)):iS N s=0:=by
 unfold iS;rw[if_neg aa,if_neg aa,if_neg ht,if_neg hq]
theorem KE{N:Nat}(h:s.phase<=1)(hq:¬(s.phase=1/\s.since+5<=s.time)):iS N s<=1:=by
 by_cases ht:s.told=true
 ·rw[Uy h ht];exact ag _
 ·rw[OA h ht hq];exact aU _
theorem QP{N:Nat}(hN:(fh K.B.NM K.B.rs).length=N)(hs:Sound K s)(Hv:s.ck<=s.src.length)(TC:s.rd.length<=s.src.length)(hw:jU K s s' F file v):(0<iS N s->iS N s'<iS N s)/\(iS N s=0->s'=s/\v=did 0 aO):=by
 have hph:=hs.ph;have Kl:∀s1:gQ,s1.phase=3->s1.ck<=s1.src.length->Checked K s1 s' F file v->iS N s'<s1.src.length-s1.ck+3:=by
  intro s1 e1 e2 hc;rcases hc with⟨c1,-,ij,Qx,sn,sr,-,rfl⟩|⟨c1,c2,⟨-,-,rfl⟩|⟨-,-,rfl⟩⟩
  ·have:=KE (N:=N) (s:={s1.stand 0 0 with old:=ij,pb:=Qx,num:=IntKind.i64.wrap (s1.num+1),lu:=sn,res:=nS K.B F file,mH:=sr,jS:=rG (qH F.cp) (mH s1.old (mG K.B F file)) K.B.rs.length}) (aU _) (fun q=>by simp[gQ.stand] at q);omega
  ·have:=KE (N:=N) (s:=s1.stand 1 s1.time) (ag _) (fun q=>by have:=q.2;simp only[gQ.stand] at this;omega);omega
  ·rw[Oz (s:={s1 with ck:=s1.ck+1}) e1];show s1.src.length-(s1.ck+1)+3<_;omega
 rcases hw with⟨p2,⟨c1,c2⟩|⟨c1,-,MG,rfl⟩⟩|⟨p3,c2⟩|⟨n2,n3,hr⟩
 ·rw[FR p2];have:=Kl {s with phase:=3} rfl Hv c2;simp only at this;exact⟨fun _=>aa,fun q=>aa⟩
 ·rw[FR p2,FR (s:={s with rv:=MG,rd:=s.rd++[(dU s.th s.src[s.rd.length],cg s.st s.src[s.rd.length])]}) p2];simp only[List.length_append,List.length_singleton];exact⟨fun _=>aa,fun q=>aa⟩
 ·rw[Oz p3];have:=Kl s p3 Hv c2;exact⟨fun _=>this,fun q=>aa⟩
 ·have hp:s.phase<=1:=aa;rcases hr with⟨ht,-,rfl⟩|⟨ht,hq,-,lo,F',MI,rfl⟩|⟨ht,hq,e,rfl⟩
  ·rw[Uy hp (sw.2 ht),OA (s:=gQ.stand {s with qv:=.slice none 0 0,qn:=[],lost:=false} 1 s.time) (ag _) (by simp[gQ.told,gQ.stand]) (fun q=>by have:=q.2;simp only[gQ.stand] at this;omega)];exact⟨fun _=>aa,fun q=>aa⟩
  ·rw[YH hp (fun q=>ht (sw.1 q)) hq,FR (s:={s.stand 2 0 with fd:=some (lo,F'),sv:=MI,src:=fh K.B.NM K.B.rs}) rfl];simp only[gQ.stand,List.length_nil,hN];exact⟨fun _=>aa,fun q=>aa⟩
  ·rw[OA hp (fun q=>ht (sw.1 q)) hq];exact⟨fun q=>absurd q aa,fun _=>⟨rfl,e⟩⟩
structure yS(s:gQ):Prop where
 told:¬s.told=true
 way:s.phase=0\/(s.phase=1/\s.since+5<=s.time)\/((s.phase=2\/s.phase=3)/\∀i (h:i<s.rd.length) (h':i<s.src.length),s.rd[i].2=cg s.st s.src[i])
theorem yS.work(h:yS s)(TC:s.rd.length<=s.src.length)(hw:jU K s s' F file v):yS s':=by
 have Kl:∀s1:gQ,s1.phase=3->s1.told=s.told->s1.rd=s.rd->s1.src=s.src->s1.st=s.st->(∀i (h:i<s.rd.length) (h':i<s.src.length),s.rd[i].2=cg s.st s.src[i])->Checked K s1 s' F file v->yS s':=by
  intro s1 e1 e2 e3 e4 e5 hE hc;have ht:¬s1.told=true:=by rw[e2];exact h.told
  rcases hc with⟨c1,-,ij,Qx,sn,sr,-,rfl⟩|⟨c1,c2,⟨c3,-,rfl⟩|⟨-,-,rfl⟩⟩
  ·exact⟨ht,.inl rfl⟩
  ·refine absurd ?_ c3;have h1:s1.ck<s.rd.length:=by rw[<- e3];exact c2
   have h2:s1.ck<s.src.length:=by rw[<- e4];exact c1
   have:=hE s1.ck h1 h2;simp only[e3,e4,e5];exact this.symm
  ·refine⟨ht,.inr (.inr ⟨.inr e1,fun i h1 h2=>?_⟩)⟩;have h1':i<s.rd.length:=by rw[<- e3];exact h1
   have h2':i<s.src.length:=by rw[<- e4];exact h2
   have:=hE i h1' h2';simp only[e3,e4,e5];exact this
 rcases hw with⟨p2,⟨c1,c2⟩|⟨c1,-,MG,rfl⟩⟩|⟨p3,c2⟩|⟨n2,n3,hr⟩
 ·rcases h.way with q|⟨q,-⟩|⟨-,hE⟩
  ·omega
  ·omega
  ·exact Kl {s with phase:=3} rfl rfl rfl rfl rfl hE c2
 ·rcases h.way with q|⟨q,-⟩|⟨-,hE⟩
  ·omega
  ·omega
  ·refine⟨h.told,.inr (.inr ⟨.inl p2,fun i h1 h2=>?_⟩)⟩;simp only at h1 h2 |-;by_cases hi:i<s.rd.length
   ·rw[bT hi];exact hE i hi h2
   ·have e:i=s.rd.length:=by simp at h1;omega
    subst e;simp
 ·rcases h.way with q|⟨q,-⟩|⟨-,hE⟩
  ·omega
  ·omega
  ·exact Kl s p3 rfl rfl rfl rfl hE c2
 ·rcases hr with⟨ht,-⟩|⟨ht,hq,-,lo,F',MI,rfl⟩|⟨-,-,-,rfl⟩
  ·exact absurd (sw.2 ht) h.told
  ·exact⟨h.told,.inr (.inr ⟨.inl rfl,fun i h1 _=>by simp[gQ.stand] at h1⟩)⟩
  ·exact h
theorem yS.rest{N:Nat}(h:yS s)(h0:iS N s=0):s.phase=0:=by
 rcases h.way with q|q|⟨q,-⟩
 ·exact q
 ·rw[YH aa h.told q] at h0;omega
 ·rcases q with q|q
  ·rw[FR q] at h0;omega
  ·rw[Oz q] at h0;omega
theorem M7{N t:Nat}(hs:Sound K s)(h0:iS N s=0)(hsi:s.since<=s.time)(ht:s.time+5<=t):yS {s with time:=t}:=by
 have hph:=hs.ph;have NG:s.phase≠2:=fun q=>by rw[FR q] at h0;omega
 have Oh:s.phase≠3:=fun q=>by rw[Oz q] at h0;omega
 have No:¬s.told=true:=fun q=>by rw[Uy aa q] at h0;omega
 refine⟨No,?_⟩;by_cases q:s.phase=0
 ·exact .inl q
 ·exact .inr (.inl ⟨by show s.phase=1;omega,by show s.since+5<=t;omega⟩)
end
open Go.Ren Go.Conc Go.Proofs Go.ConcN
open Go.ConcR (Payload)
section
variable {Fin:bK} {o o' o1:aM} {w w' w1:ae} {S:Nat} {K:pz} {s s':gQ} {lab lab' dp:Nat->Nat} {rv fv:Value} {fs:List (af×af)} {ed cnt Hn:Nat} {rs:List aI} {NM:aI->List af} {RK:af->Nat} {lk:Int}
theorem Uz{B:vk}{fd:Option (Nat×cY)}{old:Nat->Option (Nat×List V)}(h:fL o w B fd old):(fh B.NM B.rs).length<=32:=by
 have q1:=uF (lD (B.rs.map (·.out)) (DN B.NM B.rs) B.rs.length);have q2:=oM (B.rs.map (·.out)) (DN B.NM B.rs) B.rs.length (fun i hi=>by rw[nf hi];exact h.right.four _ (aG hi)) B.rs.length (ag _);have q3:=h.rules.gT;have:(fh B.NM B.rs).length<=(lD (B.rs.map (·.out)) (DN B.NM B.rs) B.rs.length).length:=q1;omega
theorem UA{N:Nat}(hN:s.src.length<=N):iS N s<=2*N+6:=by
 unfold iS;split
 ·omega
 ·split
  ·omega
  ·split
   ·omega
   ·split<;>omega
structure RInv(o:aM)(w:ae)(Km:Nat->Nat)(S:Nat)(K:pz)(rv fv:Value)(fs:List (af×af))(ed:Nat)(rs:List aI)(NM:aI->List af)(RK:af->Nat)(cnt:Nat)(q:Prop)(s:gQ)(lab:Nat->Nat)(o':aM)(w':ae):Prop where
 cz:vJ o' w' S K s lab rv fv fs ed
 step:gD S o w Km o' w' lab
 told:Told K rs NM RK s ed cnt
 quick:q->yS s
theorem RInv.Ep{q:Prop}(h:RInv o w lab S K rv fv fs ed rs NM RK cnt q s dp o1 w1):iS (fh K.B.NM K.B.rs).length s<=100:=by
 have h1:=Uz h.cz.dF.build;have:=UA (s:=s) (N:=(fh K.B.NM K.B.rs).length) (by
  by_cases hp:s.phase=2\/s.phase=3
  ·rw[h.cz.sound.src hp];exact ag _
  ·rw[(h.cz.sound.idle (by have:=h.cz.sound.ph;omega)).1];simp)
 omega
theorem RInv.work{q:Prop}{F:cY}{v:Value}(h:RInv o w lab S K rv fv fs ed rs NM RK cnt q s dp o1 w1)(Q3:gx rs NM RK K.B)(hc:cnt<4611686018427387904)(hf:(s.phase=2\/s.phase=3)->∃lo,s.fd=some (lo,F))(hw:jU K s s' F (fileOf s.src (s.rd.map (·.1))) v)(hs:Sound K s')(hk:bm o' w' K s' 0 lab')(T:cN o1 w1 dp o' w' lab'):RInv o w lab S K rv fv fs ed rs NM RK (cnt+1) q s' lab' o' w'/\(0<iS (fh K.B.NM K.B.rs).length s->iS (fh K.B.NM K.B.rs).length s'<iS (fh K.B.NM K.B.rs).length s)/\(iS (fh K.B.NM K.B.rs).length s=0->s'=s/\v=did 0 aO):=by
 obtain⟨n,y,hv,-,-,-,UU,-⟩:=hw.kind;have xc:=h.cz.dF.gT;refine⟨⟨h.cz.work hk hs T UU,h.step.k T,h.told.work h.cz.sound Q3 (fun p=>?_) hc hw,fun hq=>(h.quick hq).work xc.2.2.2.2.2 hw⟩,QP rfl h.cz.sound xc.2.2.2.2.1 xc.2.2.2.2.2 hw⟩;obtain⟨lo,e⟩:=hf p;exact h.cz.dF.Xt lo F e
theorem RInv.tick{q:Prop}{t:Nat}(h:RInv o w lab S K rv fv fs ed rs NM RK cnt q s dp o1 w1)(h0:iS (fh K.B.NM K.B.rs).length s=0)(ht:s.time+5<=t)(hk:bm o' w' K {s with time:=t} 0 dp)(T:cN o1 w1 dp o' w' dp):RInv o w lab S K rv fv fs ed rs NM RK cnt True {s with time:=t} dp o' w' :=
 ⟨h.cz.work hk (h.cz.sound.tick t) T rfl,h.step.k T,h.told.tick t,fun _=>M7 h.cz.sound h0 h.cz.dF.gT.2.2.2.1 ht⟩
theorem RInv.k{q:Prop}(h:RInv o w lab S K rv fv fs ed rs NM RK cnt q s dp o1 w1)(T:cN o1 w1 dp o' w' lab')(hk:bm o' w' K s 0 lab'):RInv o w lab S K rv fv fs ed rs NM RK cnt q s lab' o' w' :=
 ⟨h.cz.work hk h.cz.sound T rfl,h.step.k T,h.told,h.quick⟩
theorem Xu[Payload](h:vJ o w S K s lab rv fv fs ed)(hT:Told K rs NM RK s ed cnt)(Q3:gx rs NM RK K.B)(hc:cnt<4000000000000000000):
  bz au (XB au Fin 0) 23 #[.pointer (some ⟨S,0,none⟩)] o w fun v o' w'=>∃s' lab',(RInv o w lab S K rv fv fs ed rs NM RK (cnt+400) True s' lab' o' w'/\s'.phase=0/\v=.tuple #[.bool true,.bool true])\/(RInv o w lab S K rv fv fs ed rs NM RK (cnt+400) False s' lab' o' w'/\v=.tuple #[.bool false,.bool true]):=by
 have W:=bV (P:=au) (Fin:=Fin) (d:=0);refine bC W func23 ar ?_;walk_nrmf Tryz.f23;refine ax ?_;refine iL W (fun m a o' w'=>∃n,m+n=3/\a.tmps.size=41/\a.defers=[]/\a.eval (.tmp 0)=.pointer (some ⟨S,0,none⟩)/\a.eval (.tmp 4)=.int .i64 (n:Nat)/\∃s' lab',RInv o w lab S K rv fv fs ed rs NM RK (cnt+100*n) (1<=n) s' lab' o' w'/\(2<=n->s'.phase=0)) (N:=3) ⟨0,rfl,rfl,rfl,aH,aH,s,lab,⟨h,gD.refl h.dF.aF,hT,fun q=>absurd q aa⟩,fun q=>absurd q aa⟩ ?_;rintro m a o1 w1 ⟨n,hmn,fE,kT,i0,i4,s1,dp,hI,hph⟩;obtain⟨gs,rfl⟩:=iE fE kT;clear fE kT;simp only[List.range,List.range.loop,aA,aP] at i0 i4 |-;simp[Act.eval] at i0 i4;simp only[i0,i4];clear i0 i4;by_cases hn:n<3
 ·have hnI:(n:Int)<3:=aa;have hwn:IntKind.i64.wrap ((n:Int)+1)=((n+1:Nat):Int):=by rw[IntKind.wrap_i64]<;>omega
  refine ax ?_;refine iL W (fun m2 a o' w'=>∃i,m2+i=100/\a.tmps.size=41/\a.defers=[]/\a.eval (.tmp 0)=.pointer (some ⟨S,0,none⟩)/\a.eval (.tmp 4)=.int .i64 (n:Nat)/\a.eval (.tmp 5)=.int .i64 (i:Nat)/\∃s' lab',RInv o w lab S K rv fv fs ed rs NM RK (cnt+100*n+i) (1<=n) s' lab' o' w'/\iS (fh K.B.NM K.B.rs).length s'<=100-i) (N:=100) ⟨0,rfl,rfl,rfl,aH,aH,aH,s1,dp,hI,hI.Ep⟩ ?_;clear hI hph s1 dp;rintro m2 a o2 w2 ⟨i,KS,fE,kT,i0,i4,i5,s1,dp,hI,UR⟩;obtain⟨gs,rfl⟩:=iE fE kT;clear fE kT;simp only[List.range,List.range.loop,aA,aP] at i0 i4 i5 |-;simp[Act.eval] at i0 i4 i5;simp only[i0,i4,i5];clear i0 i4 i5;by_cases hi:i<100
  ·have hiI:(i:Int)<100:=aa;have YI:IntKind.i64.wrap ((i:Int)+1)=((i+1:Nat):Int):=by rw[IntKind.wrap_i64]<;>omega
   refine ax ?_;refine lh hI.cz.dF.aF hI.cz.own (nU hI.cz.blk).1 fun _=>?_;refine ax ?_;refine cd func38 (uM hI.cz.dF hI.cz.sound) ?_;rintro v3 o3 w3 ⟨s3,kL,F3,hf3,US,u3,h3,T3⟩;obtain⟨UY,ly,GC⟩:=hI.work Q3 aa hf3 US u3 h3 T3;have ajM:iS (fh K.B.NM K.B.rs).length s3<=100-(i+1):=by
    by_cases q:0<iS (fh K.B.NM K.B.rs).length s1
    ·have:=ly q;omega
    ·rw[(GC aa).1];omega
   refine ax ?_;exact⟨m2-1,aa,i+1,aa,dj,dj,aH,aH,by simp[Act.eval,YI],s3,kL,UY,ajM⟩
  ·have hiI:¬(i:Int)<100:=aa;have h0:iS (fh K.B.NM K.B.rs).length s1=0:=aa;refine ax ?_;refine lh hI.cz.dF.aF hI.cz.own (nU hI.cz.blk).1 fun _=>?_;refine ax ?_;refine cd func37 (MF hI.cz.dF 5) ?_;rintro v3 o3 w3 ⟨rfl,z3,k3,⟨rfl,-,h3⟩|⟨rfl,-,h3⟩⟩
   ·have T3:cN o3 w2 dp o3 w3 dp:=cN.of (bA.dG (ex:=(·=K.kb)) h3.aF ⟨z3,k3⟩ rfl) (fun b hb=>by rw[hb,hI.cz.dF.l0];omega);refine ax ?_;exact⟨.inr trivial,trivial,_,resultsC_tmp2 (t:=2) (u:=3) ar _,s1,dp,.inr ⟨⟨hI.cz.work h3 hI.cz.sound T3 rfl,hI.step.k T3,hI.told.up aa,False.elim⟩,aH⟩⟩
   ·have T3:cN o3 w2 dp o3 w3 dp:=cN.of (bA.dG (ex:=(·=K.kb)) h3.aF ⟨z3,k3⟩ rfl) (fun b hb=>by rw[hb,hI.cz.dF.l0];omega);have UY:=hI.tick h0 aj h3 T3;refine ax ?_;exact⟨m-1,aa,n+1,aa,dj,dj,aH,by simp[Act.eval,hwn],_,dp,⟨UY.cz,UY.step,UY.told.up aa,fun _=>UY.quick trivial⟩,fun q=>(hI.quick aa).rest h0⟩
 ·have hnI:¬(n:Int)<3:=aa;have UH:=hph aa;have SB:yS s1:=hI.quick aa;have hI0:RInv o w lab S K rv fv fs ed rs NM RK (cnt+300) True s1 dp o1 w1:=⟨hI.cz,hI.step,hI.told.up aa,fun _=>SB⟩;have h0:iS (fh K.B.NM K.B.rs).length s1=0:=OA aa SB.told (fun q=>aa);clear hI hph SB;refine ax ?_;refine iL W (fun m a o' w'=>∃n,m+n=3/\a.tmps.size=41/\a.defers=[]/\a.eval (.tmp 0)=.pointer (some ⟨S,0,none⟩)/\a.eval (.tmp 7)=.int .i64 (n:Nat)/\∃lab',RInv o w lab S K rv fv fs ed rs NM RK (cnt+300+n) True s1 lab' o' w') (N:=3) ⟨0,rfl,rfl,rfl,aH,aH,dp,hI0⟩ ?_;clear hI0;rintro m2 a o2 w2 ⟨i,KS,fE,kT,i0,i7,fR,hI⟩;obtain⟨gs,rfl⟩:=iE fE kT;clear fE kT;simp only[List.range,List.range.loop,aA,aP] at i0 i7 |-;simp[Act.eval] at i0 i7;simp only[i0,i7];clear i0 i7;by_cases hi:i<3
  ·have hiI:(i:Int)<3:=aa;have YI:IntKind.i64.wrap ((i:Int)+1)=((i+1:Nat):Int):=by rw[IntKind.wrap_i64]<;>omega
   refine ax ?_;refine lh hI.cz.dF.aF hI.cz.own (nU hI.cz.blk).1 fun _=>?_;refine ax ?_;refine cd func38 (uM hI.cz.dF hI.cz.sound) ?_;rintro v3 o3 w3 ⟨s3,kL,F3,hf3,US,u3,h3,T3⟩;obtain⟨UY,-,GC⟩:=hI.work Q3 aa hf3 US u3 h3 T3;obtain⟨rfl,rfl⟩:=GC h0;clear hI hf3 US u3 h3 T3;unfold did;refine ax ?_;refine sX 0 aO UY.cz.dF fun D o4 w5 su hD hV=>?_;have hI5:=UY.k hV.step hV.dF;have oD:=hV.own;have Fo:=hV.dF.aF;obtain⟨cD0,cD1,-⟩:=dO hV.blk;clear UY hV hD;refine ax ?_;refine dB bQ Fo rfl ar ar ?_ rfl (v:=.agg #[.int .i64 0,.string aO]) (fun wl aT=>by simp[go_sem,(aT.cell oD).trans cD0,(aT.cell oD).trans cD1]) fun _=>?_
   ·exact mU (bU oD)
   refine ax ?_;refine zn W (v:=.bool false) rfl ar (fun w3=>by simp[go_sem,Ky];rfl) (fun w3=>by simp[go_sem,KA,ED]) ?_;refine ax ?_;exact⟨m2-1,aa,i+1,aa,dj,dj,aH,by simp[Act.eval,YI],su,hI5⟩
  ·have hiI:¬(i:Int)<3:=aa;refine ax ?_;exact⟨.inr trivial,trivial,_,resultsC_tmp2 (t:=2) (u:=3) ar _,s1,fR,.inl ⟨⟨hI.cz,hI.step,hI.told.up aa,hI.quick⟩,UH,aH⟩⟩
theorem QQ[Payload](hF:bM au L0 o w)(pow:iW w)(p:Option Addr)(b off c:Nat)(rw:List Ex)(hR:uO Fin w p b off rw)(q:Option Addr)(qb A6 d:Nat)(xs:List (Int×Int×Int))(hX:FJ Fin w q qb A6 xs):
  Dw au (XB au Fin 0) 9 Tryz.f9 #[.slice p rw.length c,.slice q xs.length d] o w fun v o' w'=>v=.bool true/\bA (fun _=>False) o w o' w':=by
 have W:=bV (P:=au) (Fin:=Fin) (d:=0);have AY:=hX.EI;refine⟨_,ar,?_⟩;walk_nrmf Tryz.f9;refine ax ?_;refine cd func13 (Kq hF pow p b off c rw hR) ?_;rintro v1 o1 w1 eP;obtain⟨S,K,pb,dp,rp,rb,rc,rs,NM,NB,rfl,hWS,h1,Kp⟩:=FQ eP;clear eP;refine ax ?_;refine dB bQ h1.aF rfl ar ar ?_ rfl (v:=.bool false) (fun wl aT=>by simp[go_sem,aew]) fun _=>?_
 ·exact iV (bU hWS.cz.own) yc
 clear h1;generalize s0 pb=s at *;refine ax ?_;refine iL W (fun m a o' w'=>∃i,m+i=xs.length/\a.tmps.size=75/\a.defers=[]/\a.eval (.tmp 1)=.slice q xs.length d/\a.eval (.tmp 5)=.pointer (some ⟨S,0,none⟩)/\a.eval (.tmp 6)=.int .i64 i/\∃s lab fv fs ed,ed<=i/\SS o w S K rp rb rc rs NM NB s lab fv fs ed i o' w') (N:=xs.length) ⟨0,aj,rfl,rfl,aH,aH,aH,_,_,_,_,_,ag _,hWS⟩ ?_;clear hWS;rintro m a o1 w1 ⟨i,KS,fE,kT,i1,i5,i6,s,lab,fv,fs,ed,Us,hW⟩;obtain⟨gs,rfl⟩:=iE fE kT;clear fE kT;simp only[List.range,List.range.loop,aA,aP] at i1 i5 i6 |-;simp[Act.eval] at i1 i5 i6;simp only[i1,i5,i6];clear i1 i5 i6;by_cases hi:i<xs.length
 ·have hiI:(i:Int)<(xs.length:Int):=aa;have YI:IntKind.i64.wrap ((i:Int)+1)=((i+1:Nat):Int):=by rw[IntKind.wrap_i64]<;>omega
  obtain⟨eq,oqb,qbl⟩:=hX.ptr (fun e=>by rw[e] at hi;simp at hi);subst eq;obtain⟨c0,c1,c2⟩:=hX.at_ i hi;obtain⟨⟨WV,WW⟩,WX,rg4⟩:=hX.WS xs[i] (aG hi);rcases hxi:xs[i] with⟨kd,ea,eb⟩;rw[hxi] at c0 c1 c2 WV WW WX rg4;simp only at c0 c1 c2 WV WW WX rg4;clear hxi;have Ub:=hW.old.same qb qbl id;have Yy:=(cell_of Ub).trans c0;have AM:=(cell_of Ub).trans c1;have c2':=(cell_of Ub).trans c2;refine ax ?_;refine p5 oqb rfl ar rfl (v:=.agg #[.int .i64 kd,.int .i64 ea,.int .i64 eb]) (fun wl aT=>by simp[go_sem,aT.cell.trans Yy,aT.cell.trans AM,aT.cell.trans c2']) (fun wl aT x hx=>?_) ?_
  ·simp[go_sem,aT.cell.trans Yy,aT.cell.trans AM,aT.cell.trans c2'] at hx;rcases hx with rfl|rfl|rfl;all_goals exact⟨_,_,_,rfl,rfl⟩
  refine ax ?_;refine cd func14 (Ur hW.cz kd ea eb WV WW WX rg4 aa) ?_;rintro v2 o2 w2 ⟨n,y,s2,fR,MY,EB,yV,rfl,sh2,st2,U2,ajR⟩;have Xv:yV<=i+1:=by have:=st2.edl;omega
  have uf:=hW.go sh2 U2 (hW.told.step hW.cz.sound Kp hW.cz.dF.Xt aa st2);clear sh2 st2 U2 ajR hW;refine ax ?_;refine sX n y uf.cz.dF fun D o3 w4 kL hD hV=>?_;have J5:=uf.k hV.step hV.dF;clear hV hD uf;refine ax ?_;exact⟨m-1,aa,i+1,aa,dj,dj,aH,aH,by simp[Act.eval,YI],s2,_,MY,EB,yV,Xv,J5⟩
 have hiI:¬(i:Int)<(xs.length:Int):=aa;refine ax ?_;refine cd func23 (Xu hW.cz hW.told Kp aa) ?_;rintro v2 o2 w2 ⟨s2,fR,⟨Ic,hp2,rfl⟩|⟨Ic,rfl⟩⟩;rotate_left
 ·have uf:=hW.go Ic.cz Ic.step Ic.told;refine ax ?_;exact⟨.inr trivial,trivial,_,resultsC_tmp (t:=4) ar _,aH,uf.old⟩
 have uf:=hW.go Ic.cz Ic.step Ic.told;have No:=(Ic.quick trivial).told;clear Ic hW;refine ax ?_;refine lh uf.cz.dF.aF uf.cz.own (nU uf.cz.blk).1 fun _=>?_;refine ax ?_;refine cd func24 (G7 uf.cz.dF) ?_;rintro v3 o3 w3 ⟨rT,kL,h3,T3,-⟩;have sx:=uf.k T3 h3;have Mq:=uf.cz.dF.set.gT;obtain⟨rv,tv,rfl,⟨pa,ba,ca,rfl,yR,ha⟩,fu,Ov⟩:=rT.ex;clear rT T3 h3 uf;refine ax ?_;obtain⟨tp,tb,tc,rfl,-⟩:=Ov.row;refine Hd s2.num pa s2.res.length ca tp s2.jS.length tc sx.cz.dF fu Ov.cl fun L o4 w5 su hL hV=>?_;have A7:=sx.k hV.step hV.dF;have oL:=hV.own;obtain⟨cL0,cL1,-⟩:=eO hV.blk;have EF:s2.res≠[]->pa=some ⟨ba,0,none⟩/\o4 ba:=fun q=>⟨(yR q).1,hV.br.more _ (yR q).2⟩;have UZ:nC w5 ba s2.res:=fun i hi=>kn ha (hV.old ba (sx.cz.dF.aF.lt (yR (fun e=>by rw[e] at hi;simp at hi)).2)).2 i hi;clear hV hL sx fu Ov yR ha;have Fo:=A7.cz.dF.aF;have ajS:=A7.cz.A4;refine ax ?_;refine lh Fo A7.cz.own (nU A7.cz.blk).2.2.2 fun _=>?_;walk_nrm;by_cases he:ed=0
 ·subst he;obtain⟨-,-,e1,e2⟩:=A7.told.none rfl;rw[e1] at cL0;rw[e2] at cL1;refine ax ?_;refine lh Fo oL cL0 fun _=>?_;refine ax ?_;refine lh Fo oL cL1 fun _=>?_;refine ax ?_;exact⟨.inr trivial,trivial,_,resultsC_tmp (t:=4) ar _,aH,A7.old⟩
 obtain⟨hM,KI⟩:=A7.told.pub aa hp2 No;have hM2:=hM.A4 ajS;have heI:¬((ed:Int)=0):=aa;obtain⟨fp,fb,fc,YJ,-,-⟩:=A7.cz.files.ex;have cS2:=(nU A7.cz.blk).2.2.1;have hfs:=A7.cz.files;rw[YJ] at cS2 hfs;refine ax ?_;refine gX W (t:=false) (by simp[Act.eval,he]) ?_;simp only[if_false,reduceIte,aL];refine ax ?_;refine dQ mixed ah [some none,some none,some (some (.slice pa s2.res.length ca)),some none,some none,some none,some (some (.slice fp fs.length fc)),some (some (.bool true)),some none]
  (S:=fun σ o' w'=>bA (fun _=>False) o4 w5 o' w') (bA.refl Fo) fun v9=>?_
 refine dP ?_;refine cC ?_;refine cC ?_;refine cm bQ rfl rfl rfl ar ar (fun σ o' w' H hS=>?_) ?_
 ·exact tE hS.aF (hS.more _ oL) ((cell_of (hS.same _ (Fo.lt oL) id)).trans cL1)
 iterate 3 refine cC ?_
 refine cm bQ rfl rfl rfl ar ar (fun σ o' w' H hS=>?_) ?_
 ·exact tE hS.aF (hS.more _ A7.cz.own) ((cell_of (hS.same _ (Fo.lt A7.cz.own) id)).trans cS2)
 walk_nrm;refine jP rfl rfl ar rfl func25 ah rfl (av:=#[.pointer (some ⟨S,0,none⟩),.slice pa s2.res.length ca,.slice fp fs.length fc]) aH (fun σ o' w' H hS=>?_) ?_
 ·refine(KD A7.cz A7.hand hfs A7.cz.ok ba ca pa s2.res Mq EF UZ hS).mono ?_;rintro y o6 w6 ⟨W6,l,hl,rfl⟩;rw[hl.one hM2];exact⟨aj,W6⟩
 refine cC ?_;refine cB fun σ o6 w6 mn hS=>?_;clear mn;have ajT:=(cell_of (hS.same _ (Fo.lt oL) id)).trans cL0;have oL6:=hS.more _ oL;simp only[iH,dI,if_true,if_false,reduceIte,Nat.reduceEqDiff];refine ax ?_;refine lh hS.aF oL6 ajT fun _=>?_;refine ax ?_;exact⟨.inr trivial,trivial,_,resultsC_tmp (t:=4) ar _,aH,A7.old.trans hS⟩
end
open Go
section
open YtgjekaaknjgnmaaGreatDoor
theorem Ho:pU 9 Tryz.f9:=fun Fin o w hF pow p b off c rw hR q qb A6 d xs hX=>by
 letI:Go.ConcR.Payload:=⟨0⟩
 exact QQ hF pow p b off c rw hR q qb A6 d xs hX
theorem settles_done:Rows.SettlesCardSaid:=Hk Ho
end
end Go.Proofs.Kz
namespace Go.Proofs.YtgjekaaknjgnmaaGreatDoor
theorem settles_claim:Rows.SettlesCardSaid:=Go.Proofs.Kz.settles_done
end Go.Proofs.YtgjekaaknjgnmaaGreatDoor
