/- Proved: whatever raw rules and whatever script are handed in, kilnkeep.Settles answers true, whichever way the goroutines are scheduled: when edits stop, time goes on and work is done, the kiln comes to rest, and what is published is what Clean makes of the files. Conditions: those of the given card, Rows.SettlesCardSaid; none besides. -/
import Derived.Test.YtgjekaaknjgnmaaGreatDoorAi
import Derived.Test.YtgjekaaknjgnmaaGreatDoorAj
set_option linter.all false
set_option maxHeartbeats 40000000
set_option maxRecDepth 200000
namespace Go.Proofs.Kz
open Go.Proofs.Tryz
open Go.Proofs.Tryz renaming prog → au
open _root_.ByteArray renaming empty → aP
section
variable {K:pG} {s s':gV} {F:da} {file:af->V} {v:Value}
def iX(N:Nat)(s:gV):Nat :=
 if s.phase=2 then 2*s.src.length-s.rd.length+4
 else if s.phase=3 then s.src.length-s.ck+3
 else if s.told=true then 1
 else if s.phase=1/\s.since+5<=s.time then 2*N+6
 else 0
theorem Ga{N:Nat}(h:s.phase=2):iX N s=2*s.src.length-s.rd.length+4:=by simp[iX,h]
theorem OO{N:Nat}(h:s.phase=3):iX N s=s.src.length-s.ck+3:=by simp[iX,h]
theorem UM{N:Nat}(h:s.phase<=1)(ht:s.told=true):iX N s=1:=by
 unfold iX;rw[if_neg aa,if_neg aa,if_pos ht]
theorem YV{N:Nat}(h:s.phase<=1)(ht:¬s.told=true)(hq:s.phase=1/\s.since+5<=s.time):iX N s=2*N+6:=by
 unfold iX;rw[if_neg aa,if_neg aa,if_neg ht,if_pos hq]
theorem OP{N:Nat}(h:s.phase<=1)(ht:¬s.told=true)(hq:¬(s.phase=1/\s.since+5<=s.time)):iX N s=0:=by
 unfold iX;rw[if_neg aa,if_neg aa,if_neg ht,if_neg hq]
theorem KR{N:Nat}(h:s.phase<=1)(hq:¬(s.phase=1/\s.since+5<=s.time)):iX N s<=1:=by
 by_cases ht:s.told=true
 ·rw[UM h ht];exact ag _
 ·rw[OP h ht hq];exact aV _
theorem Q3{N:Nat}(hN:(fq K.B.NM K.B.rs).length=N)(hs:Sound K s)(HI:s.ck<=s.src.length)(TR:s.rd.length<=s.src.length)(hw:jZ K s s' F file v):(0<iX N s->iX N s'<iX N s)/\(iX N s=0->s'=s/\v=did 0 aP):=by
 have hph:=hs.ph;have Kx:∀s1:gV,s1.phase=3->s1.ck<=s1.src.length->Checked K s1 s' F file v->iX N s'<s1.src.length-s1.ck+3:=by
  intro s1 e1 e2 hc;rcases hc with⟨c1,-,iu,QL,sD,sE,-,rfl⟩|⟨c1,c2,⟨-,-,rfl⟩|⟨-,-,rfl⟩⟩
  ·have:=KR (N:=N) (s:={s1.stand 0 0 with old:=iu,pb:=QL,num:=IntKind.i64.wrap (s1.num+1),lC:=sD,res:=nZ K.B F file,mO:=sE,jX:=rN (qW F.cu) (mO s1.old (mN K.B F file)) K.B.rs.length}) (aV _) (fun q=>by simp[gV.stand] at q);omega
  ·have:=KR (N:=N) (s:=s1.stand 1 s1.time) (ag _) (fun q=>by have:=q.2;simp only[gV.stand] at this;omega);omega
  ·rw[OO (s:={s1 with ck:=s1.ck+1}) e1];show s1.src.length-(s1.ck+1)+3<_;omega
 rcases hw with⟨p2,⟨c1,c2⟩|⟨c1,-,MU,rfl⟩⟩|⟨p3,c2⟩|⟨n2,n3,hr⟩
 ·rw[Ga p2];have:=Kx {s with phase:=3} rfl HI c2;simp only at this;exact⟨fun _=>aa,fun q=>aa⟩
 ·rw[Ga p2,Ga (s:={s with rv:=MU,rd:=s.rd++[(dW s.th s.src[s.rd.length],cm s.st s.src[s.rd.length])]}) p2];simp only[List.length_append,List.length_singleton];exact⟨fun _=>aa,fun q=>aa⟩
 ·rw[OO p3];have:=Kx s p3 HI c2;exact⟨fun _=>this,fun q=>aa⟩
 ·have hp:s.phase<=1:=aa;rcases hr with⟨ht,-,rfl⟩|⟨ht,hq,-,lo,F',MW,rfl⟩|⟨ht,hq,e,rfl⟩
  ·rw[UM hp (sG.2 ht),OP (s:=gV.stand {s with qv:=.slice none 0 0,qn:=[],lost:=false} 1 s.time) (ag _) (by simp[gV.told,gV.stand]) (fun q=>by have:=q.2;simp only[gV.stand] at this;omega)];exact⟨fun _=>aa,fun q=>aa⟩
  ·rw[YV hp (fun q=>ht (sG.1 q)) hq,Ga (s:={s.stand 2 0 with fd:=some (lo,F'),sv:=MW,src:=fq K.B.NM K.B.rs}) rfl];simp only[gV.stand,List.length_nil,hN];exact⟨fun _=>aa,fun q=>aa⟩
  ·rw[OP hp (fun q=>ht (sG.1 q)) hq];exact⟨fun q=>absurd q aa,fun _=>⟨rfl,e⟩⟩
structure y7(s:gV):Prop where
 told:¬s.told=true
 way:s.phase=0\/(s.phase=1/\s.since+5<=s.time)\/((s.phase=2\/s.phase=3)/\∀i (h:i<s.rd.length) (h':i<s.src.length),s.rd[i].2=cm s.st s.src[i])
theorem y7.work(h:y7 s)(TR:s.rd.length<=s.src.length)(hw:jZ K s s' F file v):y7 s':=by
 have Kx:∀s1:gV,s1.phase=3->s1.told=s.told->s1.rd=s.rd->s1.src=s.src->s1.st=s.st->(∀i (h:i<s.rd.length) (h':i<s.src.length),s.rd[i].2=cm s.st s.src[i])->Checked K s1 s' F file v->y7 s':=by
  intro s1 e1 e2 e3 e4 e5 hE hc;have ht:¬s1.told=true:=by rw[e2];exact h.told
  rcases hc with⟨c1,-,iu,QL,sD,sE,-,rfl⟩|⟨c1,c2,⟨c3,-,rfl⟩|⟨-,-,rfl⟩⟩
  ·exact⟨ht,.inl rfl⟩
  ·refine absurd ?_ c3;have h1:s1.ck<s.rd.length:=by rw[<- e3];exact c2
   have h2:s1.ck<s.src.length:=by rw[<- e4];exact c1
   have:=hE s1.ck h1 h2;simp only[e3,e4,e5];exact this.symm
  ·refine⟨ht,.inr (.inr ⟨.inr e1,fun i h1 h2=>?_⟩)⟩;have h1':i<s.rd.length:=by rw[<- e3];exact h1
   have h2':i<s.src.length:=by rw[<- e4];exact h2
   have:=hE i h1' h2';simp only[e3,e4,e5];exact this
 rcases hw with⟨p2,⟨c1,c2⟩|⟨c1,-,MU,rfl⟩⟩|⟨p3,c2⟩|⟨n2,n3,hr⟩
 ·rcases h.way with q|⟨q,-⟩|⟨-,hE⟩
  ·omega
  ·omega
  ·exact Kx {s with phase:=3} rfl rfl rfl rfl rfl hE c2
 ·rcases h.way with q|⟨q,-⟩|⟨-,hE⟩
  ·omega
  ·omega
  ·refine⟨h.told,.inr (.inr ⟨.inl p2,fun i h1 h2=>?_⟩)⟩;simp only at h1 h2 |-;by_cases hi:i<s.rd.length
   ·rw[bV hi];exact hE i hi h2
   ·have e:i=s.rd.length:=by simp at h1;omega
    subst e;simp
 ·rcases h.way with q|⟨q,-⟩|⟨-,hE⟩
  ·omega
  ·omega
  ·exact Kx s p3 rfl rfl rfl rfl hE c2
 ·rcases hr with⟨ht,-⟩|⟨ht,hq,-,lo,F',MW,rfl⟩|⟨-,-,-,rfl⟩
  ·exact absurd (sG.2 ht) h.told
  ·exact⟨h.told,.inr (.inr ⟨.inl rfl,fun i h1 _=>by simp[gV.stand] at h1⟩)⟩
  ·exact h
theorem y7.rest{N:Nat}(h:y7 s)(h0:iX N s=0):s.phase=0:=by
 rcases h.way with q|q|⟨q,-⟩
 ·exact q
 ·rw[YV aa h.told q] at h0;omega
 ·rcases q with q|q
  ·rw[Ga q] at h0;omega
  ·rw[OO q] at h0;omega
theorem No{N t:Nat}(hs:Sound K s)(h0:iX N s=0)(hsi:s.since<=s.time)(ht:s.time+5<=t):y7 {s with time:=t}:=by
 have hph:=hs.ph;have NW:s.phase≠2:=fun q=>by rw[Ga q] at h0;omega
 have Oz:s.phase≠3:=fun q=>by rw[OO q] at h0;omega
 have NF:¬s.told=true:=fun q=>by rw[UM aa q] at h0;omega
 refine⟨NF,?_⟩;by_cases q:s.phase=0
 ·exact .inl q
 ·exact .inr (.inl ⟨by show s.phase=1;omega,by show s.since+5<=t;omega⟩)
end
open Go.Ren Go.Conc Go.Proofs Go.ConcN
open Go.ConcR (Payload)
section
variable {Fin:bL} {o o' o1:aN} {w w' w1:ae} {S:Nat} {K:pG} {s s':gV} {lab lab' dt:Nat->Nat} {rv fv:Value} {fs:List (af×af)} {ed cnt Hz:Nat} {rs:List aJ} {NM:aJ->List af} {RK:af->Nat} {lk:Int}
theorem UN{B:vt}{fd:Option (Nat×da)}{old:Nat->Option (Nat×List V)}(h:fQ o w B fd old):(fq B.NM B.rs).length<=32:=by
 have q1:=uN (lJ (B.rs.map (·.out)) (DZ B.NM B.rs) B.rs.length);have q2:=oY (B.rs.map (·.out)) (DZ B.NM B.rs) B.rs.length (fun i hi=>by rw[nt hi];exact h.right.four _ (aH hi)) B.rs.length (ag _);have q3:=h.rules.gY;have:(fq B.NM B.rs).length<=(lJ (B.rs.map (·.out)) (DZ B.NM B.rs) B.rs.length).length:=q1;omega
theorem UO{N:Nat}(hN:s.src.length<=N):iX N s<=2*N+6:=by
 unfold iX;split
 ·omega
 ·split
  ·omega
  ·split
   ·omega
   ·split<;>omega
structure RInv(o:aN)(w:ae)(Ky:Nat->Nat)(S:Nat)(K:pG)(rv fv:Value)(fs:List (af×af))(ed:Nat)(rs:List aJ)(NM:aJ->List af)(RK:af->Nat)(cnt:Nat)(q:Prop)(s:gV)(lab:Nat->Nat)(o':aN)(w':ae):Prop where
 cC:vS o' w' S K s lab rv fv fs ed
 step:gI S o w Ky o' w' lab
 told:Told K rs NM RK s ed cnt
 quick:q->y7 s
theorem RInv.EA{q:Prop}(h:RInv o w lab S K rv fv fs ed rs NM RK cnt q s dt o1 w1):iX (fq K.B.NM K.B.rs).length s<=100:=by
 have h1:=UN h.cC.dH.build;have:=UO (s:=s) (N:=(fq K.B.NM K.B.rs).length) (by
  by_cases hp:s.phase=2\/s.phase=3
  ·rw[h.cC.sound.src hp];exact ag _
  ·rw[(h.cC.sound.idle (by have:=h.cC.sound.ph;omega)).1];simp)
 omega
theorem RInv.work{q:Prop}{F:da}{v:Value}(h:RInv o w lab S K rv fv fs ed rs NM RK cnt q s dt o1 w1)(Rj:gC rs NM RK K.B)(hc:cnt<4611686018427387904)(hf:(s.phase=2\/s.phase=3)->∃lo,s.fd=some (lo,F))(hw:jZ K s s' F (fileOf s.src (s.rd.map (·.1))) v)(hs:Sound K s')(hk:bo o' w' K s' 0 lab')(T:cP o1 w1 dt o' w' lab'):RInv o w lab S K rv fv fs ed rs NM RK (cnt+1) q s' lab' o' w'/\(0<iX (fq K.B.NM K.B.rs).length s->iX (fq K.B.NM K.B.rs).length s'<iX (fq K.B.NM K.B.rs).length s)/\(iX (fq K.B.NM K.B.rs).length s=0->s'=s/\v=did 0 aP):=by
 obtain⟨n,y,hv,-,-,-,Vk,-⟩:=hw.kind;have xl:=h.cC.dH.gY;refine⟨⟨h.cC.work hk hs T Vk,h.step.k T,h.told.work h.cC.sound Rj (fun p=>?_) hc hw,fun hq=>(h.quick hq).work xl.2.2.2.2.2 hw⟩,Q3 rfl h.cC.sound xl.2.2.2.2.1 xl.2.2.2.2.2 hw⟩;obtain⟨lo,e⟩:=hf p;exact h.cC.dH.XI lo F e
theorem RInv.tick{q:Prop}{t:Nat}(h:RInv o w lab S K rv fv fs ed rs NM RK cnt q s dt o1 w1)(h0:iX (fq K.B.NM K.B.rs).length s=0)(ht:s.time+5<=t)(hk:bo o' w' K {s with time:=t} 0 dt)(T:cP o1 w1 dt o' w' dt):RInv o w lab S K rv fv fs ed rs NM RK cnt True {s with time:=t} dt o' w' :=
 ⟨h.cC.work hk (h.cC.sound.tick t) T rfl,h.step.k T,h.told.tick t,fun _=>No h.cC.sound h0 h.cC.dH.gY.2.2.2.1 ht⟩
theorem RInv.k{q:Prop}(h:RInv o w lab S K rv fv fs ed rs NM RK cnt q s dt o1 w1)(T:cP o1 w1 dt o' w' lab')(hk:bo o' w' K s 0 lab'):RInv o w lab S K rv fv fs ed rs NM RK cnt q s lab' o' w' :=
 ⟨h.cC.work hk h.cC.sound T rfl,h.step.k T,h.told,h.quick⟩
theorem XJ[Payload](h:vS o w S K s lab rv fv fs ed)(hT:Told K rs NM RK s ed cnt)(Rj:gC rs NM RK K.B)(hc:cnt<4000000000000000000):
  bA au (XB au Fin 0) 23 #[.pointer (some ⟨S,0,none⟩)] o w fun v o' w'=>∃s' lab',(RInv o w lab S K rv fv fs ed rs NM RK (cnt+400) True s' lab' o' w'/\s'.phase=0/\v=.tuple #[.bool true,.bool true])\/(RInv o w lab S K rv fv fs ed rs NM RK (cnt+400) False s' lab' o' w'/\v=.tuple #[.bool false,.bool true]):=by
 have W:=bY (P:=au) (Fin:=Fin) (d:=0);refine bD W func23 ar ?_;bP Tryz.f23;refine ax ?_;refine iQ W (fun m a o' w'=>∃n,m+n=3/\a.tmps.size=41/\a.defers=[]/\a.eval (.tmp 0)=.pointer (some ⟨S,0,none⟩)/\a.eval (.tmp 4)=.int .i64 (n:Nat)/\∃s' lab',RInv o w lab S K rv fv fs ed rs NM RK (cnt+100*n) (1<=n) s' lab' o' w'/\(2<=n->s'.phase=0)) (N:=3) ⟨0,rfl,rfl,rfl,aI,aI,s,lab,⟨h,gI.refl h.dH.aG,hT,fun q=>absurd q aa⟩,fun q=>absurd q aa⟩ ?_;rintro m a o1 w1 ⟨n,hmn,fJ,kZ,i0,i4,s1,dt,hI,hph⟩;obtain⟨gs,rfl⟩:=iJ fJ kZ;clear fJ kZ;simp only[List.range,List.range.loop,aA,aQ] at i0 i4 |-;simp[Act.eval] at i0 i4;simp only[i0,i4];clear i0 i4;by_cases hn:n<3
 ·have hnI:(n:Int)<3:=aa;have hwn:IntKind.i64.wrap ((n:Int)+1)=((n+1:Nat):Int):=by rw[IntKind.wrap_i64]<;>omega
  refine ax ?_;refine iQ W (fun m2 a o' w'=>∃i,m2+i=100/\a.tmps.size=41/\a.defers=[]/\a.eval (.tmp 0)=.pointer (some ⟨S,0,none⟩)/\a.eval (.tmp 4)=.int .i64 (n:Nat)/\a.eval (.tmp 5)=.int .i64 (i:Nat)/\∃s' lab',RInv o w lab S K rv fv fs ed rs NM RK (cnt+100*n+i) (1<=n) s' lab' o' w'/\iX (fq K.B.NM K.B.rs).length s'<=100-i) (N:=100) ⟨0,rfl,rfl,rfl,aI,aI,aI,s1,dt,hI,hI.EA⟩ ?_;clear hI hph s1 dt;rintro m2 a o2 w2 ⟨i,K4,fJ,kZ,i0,i4,i5,s1,dt,hI,Vh⟩;obtain⟨gs,rfl⟩:=iJ fJ kZ;clear fJ kZ;simp only[List.range,List.range.loop,aA,aQ] at i0 i4 i5 |-;simp[Act.eval] at i0 i4 i5;simp only[i0,i4,i5];clear i0 i4 i5;by_cases hi:i<100
  ·have hiI:(i:Int)<100:=aa;have YW:IntKind.i64.wrap ((i:Int)+1)=((i+1:Nat):Int):=by rw[IntKind.wrap_i64]<;>omega
   refine ax ?_;refine lz hI.cC.dH.aG hI.cC.own (od hI.cC.blk).1 fun _=>?_;refine ax ?_;refine cj func38 (uU hI.cC.dH hI.cC.sound) ?_;rintro v3 o3 w3 ⟨s3,kQ,F3,hf3,Vi,u3,h3,T3⟩;obtain⟨Vn,lE,GO⟩:=hI.work Rj aa hf3 Vi u3 h3 T3;have aj5:iX (fq K.B.NM K.B.rs).length s3<=100-(i+1):=by
    by_cases q:0<iX (fq K.B.NM K.B.rs).length s1
    ·have:=lE q;omega
    ·rw[(GO aa).1];omega
   refine ax ?_;exact⟨m2-1,aa,i+1,aa,dp,dp,aI,aI,by simp[Act.eval,YW],s3,kQ,Vn,aj5⟩
  ·have hiI:¬(i:Int)<100:=aa;have h0:iX (fq K.B.NM K.B.rs).length s1=0:=aa;refine ax ?_;refine lz hI.cC.dH.aG hI.cC.own (od hI.cC.blk).1 fun _=>?_;refine ax ?_;refine cj func37 (MT hI.cC.dH 5) ?_;rintro v3 o3 w3 ⟨rfl,z3,k3,⟨rfl,-,h3⟩|⟨rfl,-,h3⟩⟩
   ·have T3:cP o3 w2 dt o3 w3 dt:=cP.of (bB.dI (ex:=(·=K.kb)) h3.aG ⟨z3,k3⟩ rfl) (fun b hb=>by rw[hb,hI.cC.dH.l0];omega);refine ax ?_;exact⟨.inr trivial,trivial,_,resultsC_tmp2 (t:=2) (u:=3) ar _,s1,dt,.inr ⟨⟨hI.cC.work h3 hI.cC.sound T3 rfl,hI.step.k T3,hI.told.up aa,False.elim⟩,aI⟩⟩
   ·have T3:cP o3 w2 dt o3 w3 dt:=cP.of (bB.dI (ex:=(·=K.kb)) h3.aG ⟨z3,k3⟩ rfl) (fun b hb=>by rw[hb,hI.cC.dH.l0];omega);have Vn:=hI.tick h0 aj h3 T3;refine ax ?_;exact⟨m-1,aa,n+1,aa,dp,dp,aI,by simp[Act.eval,hwn],_,dt,⟨Vn.cC,Vn.step,Vn.told.up aa,fun _=>Vn.quick trivial⟩,fun q=>(hI.quick aa).rest h0⟩
 ·have hnI:¬(n:Int)<3:=aa;have UW:=hph aa;have SP:y7 s1:=hI.quick aa;have hI0:RInv o w lab S K rv fv fs ed rs NM RK (cnt+300) True s1 dt o1 w1:=⟨hI.cC,hI.step,hI.told.up aa,fun _=>SP⟩;have h0:iX (fq K.B.NM K.B.rs).length s1=0:=OP aa SP.told (fun q=>aa);clear hI hph SP;refine ax ?_;refine iQ W (fun m a o' w'=>∃n,m+n=3/\a.tmps.size=41/\a.defers=[]/\a.eval (.tmp 0)=.pointer (some ⟨S,0,none⟩)/\a.eval (.tmp 7)=.int .i64 (n:Nat)/\∃lab',RInv o w lab S K rv fv fs ed rs NM RK (cnt+300+n) True s1 lab' o' w') (N:=3) ⟨0,rfl,rfl,rfl,aI,aI,dt,hI0⟩ ?_;clear hI0;rintro m2 a o2 w2 ⟨i,K4,fJ,kZ,i0,i7,fW,hI⟩;obtain⟨gs,rfl⟩:=iJ fJ kZ;clear fJ kZ;simp only[List.range,List.range.loop,aA,aQ] at i0 i7 |-;simp[Act.eval] at i0 i7;simp only[i0,i7];clear i0 i7;by_cases hi:i<3
  ·have hiI:(i:Int)<3:=aa;have YW:IntKind.i64.wrap ((i:Int)+1)=((i+1:Nat):Int):=by rw[IntKind.wrap_i64]<;>omega
   refine ax ?_;refine lz hI.cC.dH.aG hI.cC.own (od hI.cC.blk).1 fun _=>?_;refine ax ?_;refine cj func38 (uU hI.cC.dH hI.cC.sound) ?_;rintro v3 o3 w3 ⟨s3,kQ,F3,hf3,Vi,u3,h3,T3⟩;obtain⟨Vn,-,GO⟩:=hI.work Rj aa hf3 Vi u3 h3 T3;obtain⟨rfl,rfl⟩:=GO h0;clear hI hf3 Vi u3 h3 T3;unfold did;refine ax ?_;refine tn 0 aP Vn.cC.dH fun D o4 w5 sF hD hV=>?_;have hI5:=Vn.k hV.step hV.dH;have oD:=hV.own;have FA:=hV.dH.aG;obtain⟨cD0,cD1,-⟩:=dQ hV.blk;clear Vn hV hD;refine ax ?_;refine dD bS FA rfl ar ar ?_ rfl (v:=.agg #[.int .i64 0,.string aP]) (fun wl aU=>by simp[go_sem,(aU.cell oD).trans cD0,(aU.cell oD).trans cD1]) fun _=>?_
   ·exact ng (bX oD)
   refine ax ?_;refine zy W (v:=.bool false) rfl ar (fun w3=>by simp[go_sem,KM];rfl) (fun w3=>by simp[go_sem,KN,EN]) ?_;refine ax ?_;exact⟨m2-1,aa,i+1,aa,dp,dp,aI,by simp[Act.eval,YW],sF,hI5⟩
  ·have hiI:¬(i:Int)<3:=aa;refine ax ?_;exact⟨.inr trivial,trivial,_,resultsC_tmp2 (t:=2) (u:=3) ar _,s1,fW,.inl ⟨⟨hI.cC,hI.step,hI.told.up aa,hI.quick⟩,UW,aI⟩⟩
theorem Q4[Payload](hF:bN au L0 o w)(pow:jb w)(p:Option Addr)(b off c:Nat)(rw:List EH)(hR:uW Fin w p b off rw)(q:Option Addr)(qb Bg d:Nat)(xs:List (Int×Int×Int))(hX:FV Fin w q qb Bg xs):
  DJ au (XB au Fin 0) 9 Tryz.f9 #[.slice p rw.length c,.slice q xs.length d] o w fun v o' w'=>v=.bool true/\bB (fun _=>False) o w o' w':=by
 have W:=bY (P:=au) (Fin:=Fin) (d:=0);have A7:=hX.ET;refine⟨_,ar,?_⟩;bP Tryz.f9;refine ax ?_;refine cj func13 (KD hF pow p b off c rw hR) ?_;rintro v1 o1 w1 eR;obtain⟨S,K,pb,dt,rp,rb,rc,rs,NM,NB,rfl,hWS,h1,KC⟩:=F9 eR;clear eR;refine ax ?_;refine dD bS h1.aG rfl ar ar ?_ rfl (v:=.bool false) (fun wl aU=>by simp[go_sem,aeM]) fun _=>?_
 ·exact ja (bX hWS.cC.own) yl
 clear h1;generalize s0 pb=s at *;refine ax ?_;refine iQ W (fun m a o' w'=>∃i,m+i=xs.length/\a.tmps.size=75/\a.defers=[]/\a.eval (.tmp 1)=.slice q xs.length d/\a.eval (.tmp 5)=.pointer (some ⟨S,0,none⟩)/\a.eval (.tmp 6)=.int .i64 i/\∃s lab fv fs ed,ed<=i/\SS o w S K rp rb rc rs NM NB s lab fv fs ed i o' w') (N:=xs.length) ⟨0,aj,rfl,rfl,aI,aI,aI,_,_,_,_,_,ag _,hWS⟩ ?_;clear hWS;rintro m a o1 w1 ⟨i,K4,fJ,kZ,i1,i5,i6,s,lab,fv,fs,ed,UG,hW⟩;obtain⟨gs,rfl⟩:=iJ fJ kZ;clear fJ kZ;simp only[List.range,List.range.loop,aA,aQ] at i1 i5 i6 |-;simp[Act.eval] at i1 i5 i6;simp only[i1,i5,i6];clear i1 i5 i6;by_cases hi:i<xs.length
 ·have hiI:(i:Int)<(xs.length:Int):=aa;have YW:IntKind.i64.wrap ((i:Int)+1)=((i+1:Nat):Int):=by rw[IntKind.wrap_i64]<;>omega
  obtain⟨eq,oqb,qbl⟩:=hX.ptr (fun e=>by rw[e] at hi;simp at hi);subst eq;obtain⟨c0,c1,c2⟩:=hX.at_ i hi;obtain⟨⟨Xi,Xj⟩,Xk,rg4⟩:=hX.Xg xs[i] (aH hi);rcases hxi:xs[i] with⟨kd,ea,eb⟩;rw[hxi] at c0 c1 c2 Xi Xj Xk rg4;simp only at c0 c1 c2 Xi Xj Xk rg4;clear hxi;have Up:=hW.old.same qb qbl id;have YM:=(cell_of Up).trans c0;have AW:=(cell_of Up).trans c1;have c2':=(cell_of Up).trans c2;refine ax ?_;refine qd oqb rfl ar rfl (v:=.agg #[.int .i64 kd,.int .i64 ea,.int .i64 eb]) (fun wl aU=>by simp[go_sem,aU.cell.trans YM,aU.cell.trans AW,aU.cell.trans c2']) (fun wl aU x hx=>?_) ?_
  ·simp[go_sem,aU.cell.trans YM,aU.cell.trans AW,aU.cell.trans c2'] at hx;rcases hx with rfl|rfl|rfl;all_goals exact⟨_,_,_,rfl,rfl⟩
  refine ax ?_;refine cj func14 (UF hW.cC kd ea eb Xi Xj Xk rg4 aa) ?_;rintro v2 o2 w2 ⟨n,y,s2,fW,Nf,EL,zd,rfl,sh2,st2,U2,aka⟩;have XK:zd<=i+1:=by have:=st2.edl;omega
  have uq:=hW.go sh2 U2 (hW.told.step hW.cC.sound KC hW.cC.dH.XI aa st2);clear sh2 st2 U2 aka hW;refine ax ?_;refine tn n y uq.cC.dH fun D o3 w4 kQ hD hV=>?_;have Ki:=uq.k hV.step hV.dH;clear hV hD uq;refine ax ?_;exact⟨m-1,aa,i+1,aa,dp,dp,aI,aI,by simp[Act.eval,YW],s2,_,Nf,EL,zd,XK,Ki⟩
 have hiI:¬(i:Int)<(xs.length:Int):=aa;refine ax ?_;refine cj func23 (XJ hW.cC hW.told KC aa) ?_;rintro v2 o2 w2 ⟨s2,fW,⟨Iq,hp2,rfl⟩|⟨Iq,rfl⟩⟩;rotate_left
 ·have uq:=hW.go Iq.cC Iq.step Iq.told;refine ax ?_;exact⟨.inr trivial,trivial,_,resultsC_tmp (t:=4) ar _,aI,uq.old⟩
 have uq:=hW.go Iq.cC Iq.step Iq.told;have NF:=(Iq.quick trivial).told;clear Iq hW;refine ax ?_;refine lz uq.cC.dH.aG uq.cC.own (od uq.cC.blk).1 fun _=>?_;refine ax ?_;refine cj func24 (Hj uq.cC.dH) ?_;rintro v3 o3 w3 ⟨r8,kQ,h3,T3,-⟩;have sH:=uq.k T3 h3;have ME:=uq.cC.dH.set.gY;obtain⟨rv,tv,rfl,⟨pa,ba,ca,rfl,y6,ha⟩,fB,OJ⟩:=r8.ex;clear r8 T3 h3 uq;refine ax ?_;obtain⟨tp,tb,tc,rfl,-⟩:=OJ.row;refine Ho s2.num pa s2.res.length ca tp s2.jX.length tc sH.cC.dH fB OJ.cl fun L o4 w5 sF hL hV=>?_;have Bh:=sH.k hV.step hV.dH;have oL:=hV.own;obtain⟨cL0,cL1,-⟩:=eQ hV.blk;have EP:s2.res≠[]->pa=some ⟨ba,0,none⟩/\o4 ba:=fun q=>⟨(y6 q).1,hV.bt.more _ (y6 q).2⟩;have Vo:nJ w5 ba s2.res:=fun i hi=>ky ha (hV.old ba (sH.cC.dH.aG.lt (y6 (fun e=>by rw[e] at hi;simp at hi)).2)).2 i hi;clear hV hL sH fB OJ y6 ha;have FA:=Bh.cC.dH.aG;have akb:=Bh.cC.Be;refine ax ?_;refine lz FA Bh.cC.own (od Bh.cC.blk).2.2.2 fun _=>?_;aE;by_cases he:ed=0
 ·subst he;obtain⟨-,-,e1,e2⟩:=Bh.told.none rfl;rw[e1] at cL0;rw[e2] at cL1;refine ax ?_;refine lz FA oL cL0 fun _=>?_;refine ax ?_;refine lz FA oL cL1 fun _=>?_;refine ax ?_;exact⟨.inr trivial,trivial,_,resultsC_tmp (t:=4) ar _,aI,Bh.old⟩
 obtain⟨hM,KV⟩:=Bh.told.pub aa hp2 NF;have hM2:=hM.Be akb;have heI:¬((ed:Int)=0):=aa;obtain⟨fp,fb,fc,YX,-,-⟩:=Bh.cC.files.ex;have cS2:=(od Bh.cC.blk).2.2.1;have hfs:=Bh.cC.files;rw[YX] at cS2 hfs;refine ax ?_;refine ig W (t:=false) (by simp[Act.eval,he]) ?_;simp only[if_false,reduceIte,aM];refine ax ?_;refine dS mixed ah [some none,some none,some (some (.slice pa s2.res.length ca)),some none,some none,some none,some (some (.slice fp fs.length fc)),some (some (.bool true)),some none]
  (S:=fun σ o' w'=>bB (fun _=>False) o4 w5 o' w') (bB.refl FA) fun v9=>?_
 refine dR ?_;refine cE ?_;refine cE ?_;refine cq bS rfl rfl rfl ar ar (fun σ o' w' H hS=>?_) ?_
 ·exact tM hS.aG (hS.more _ oL) ((cell_of (hS.same _ (FA.lt oL) id)).trans cL1)
 iterate 3 refine cE ?_
 refine cq bS rfl rfl rfl ar ar (fun σ o' w' H hS=>?_) ?_
 ·exact tM hS.aG (hS.more _ Bh.cC.own) ((cell_of (hS.same _ (FA.lt Bh.cC.own) id)).trans cS2)
 aE;refine jU rfl rfl ar rfl func25 ah rfl (av:=#[.pointer (some ⟨S,0,none⟩),.slice pa s2.res.length ca,.slice fp fs.length fc]) aI (fun σ o' w' H hS=>?_) ?_
 ·refine(KQ Bh.cC Bh.hand hfs Bh.cC.ok ba ca pa s2.res ME EP Vo hS).mono ?_;rintro y o6 w6 ⟨W6,l,hl,rfl⟩;rw[hl.one hM2];exact⟨aj,W6⟩
 refine cE ?_;refine cD fun σ o6 w6 mC hS=>?_;clear mC;have akc:=(cell_of (hS.same _ (FA.lt oL) id)).trans cL0;have oL6:=hS.more _ oL;simp only[iM,dK,if_true,if_false,reduceIte,Nat.reduceEqDiff];refine ax ?_;refine lz hS.aG oL6 akc fun _=>?_;refine ax ?_;exact⟨.inr trivial,trivial,_,resultsC_tmp (t:=4) ar _,aI,Bh.old.trans hS⟩
end
open Go
section
open YtgjekaaknjgnmaaGreatDoor
theorem HA:p6 9 Tryz.f9:=fun Fin o w hF pow p b off c rw hR q qb Bg d xs hX=>by
 letI:Go.ConcR.Payload:=⟨0⟩
 exact Q4 hF pow p b off c rw hR q qb Bg d xs hX
theorem settles_done:Rows.SettlesCardSaid:=Hv HA
end
end Go.Proofs.Kz
namespace Go.Proofs.YtgjekaaknjgnmaaGreatDoor
theorem settles_claim:Rows.SettlesCardSaid:=Go.Proofs.Kz.settles_done
end Go.Proofs.YtgjekaaknjgnmaaGreatDoor
