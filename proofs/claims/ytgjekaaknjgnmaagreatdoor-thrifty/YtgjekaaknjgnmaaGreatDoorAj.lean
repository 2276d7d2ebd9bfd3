import Derived.Test.YtgjekaaknjgnmaaGreatDoorAi
set_option linter.all false
set_option maxHeartbeats 40000000
set_option maxRecDepth 200000
namespace Go.Proofs.Kz
open Go.Proofs.Tryz
open Go.Proofs.Tryz renaming prog → ax
open _root_.ByteArray renaming empty → aR
open _root_.Option renaming some → so,none → we
open Go.Proofs
section
open Go.RowKit
def KM(b c:Nat)(p:Option Addr)(fs:List (af×af))(x:af)(w:ae)(hn:fs.length<=1000)(hp:fs≠[]->p=so ⟨b,0,we⟩/\b<w.heap.size)(hf:lQ w b fs)(hx:∀f∈fs,f.1≠x):
  Calls ax 69 #[.slice p fs.length c,.string x] w λe w'=>e=.returned (.bool false)/\Below w.heap.size w w'/\w.heap.size<=w'.heap.size:=by
 go_enter func69,ntmps69;go_wp2;go_loopw [9] (λi w'=>∃k:Nat,k<=fs.length/\i=.int .i64 k/\Below w.heap.size w w'/\w.heap.size<=w'.heap.size) (λi _=>fs.length-(intOf i).toNat)
 case atStart=>exact⟨0,aV _,rfl,Below.refl _ _,ah _⟩
 case round =>
  obtain⟨k,hk,rfl,gx,hz⟩:=hrel;by_cases cx:k<fs.length
  ·obtain⟨rfl,hb⟩:=hp (nlt cx);obtain⟨c0,c1⟩:=hf.below hb gx k cx;have dE:=sA (hx fs[k] (aG cx));generalize fs[k]=f at *;obtain⟨f1,f2⟩:=f;simp only at c0 c1 dE;clear hf hx;go_wp2;exact⟨⟨k+1,aa,by go_num,gx.alloc aa _,eP⟩,by simp[intOf];omega⟩
  ·go_wp2;go_ret;exact⟨rfl,gx,hz⟩
end
section
open Go.RowKit
open Go.Ren (cell_of)
def afO{w:ae}{B t n k:Nat}{vs:List V}{v:V}(hk:k<vs.length)(cp:w.rowIs B t (n*2) (ef vs)):
  ((w.setCell ⟨B,k*2,we⟩ (.bool v.1)).setCell ⟨B,k*2+1,we⟩ (.string v.2)).rowIs B t (n*2) (ef (vs.set k v)):=by
 refine((cp.set (k*2) _).set (k*2+1) _).congr λj hj=>?_;by_cases e1:j=k*2+1
 ·subst e1;rw[if_pos rfl];have h1:(k*2+1)%2=1:=aa;have h2:(k*2+1)/2=k:=aa;simp[ef,h1,h2,hk]
 ·by_cases e2:j=k*2
  ·subst e2;rw[if_neg e1,if_pos rfl];have h1:(k*2)%2=0:=aa;have h2:(k*2)/2=k:=aa;simp[ef,h1,h2,hk]
  ·rw[if_neg e1,if_neg e2];have h3:k≠j/2:=aa;simp[ef,h3]
def kP(cZ:List af)(fs:List (af×af)):List V:=fs.foldl (λvs f=>if pQ cZ f.1 then vs.set (ni cZ f.1) (true,f.2)else vs) (List.replicate cZ.length V0)
def A1(cZ:List af)(fs:List (af×af))(k:Nat)(h:k<fs.length):kP cZ (fs.take (k+1))=if pQ cZ fs[k].1 then(kP cZ (fs.take k)).set (ni cZ fs[k].1) (true,fs[k].2)else kP cZ (fs.take k):=by
 unfold kP;rw[take_succ fs k h,List.foldl_append];rfl
def DT(cZ:List af)(fs:List (af×af)):(kP cZ fs).length=cZ.length:=by
 unfold kP
 suffices ∀(l:List (af×af)) (vs:List V),(l.foldl (λvs f=>if pQ cZ f.1 then vs.set (ni cZ f.1) (true,f.2)else vs) vs).length=vs.length by
  rw[this,List.length_replicate]
 intro l
 induction l with
 |nil=>exact λ_=>rfl
 |cons f l ih =>
  intro vs;rw[List.foldl_cons,ih];split
  ·rw[List.length_set]
  ·rfl
def HG(sb sc b c:Nat)(sp p:Option Addr)(cZ:List af)(fs:List (af×af))(w:ae)(h1:cZ.length<=1000)(h2:fs.length<=1000)(vJ:cZ≠[]->sp=so ⟨sb,0,we⟩/\sb<w.heap.size)(hp:fs≠[]->p=so ⟨b,0,we⟩/\b<w.heap.size)(hs:eN w sb 0 cZ)(hf:lQ w b fs):
  Calls ax 43 #[.slice sp cZ.length sc,.slice p fs.length c] w λe w'=>e=.returned (.slice (so ⟨w.heap.size,0,we⟩) cZ.length cZ.length)/\Below w.heap.size w w'/\w.heap.size<w'.heap.size /\
   w'.rowIs w.heap.size 159 (cZ.length*2) (ef (kP cZ fs)):=by
 have HO:=λw=>rK w cZ.length aa;go_enter func43,ntmps43;go_wp2;go_loopw [15] (λi w'=>∃k:Nat,k<=fs.length/\i=.int .i64 k/\Below w.heap.size w w'/\w.heap.size<w'.heap.size/\w'.rowIs w.heap.size 159 (cZ.length*2) (ef (kP cZ (fs.take k)))) (λi _=>fs.length-(intOf i).toNat)
 case atStart =>
  refine⟨0,aV _,rfl,(Below.refl _ _).alloc (ah _) _,ar,_,jQ _ _,by simp[size_madeCells],λj hj=>?_⟩;simp only[madeCells,aL,Array.getElem?_range,hj,if_true,aJ];have h5:(kP cZ (fs.take 0)).getD (j/2) V0=V0:=by
   show(List.replicate cZ.length V0).getD (j/2) V0=V0;rw[jk,kg];split<;>rfl
  unfold ef;rw[h5];rcases fj j with e|e<;>simp[e]
 case round =>
  obtain⟨k,hk,rfl,gx,hz,cp⟩:=hrel;by_cases cx:k<fs.length
  ·obtain⟨rfl,hb⟩:=hp (nlt cx);obtain⟨c0,c1⟩:=hf.below hb gx k cx;have RZ:=A1 cZ fs k cx;have hlen:=DT cZ (fs.take k);have mO:pQ cZ fs[k].1=true->ni cZ fs[k].1<cZ.length:=λh=>(dP h).1;have WW:=λx=>uH sb sc sp cZ fs[k].1 (wr.alloc x) aa (λh=>(vJ h).1) (λj hj=>hs.below (vJ (nlt hj)).2 (gx.alloc aa _) j hj);have d0:∀j,j<cZ.length->wr.cell? ⟨w.heap.size,j*2,we⟩=so (ef (kP cZ (fs.take k)) (j*2)):=λj hj=>cp.cell aa;have d1:∀j,j<cZ.length->wr.cell? ⟨w.heap.size,j*2+1,we⟩=so (ef (kP cZ (fs.take k)) (j*2+1)):=λj hj=>cp.cell aa;have f0:∀j,wr.frozen? ⟨w.heap.size,j,we⟩=false:=λj=>cp.frozen j;generalize fs[k]=f at *;obtain⟨f1,f2⟩:=f;simp only at c0 c1 WW mO RZ;clear hs hf vJ hp;generalize kP cZ (fs.take k)=vs at *;generalize pQ cZ f1=ht at *;generalize ni cZ f1=po at *;cases ht
   ·go_wp2_with (go_at_call 77;refine(WW _).mono ?_;rintro e w2 ⟨rfl,vh,pB⟩);refine⟨⟨k+1,aa,by go_num,pB _ _ (gx.alloc aa _),?_,?_⟩,by simp[intOf];omega⟩
    ·rw[vh];simp;omega
    ·rw[RZ];exact cp.of_block (by rw[vh];exact Below.heap_alloc _ _ _ hz)
   ·have hpo:=mO rfl;have hpI:(po:Int)<(cZ.length:Int):=aa;obtain⟨a0,e0⟩:∃v,wr.cell? ⟨w.heap.size,po*2,we⟩=so v:=⟨_,d0 po hpo⟩;obtain⟨a1,e1⟩:∃v,wr.cell? ⟨w.heap.size,po*2+1,we⟩=so v:=⟨_,d1 po hpo⟩;have hA:∀x:Obj,(wr.alloc x).heap[w.heap.size]?=wr.heap[w.heap.size]?:=λx=>Below.heap_alloc _ _ _ hz;have r0:=λx=>(cell_of (hA x)).trans e0;have r1:=λx=>(cell_of (hA x)).trans e1;have r2:∀x j,(wr.alloc x).frozen? ⟨w.heap.size,j,we⟩=false:=λx j=>by
     have:=f0 j;unfold World.frozen? at this |-;rw[hA x];exact this
    clear d0 d1 f0 e0 e1 HO;go_wp2_with (go_at_call 77;refine(WW _).mono ?_;rintro e w2 ⟨rfl,vh,pB⟩;have g0:=(mF vh _).trans (r0 _);have g1:=(mF vh _).trans (r1 _);have g2:=λj=>(uI vh _).trans (r2 _ j);have g3:=(mF vh _).trans (sT _ _ _ 1));refine⟨⟨k+1,aa,by go_num,((pB _ _ (gx.alloc aa _)).setCell (ah _) _).setCell (ah _) _,?_,?_⟩,by simp[intOf];omega⟩
    ·simp[World.setCell,vh];omega
    ·rw[RZ,if_pos trivial];exact afO (v:=(true,f2)) aa (cp.of_block (by rw[vh];exact hA _))
  ·have e:k=fs.length:=aa;subst e;rw[cC]at cp;go_wp2;go_ret;exact⟨rfl,gx,hz,cp⟩
end
def Nk{l:List (af×af)}{x t:af}(hx:x∉l.map (·.1))(y:af):dG (l++[(x,t)]) y=if y=x then(true,t)else dG l y:=by
 unfold dG;rw[Al];by_cases e:y=x
 ·subst e;rw[vG hx];simp
 ·cases eR l y<;>simp[e]
def Nl{xs:List af}(h:lO xs){i j:Nat}(hi:i<xs.length)(hj:j<xs.length)(e:xs[i]=xs[j]):i=j:=by
 rcases fZ i j with q|q|q
 ·have:=h i j hi hj q;rw[e,pZ]at this;exact absurd this eB
 ·exact q
 ·have:=h j i hj hi q;rw[e,pZ]at this;exact absurd this eB
def A2{cZ:List af}{fs:List (af×af)}(hs:lO cZ)(hn:(fs.map (·.1)).Nodup):∀k,k<=fs.length->kP cZ (fs.take k)=cZ.map (dG (fs.take k))
 |0,_=>by
  apply fY;intro i;simp only[kP,List.take_zero,List.foldl_nil,List.getElem?_replicate,List.getElem?_map];by_cases h:i<cZ.length
  ·simp[h,dG,eR]
  ·simp[h]
 |k+1,h=>by
  have hk:k<fs.length:=h;have hx:fs[k].1∉(fs.take k).map (·.1):=λq=>by
   obtain⟨f,hf,e⟩:=aag.1 q;obtain⟨i,hi,rfl⟩:=a8 hf;have ml:i<k:=by simp at hi;omega
   rw[gb]at e;have:=aaj.1 hn i k eP eP ml;simp at this;exact this e
  rw[A1 cZ fs k hk,A2 hs hn k aa,take_succ fs k hk];have Nn:=λy=>Nk (t:=fs[k].2) hx y;generalize fs[k]=f at *;obtain⟨x,t⟩:=f;simp only at Nn |-;apply fY;intro i;by_cases hh:pQ cZ x=true
  ·rw[if_pos hh];obtain⟨h1,h2⟩:=dP hh;rw[jk,bm h1,bu]at h2;by_cases e:ni cZ x=i
   ·subst e;simp[h1,h2,Nn]
   ·rw[List.getElem?_set_ne e,dO,dO];by_cases hi:i<cZ.length
    ·have:cZ[i]≠x:=λq=>e (Nl hs h1 hi (h2.trans q.symm));simp[hi,Nn,this]
    ·simp[hi]
  ·rw[if_neg hh,dO,dO];by_cases hi:i<cZ.length
   ·have:cZ[i]≠x:=λq=>hh ((yF cZ hs x).2 (q▸aG hi));simp[hi,Nn,this]
   ·simp[hi]
def No{cZ:List af}{fs:List (af×af)}(hs:lO cZ)(hn:(fs.map (·.1)).Nodup):kP cZ fs=cZ.map (dG fs):=by
 have:=A2 hs hn fs.length (ah _);rwa[cC]at this
open Go.Ren Go.Conc Go.ConcN
section
variable {Fin:bL}{o o':aM}{w w':ae}
def Rg(hF:bO ax L0 o w)(b c:Nat)(p:Option Addr)(fs:List (af×af))(x:af)(hn:fs.length<=1000)(hp:fs≠[]->p=so ⟨b,0,we⟩/\o b)(hf:lQ w b fs)(hc:Cl ax L0 o (.slice p fs.length c))(hx:∀f∈fs,f.1≠x):
  bA ax (XB ax Fin 0) 69 #[.slice p fs.length c,.string x] o w λv o' w'=>v=.bool false/\fT o w v o' w':=by
 refine bA.mono (ek ai hF (λy hy=>by simp at hy;rcases hy with rfl|rfl;exact hc;exact bQ) (Q:=λwl v w'=>v=.bool false) (λwl AP v w1 w2 e1 e2 h=>h) (λwl hz aW=>?_)) (λv o' w' hq=>?_)
 ·refine(KM b c p fs x wl hn (λq=>⟨(hp q).1,by rw[hz];exact hF.lt (hp q).2⟩) (λk hk=>lI hf (aW b (hp (nlt hk)).2) k hk) hx).mono λe w' hq=>?_;obtain⟨rfl,hB,TZ⟩:=hq;exact⟨_,rfl,TZ,λb hb=>hB.block b hb,rfl⟩
 ·obtain⟨hN,wl,aX,-,-,-,h1⟩:=hq;exact⟨h1,hN⟩
structure yX(fs:List (af×af)):Prop where
 gF:fs.length<=12
 name:∀f∈fs,isName f.1
 once:(fs.map (·.1)).Nodup
 text:∀f∈fs,f.2.size<=12
def Rh(hF:bO ax L0 o w)(b c:Nat)(p:Option Addr)(fs:List (af×af))(hp:fs≠[]->p=so ⟨b,0,we⟩/\o b)(hf:lQ w b fs)(hc:Cl ax L0 o (.slice p fs.length c))(Bf:fs.length<=c)(ok:yX fs):
  bA ax (XB ax Fin 0) 40 #[.slice p fs.length c] o w λv o' w'=>v=.int .i64 0/\fE o w o' w':=by
 have W:=bY (P:=ax) (Fin:=Fin) (d:=0);have vU:=ok.gF;have aeQ:¬(12:Int)<(fs.length:Int):=aa;have at_:∀{o1:aM} {w1:ae} (G:fE o w o1 w1) (k:Nat) (hk:k<fs.length),o1 b/\w1.cell? ⟨b,k*2,we⟩=so (.string fs[k].1)/\w1.cell? ⟨b,k*2+1,we⟩=so (.string fs[k].2):=λG k hk=>by
  have q:=(hp (nlt hk)).2;have e:=G.br.same b (hF.lt q) id;exact⟨G.br.more _ q,(cell_of e).trans (hf k hk).1,(cell_of e).trans (hf k hk).2⟩
 refine bD W func40 ak ?_;walk_nrmf Tryz.f40;refine sM W ?_;refine Mh ?_;refine sM W ?_;refine sM W ?_;refine Mh ?_;refine BK W (λa o' w'=>a.tmps.size=48/\a.defers=[]/\a.eval (.tmp 0)=.slice p fs.length c/\fE o w o' w') ?_ ?_
 ·refine ay ?_;refine gT W (λm a o' w'=>∃k,m+k=fs.length/\a.tmps.size=48/\a.defers=[]/\a.eval (.tmp 0)=.slice p fs.length c/\a.eval (.tmp 12)=.slice p fs.length c/\a.eval (.tmp 13)=.int .i64 fs.length/\a.eval (.tmp 14)=.int .i64 k/\fE o w o' w') (N:=fs.length) ⟨0,ar,rfl,rfl,aK,aK,aK,aK,fE.refl hF⟩ ?_;rintro m a o1 w1 ⟨k,HO,fy,kN,i0,i1,i2,i3,G⟩;obtain⟨gs,rfl⟩:=il fy kN;clear fy kN;simp only[List.range,List.range.loop,aC,aP]at i0 i1 i2 i3 |-;simp[Act.eval]at i0 i1 i2 i3;simp only[i0,i1,i2,i3];clear i0 i1 i2 i3;by_cases hk:k<fs.length;rotate_left
  ·have R1:¬(k:Int)<(fs.length:Int):=aa;refine ay ?_;exact⟨dR,dR,aK,G⟩
  have R1:(k:Int)<(fs.length:Int):=aa;have Eu:IntKind.i64.wrap ((k:Int)+1)=((k+1:Nat):Int):=by rw[IntKind.wrap_i64]<;>omega
  obtain⟨ob,c0,c1⟩:=at_ G k hk;have hm:=aG hk;have A7:=ok.name _ hm;have Jw:=ok.text _ hm;have HH:∀f∈fs.take k,f.1≠fs[k].1:=λf VG e=>by
   obtain⟨j,hj,rfl⟩:=a8 VG;rw[gb]at e;have sg:j<k:=by simp at hj;omega
   have:=aaj.1 ok.once j k eP eP sg;simp at this;exact this e
  obtain⟨e1,-⟩:=hp (nlt hk);subst e1;have lz:=G.br.aH;rcases Sp:fs[k] with⟨x,t⟩;rw[Sp]at c0 c1 A7 Jw HH;simp only at c0 c1 A7 Jw HH;clear Sp hm;refine ay ?_;refine dK bS lz rfl ak ak ?_ rfl (v:=.agg #[.string x,.string t]) (λwl aW=>by simp[go_sem,(aW.cell ob).trans c0,(aW.cell ob).trans c1]) λ_=>?_
  ·exact mo (bX ob)
  refine ay ?_;refine dm bS lz rfl ak ak nf rfl (R:=λwl v aX=>v=.pointer (so ⟨wl.heap.size,0,we⟩)/\aX=wl.alloc (Obj.cells #[.string aR,.string aR] 44)) (λwl aW=>⟨_,_,by first|(simp[go_sem];done)|(simp[go_sem];rfl),rfl,rfl⟩) λwl v1 aX w3 aW oo bP=>?_;obtain⟨rfl,oo⟩:=oo;obtain⟨z3,k3,sF⟩:=bP.alloc lz aW oo;have G3:=fE.pW bP.aH aa k3;obtain⟨-,oA⟩:=bC.rC bP.aH z3 k3;have mJ:=bP.aH;rw[aW.size];clear oo bP aW wl aX;generalize Go.Ren.grow o1 w1 w3=o3 at *;refine ay ?_;refine dA bS mJ rfl ak ak ?_ rfl (R:=λwl aX=>aX=(wl.setCell ⟨w1.heap.size,0,we⟩ (.string x)).setCell ⟨w1.heap.size,1,we⟩ (.string t)) (λwl aW=>⟨_,?_,rfl⟩) λwl aX w4 aW BJ bP=>?_
  ·refine jF ?_ ?_
   ·exact bX oA
   ·refine fW (vs:=[_,_]) (λx hx=>?_);simp at hx;rcases hx with rfl|rfl
    ·exact bQ
    ·exact bQ
  ·obtain⟨e0,e1,f0,f1⟩:=dY ((aW.heap _ oA).trans sF)
   first
   | (simp[go_sem,e0,e1,f0,f1];done)
   | (simp[go_sem,e0,e1,f0,f1];rfl)
  have hO:eM w1.heap.size wl aX:=by rw[BJ];exact AQ _ _ _ _ _ _
  obtain⟨vC,kA,ey⟩:=bP.only aW oA hO;have rn:=bP.aH;rw[ey]at rn |-;rw[BJ,Uh ((aW.heap _ oA).trans sF)]at kA;have G4:=G3.wrote (ah _) rn vC;clear BJ bP aW hO wl aX ey vC sF z3 k3 mJ G3;generalize w1.heap.size=A at *;refine ay ?_;refine jJ rn oA (dY kA).1 λ_=>?_;refine ay ?_;refine b5 func68 (MQ rn x (by have:=A7.2.1;omega)) ?_;rintro v5 o5 w5 ⟨y5,rfl,hy5,N5⟩;obtain rfl:=hy5.2 A7;have G5:=G4.trans (fE.dJ N5);refine ay ?_;exact⟨m-1,aa,k+1,aa,dR,dR,aK,aK,aK,by simp[Act.eval,Eu],G.trans G5⟩
 rintro a o9 w9 ⟨fy,kN,i0,G9⟩;obtain⟨gs,rfl⟩:=il fy kN;clear fy kN;simp only[List.range,List.range.loop,aC,aP]at i0 |-;simp[Act.eval]at i0;simp only[i0];clear i0;refine BK W (λa o' w'=>a.tmps.size=48/\a.defers=[]/\a.eval (.tmp 0)=.slice p fs.length c/\fE o w o' w') ?_ ?_
 ·refine ay ?_;refine gT W (λm a o' w'=>∃k,m+k=fs.length/\a.tmps.size=48/\a.defers=[]/\a.eval (.tmp 0)=.slice p fs.length c/\a.eval (.tmp 23)=.slice p fs.length c/\a.eval (.tmp 24)=.int .i64 fs.length/\a.eval (.tmp 25)=.int .i64 k/\fE o w o' w') (N:=fs.length) ⟨0,ar,rfl,rfl,aK,aK,aK,aK,G9⟩ ?_;rintro m a o1 w1 ⟨k,HO,fy,kN,i0,i1,i2,i3,G⟩;obtain⟨gs,rfl⟩:=il fy kN;clear fy kN;simp only[List.range,List.range.loop,aC,aP]at i0 i1 i2 i3 |-;simp[Act.eval]at i0 i1 i2 i3;simp only[i0,i1,i2,i3];clear i0 i1 i2 i3;by_cases hk:k<fs.length;rotate_left
  ·have R1:¬(k:Int)<(fs.length:Int):=aa;refine ay ?_;exact⟨dR,dR,aK,G⟩
  have R1:(k:Int)<(fs.length:Int):=aa;have Eu:IntKind.i64.wrap ((k:Int)+1)=((k+1:Nat):Int):=by rw[IntKind.wrap_i64]<;>omega
  obtain⟨ob,c0,c1⟩:=at_ G k hk;have hm:=aG hk;have A7:=ok.name _ hm;have Jw:=ok.text _ hm;have HH:∀f∈fs.take k,f.1≠fs[k].1:=λf VG e=>by
   obtain⟨j,hj,rfl⟩:=a8 VG;rw[gb]at e;have sg:j<k:=by simp at hj;omega
   have:=aaj.1 ok.once j k eP eP sg;simp at this;exact this e
  obtain⟨e1,-⟩:=hp (nlt hk);subst e1;have lz:=G.br.aH;rcases Sp:fs[k] with⟨x,t⟩;rw[Sp]at c0 c1 A7 Jw HH;simp only at c0 c1 A7 Jw HH;clear Sp hm;refine ay ?_;refine dK bS lz rfl ak ak ?_ rfl (v:=.agg #[.string x,.string t]) (λwl aW=>by simp[go_sem,(aW.cell ob).trans c0,(aW.cell ob).trans c1]) λ_=>?_
  ·exact mo (bX ob)
  refine ay ?_;refine dm bS lz rfl ak ak nf rfl (R:=λwl v aX=>v=.pointer (so ⟨wl.heap.size,0,we⟩)/\aX=wl.alloc (Obj.cells #[.string aR,.string aR] 44)) (λwl aW=>⟨_,_,by first|(simp[go_sem];done)|(simp[go_sem];rfl),rfl,rfl⟩) λwl v1 aX w3 aW oo bP=>?_;obtain⟨rfl,oo⟩:=oo;obtain⟨z3,k3,sF⟩:=bP.alloc lz aW oo;have G3:=fE.pW bP.aH aa k3;obtain⟨-,oA⟩:=bC.rC bP.aH z3 k3;have mJ:=bP.aH;rw[aW.size];clear oo bP aW wl aX;generalize Go.Ren.grow o1 w1 w3=o3 at *;refine ay ?_;refine dA bS mJ rfl ak ak ?_ rfl (R:=λwl aX=>aX=(wl.setCell ⟨w1.heap.size,0,we⟩ (.string x)).setCell ⟨w1.heap.size,1,we⟩ (.string t)) (λwl aW=>⟨_,?_,rfl⟩) λwl aX w4 aW BJ bP=>?_
  ·refine jF ?_ ?_
   ·exact bX oA
   ·refine fW (vs:=[_,_]) (λx hx=>?_);simp at hx;rcases hx with rfl|rfl
    ·exact bQ
    ·exact bQ
  ·obtain⟨e0,e1,f0,f1⟩:=dY ((aW.heap _ oA).trans sF)
   first
   | (simp[go_sem,e0,e1,f0,f1];done)
   | (simp[go_sem,e0,e1,f0,f1];rfl)
  have hO:eM w1.heap.size wl aX:=by rw[BJ];exact AQ _ _ _ _ _ _
  obtain⟨vC,kA,ey⟩:=bP.only aW oA hO;have rn:=bP.aH;rw[ey]at rn |-;rw[BJ,Uh ((aW.heap _ oA).trans sF)]at kA;have G4:=G3.wrote (ah _) rn vC;clear BJ bP aW hO wl aX ey vC sF z3 k3 mJ G3;generalize w1.heap.size=A at *;refine ay ?_;have Pu:(fs.take k).length=k:=eP;have hkc:k<=c:=aa;have ajH:(k:Int)<=(c:Int):=aa;have hcut:=λw1 es=>Nj (P:=ax) w1 es 37 44 b k fs.length c underlying37 hkc;refine dH mixed ai [so we,so we,so we,so we,so (so (.string x)),so (so (.bool false))]
   (S:=λσ o' w'=>fE o3 w4 o' w') (fE.refl rn) λv9=>?_
  refine dN ?_;refine cq ?_;refine dsP (λσ o' w' H hS=>?_) ?_
  ·exact sR hS.br.aH (hS.br.more _ oA) ((cell_of (hS.br.same _ (rn.lt oA) id)).trans (dY kA).1)
  refine cq ?_;refine jO rfl rfl ak rfl func69 ai rfl (av:=#[.slice (so ⟨b,0,we⟩) k c,.string x]) aK (λσ o' w' H hS=>?_) ?_
  ·have hGG:=G.trans (G4.trans hS);have hh:=Rg (Fin:=Fin) hS.br.aH b c (so ⟨b,0,we⟩) (fs.take k) x aa (λ_=>⟨rfl,(at_ hGG k hk).1⟩) (λj hj=>by
    have sg:j<fs.length:=aa;have:=(at_ hGG j sg).2;simpa using this) (dW (at_ hGG k hk).1) HH
   rw[Pu]at hh;refine hh.mono ?_;rintro y o10 w10 ⟨rfl,N10⟩;exact⟨rfl,hS.trans (fE.dJ N10)⟩
  refine cq ?_;refine cu λσ o10 w10 lP hS=>?_;clear lP;have G5:=G4.trans hS;simp only[ij,dz,if_true,if_false,reduceIte,Nat.reduceEqDiff];refine ay ?_;exact⟨m-1,aa,k+1,aa,dR,dR,aK,aK,aK,by simp[Act.eval,Eu],G.trans G5⟩
 rintro a o9 w9 ⟨fy,kN,i0,G9⟩;obtain⟨gs,rfl⟩:=il fy kN;clear fy kN;simp only[List.range,List.range.loop,aC,aP]at i0 |-;simp[Act.eval]at i0;simp only[i0];clear i0;refine BK W (λa o' w'=>a.tmps.size=48/\a.defers=[]/\a.eval (.tmp 0)=.slice p fs.length c/\fE o w o' w') ?_ ?_
 ·refine ay ?_;refine gT W (λm a o' w'=>∃k,m+k=fs.length/\a.tmps.size=48/\a.defers=[]/\a.eval (.tmp 0)=.slice p fs.length c/\a.eval (.tmp 37)=.slice p fs.length c/\a.eval (.tmp 38)=.int .i64 fs.length/\a.eval (.tmp 39)=.int .i64 k/\fE o w o' w') (N:=fs.length) ⟨0,ar,rfl,rfl,aK,aK,aK,aK,G9⟩ ?_;rintro m a o1 w1 ⟨k,HO,fy,kN,i0,i1,i2,i3,G⟩;obtain⟨gs,rfl⟩:=il fy kN;clear fy kN;simp only[List.range,List.range.loop,aC,aP]at i0 i1 i2 i3 |-;simp[Act.eval]at i0 i1 i2 i3;simp only[i0,i1,i2,i3];clear i0 i1 i2 i3;by_cases hk:k<fs.length;rotate_left
  ·have R1:¬(k:Int)<(fs.length:Int):=aa;refine ay ?_;exact⟨dR,dR,aK,G⟩
  have R1:(k:Int)<(fs.length:Int):=aa;have Eu:IntKind.i64.wrap ((k:Int)+1)=((k+1:Nat):Int):=by rw[IntKind.wrap_i64]<;>omega
  obtain⟨ob,c0,c1⟩:=at_ G k hk;have hm:=aG hk;have A7:=ok.name _ hm;have Jw:=ok.text _ hm;have HH:∀f∈fs.take k,f.1≠fs[k].1:=λf VG e=>by
   obtain⟨j,hj,rfl⟩:=a8 VG;rw[gb]at e;have sg:j<k:=by simp at hj;omega
   have:=aaj.1 ok.once j k eP eP sg;simp at this;exact this e
  obtain⟨e1,-⟩:=hp (nlt hk);subst e1;have lz:=G.br.aH;rcases Sp:fs[k] with⟨x,t⟩;rw[Sp]at c0 c1 A7 Jw HH;simp only at c0 c1 A7 Jw HH;clear Sp hm;refine ay ?_;refine dK bS lz rfl ak ak ?_ rfl (v:=.agg #[.string x,.string t]) (λwl aW=>by simp[go_sem,(aW.cell ob).trans c0,(aW.cell ob).trans c1]) λ_=>?_
  ·exact mo (bX ob)
  refine ay ?_;refine dm bS lz rfl ak ak nf rfl (R:=λwl v aX=>v=.pointer (so ⟨wl.heap.size,0,we⟩)/\aX=wl.alloc (Obj.cells #[.string aR,.string aR] 44)) (λwl aW=>⟨_,_,by first|(simp[go_sem];done)|(simp[go_sem];rfl),rfl,rfl⟩) λwl v1 aX w3 aW oo bP=>?_;obtain⟨rfl,oo⟩:=oo;obtain⟨z3,k3,sF⟩:=bP.alloc lz aW oo;have G3:=fE.pW bP.aH aa k3;obtain⟨-,oA⟩:=bC.rC bP.aH z3 k3;have mJ:=bP.aH;rw[aW.size];clear oo bP aW wl aX;generalize Go.Ren.grow o1 w1 w3=o3 at *;refine ay ?_;refine dA bS mJ rfl ak ak ?_ rfl (R:=λwl aX=>aX=(wl.setCell ⟨w1.heap.size,0,we⟩ (.string x)).setCell ⟨w1.heap.size,1,we⟩ (.string t)) (λwl aW=>⟨_,?_,rfl⟩) λwl aX w4 aW BJ bP=>?_
  ·refine jF ?_ ?_
   ·exact bX oA
   ·refine fW (vs:=[_,_]) (λx hx=>?_);simp at hx;rcases hx with rfl|rfl
    ·exact bQ
    ·exact bQ
  ·obtain⟨e0,e1,f0,f1⟩:=dY ((aW.heap _ oA).trans sF)
   first
   | (simp[go_sem,e0,e1,f0,f1];done)
   | (simp[go_sem,e0,e1,f0,f1];rfl)
  have hO:eM w1.heap.size wl aX:=by rw[BJ];exact AQ _ _ _ _ _ _
  obtain⟨vC,kA,ey⟩:=bP.only aW oA hO;have rn:=bP.aH;rw[ey]at rn |-;rw[BJ,Uh ((aW.heap _ oA).trans sF)]at kA;have G4:=G3.wrote (ah _) rn vC;clear BJ bP aW hO wl aX ey vC sF z3 k3 mJ G3;generalize w1.heap.size=A at *;refine ay ?_;refine jJ rn oA (dY kA).2.1 λ_=>?_;refine ay ?_;refine b5 func70 (Us rn t) ?_;rintro v5 o5 w5 ⟨rfl,N5⟩;have htI:((t.size:Int)<=12):=aa;rw[cW htI];have G5:=G4.trans (fE.dJ N5);refine ay ?_;exact⟨m-1,aa,k+1,aa,dR,dR,aK,aK,aK,by simp[Act.eval,Eu],G.trans G5⟩
 rintro a o9 w9 ⟨fy,kN,i0,G9⟩;obtain⟨gs,rfl⟩:=il fy kN;clear fy kN;simp only[List.range,List.range.loop,aC,aP]at i0 |-;simp[Act.eval]at i0;simp only[i0];clear i0;refine ay ?_;exact⟨.inr trivial,trivial,_,resultsC_tmp (t:=2) ak _,aK,G9⟩
end
open Go.ConcR (Payload)
section
variable {Fin:bL}{o o' o1 o2:aM}{w w' w1 w2:ae}
def Np(hF:bO ax L0 o w)(sb sc b c:Nat)(sp p:Option Addr)(cZ:List af)(fs:List (af×af))(h1:cZ.length<=1000)(h2:fs.length<=1000)(vJ:cZ≠[]->sp=so ⟨sb,0,we⟩/\o sb)(hs:eN w sb 0 cZ)(Pr:Cl ax L0 o (.slice sp cZ.length sc))(hp:fs≠[]->p=so ⟨b,0,we⟩/\o b)(hf:lQ w b fs)(hc:Cl ax L0 o (.slice p fs.length c)):
  bA ax (XB ax Fin 0) 43 #[.slice sp cZ.length sc,.slice p fs.length c] o w λv o' w'=>v=.slice (so ⟨w.heap.size,0,we⟩) cZ.length cZ.length/\fT o w v o' w'/\w.heap.size<w'.heap.size/\w'.rowIs w.heap.size 159 (cZ.length*2) (ef (kP cZ fs)):=by
 refine bA.mono (ek ai hF (λy hy=>by simp at hy;rcases hy with rfl|rfl;exact Pr;exact hc) (Q:=λwl v w'=>v=.slice (so ⟨wl.heap.size,0,we⟩) cZ.length cZ.length/\wl.heap.size<w'.heap.size/\w'.rowIs wl.heap.size 159 (cZ.length*2) (ef (kP cZ fs))) (λwl AP v w1 w2 e1 e2 h=>?_) (λwl hz aW=>?_)) (λv o' w' hq=>?_)
 ·rw[e1,e2];exact⟨h.1,h.2.1,h.2.2.of_block (by rw[e2])⟩
 ·refine(HG sb sc b c sp p cZ fs wl h1 h2 (λq=>⟨(vJ q).1,by rw[hz];exact hF.lt (vJ q).2⟩) (λq=>⟨(hp q).1,by rw[hz];exact hF.lt (hp q).2⟩) (λk hk=>cD hs (aW sb (vJ (nlt hk)).2) k hk) (λk hk=>lI hf (aW b (hp (nlt hk)).2) k hk)).mono λe w' hq=>?_;obtain⟨rfl,hB,TZ,hr⟩:=hq;exact⟨_,rfl,aa,λb hb=>hB.block b hb,rfl,TZ,hr⟩
 ·obtain⟨hN,wl,aX,z1,z2,sL,h1,h2,h3⟩:=hq;rw[z1]at h1 h2 h3;exact⟨h1,hN,aa,h3.of_block (sL _ (ah _) aa)⟩
def bC.low{x:Nat}(h:bC (λ_=>False) o w o1 w1)(k:bC (·=x) o1 w1 o2 w2)(hx:w.heap.size<=x):bC (λ_=>False) o w o2 w2:=by
 have z1:=h.size;have z2:=k.size;exact⟨k.aH,λb hb=>k.more b (h.more b hb),λb hb=>(k.new b hb).elim (λq=>h.new b q) λq=>.inr aa,aa,λb hb hq=>(k.same b aa aa).trans (h.same b hb hq)⟩
structure Yc(rs:List aI)(NM:aI->List af)(RK:af->Nat)(fs:List (af×af))(o:aM)(w:ae)(v:Value)(o':aM)(w':ae):Prop where
 br:bC (λ_=>False) o w o' w'
 ex:∃R B F,v=.tuple #[.slice (so ⟨R,0,we⟩) rs.length rs.length,.int .i64 0]/\fQ rs NM RK B/\jS B.rs B.NM B.RK/\F.b7.Perm B.rs/\(∀i j (hi:i<F.b7.length) (hj:j<F.b7.length),i<j->¬qP F.b7[j] F.b7[i]<0)/\w.heap.size<=R/\o' R/\oT w' R (nB B F (dG fs))
def Yd[Payload](hF:bO ax L0 o w)(pow:jh w){p:Option Addr}{b c:Nat}{rs:List aI}{NM:aI->List af}{NB:aI->Nat}{RK:af->Nat}(hH:Hand o w p b c rs NM NB RK)(fb fc:Nat)(fp:Option Addr)(fs:List (af×af))(hp:fs≠[]->fp=so ⟨fb,0,we⟩/\o fb)(hf:lQ w fb fs)(hc:Cl ax L0 o (.slice fp fs.length fc))(Bf:fs.length<=fc)(ok:yX fs):
  bA ax (XB ax Fin 0) 16 #[.slice p rs.length c,.slice fp fs.length fc] o w λv o' w'=>Yc rs NM RK fs o w v o' w':=by
 have W:=bY (P:=ax) (Fin:=Fin) (d:=0);have g4:ax.globals.size=4:=ai;have hz4:4<=w.heap.size:=by have:=hF.size;rw[g4]at this;omega
 have l1:=hF.lt (UU hF);have fat:∀{o1:aM} {w1:ae},bC (λ_=>False) o w o1 w1->(fs≠[]->fp=so ⟨fb,0,we⟩/\o1 fb)/\lQ w1 fb fs/\Cl ax L0 o1 (.slice fp fs.length fc):=λG =>
  ⟨λq=>⟨(hp q).1,G.more _ (hp q).2⟩,λk hk=>lI hf (G.same fb (hF.lt (hp (nlt hk)).2) id) k hk,hc.up G.more⟩
 have hfo:∀g,oX rs NM NB b g->g<w.heap.size:=λg hg=>by
  rcases hg with⟨q,rfl⟩|⟨r,hr,q,rfl⟩
  ·exact hF.lt (hH.ptr q).2
  ·exact hF.lt ((hH.nm r hr).2.1 q).2
 have mG:∀x,(dG fs x).2.size<=100:=λx=>by
  have:=AX ok.text x;omega
 refine bD W func16 ak ?_;walk_nrmf Tryz.f16;refine ay ?_;refine b5 func39 (OG hF hH) ?_;rintro v1 o1 w1 ⟨rfl,N1⟩;have W1:bC (λ_=>False) o w o1 w1:=bC.dJ N1;have z1:=W1.size;obtain⟨hp1,hf1,Wu⟩:=fat W1;refine ay ?_;refine b5 func40 (Rh N1.aH fb fc fp fs hp1 hf1 Wu Bf ok) ?_;rintro v2 o2 w2 ⟨rfl,G2⟩;have W2:bC (λ_=>False) o w o2 w2:=W1.trans G2.br;have z2:=W2.size;have hH2:=hH.keep W2.more λg hg=>W2.same g (hfo g hg) id;clear G2 hp1 hf1 Wu W1 N1 z1;refine ay ?_;refine b5 func41 (UI W2.aH hH2) ?_;rintro v3 o3 w3 ⟨N3,B3⟩;have W3:bC (λ_=>False) o2 w2 o3 w3:=bC.dJ N3;have Ev:=W2.trans W3;have akH:jh w3:=λq hq=>(cell_of (Ev.same 1 l1 id)).trans (pow q hq);obtain⟨B,rfl,hB,KD,uT,VV,hbz⟩:=AY (RK:=RK) N3.aH (show 4<=w2.heap.size by omega) (λb q1 q2=>by rw[N3.own];exact .inr ⟨q1,q2⟩) hH.gF hH.yes hH.low (λr hr=>(hH.nm r hr).2.2.2) akH B3;have JP:w2.heap.size<=B.Rb:=by
  rcases uT B.Rb (.inr (.inr (.inl rfl)))with q|q
  ·have:=hB.apart.2.2.2.1;omega
  ·exact q.1
 have arV:B.Rb<w3.heap.size:=hB.own _ (.inr (.inr (.inl rfl)))|>N3.aH.lt
 clear B3 N3 W3 W2 hH2 uT;refine ay ?_;refine b5 func44 (FN Ev.aH B we _ hB) ?_;rintro v4 o4 w4 ⟨W4,⟨lo,F,mid,hB4,zb,akI,hfm,hsm⟩,afP,hT4,Zw⟩;have Ae:=Ev.low W4 aa;have z4:=W4.size;have akJ:=Ko hB4;obtain⟨sp,sb,sc,rfl,vJ,eH⟩:∃sp sb sc,v4=.slice sp (dZ B.NM B.rs).length sc/\(dZ B.NM B.rs≠[]->sp=so ⟨sb,0,we⟩/\o4 sb)/\eN w4 sb 0 (dZ B.NM B.rs):=by
  rcases hT4 with⟨e1,e2⟩|⟨g,cap,e1,-,-,-,e5⟩
  ·exact⟨we,0,0,by rw[e1,e2];rfl,λq=>absurd e2 q,by rw[e2];exact λk hk=>by simp at hk⟩
  ·exact⟨_,g,cap,e1,λ_=>⟨rfl,Zw _ _ _ e1⟩,e5⟩
 obtain⟨hp4,X5,hc4⟩:=fat Ae;clear hT4 Zw hsm hfm akI zb hB Ev;refine ay ?_;refine b5 func43 (Np Ae.aH sb sc fb fc sp fp (dZ B.NM B.rs) fs akJ (by have:=ok.gF;omega) vJ eH afP hp4 X5 hc4) ?_;rintro v5 o5 w5 ⟨rfl,N5,hz5,Jv⟩;have afQ:kP (dZ B.NM B.rs) fs=(dZ B.NM B.rs).map (dG fs):=No (oO _).1 ok.once;have hV:eZ w5 w4.heap.size ((dZ B.NM B.rs).map (dG fs)):=by
  unfold eZ;rw[<- afQ,DT];exact Jv
 have W5:bC (λ_=>False) o4 w4 o5 w5:=bC.dJ N5;have OR:=Ae.trans W5;have XO:=hB4.keep W5.more W5.size λg hg=>N5.old g (Ae.aH.lt (hB4.own g hg));have oV:o5 w4.heap.size:=by rw[N5.own];exact .inr ⟨ah _,hz5⟩
 clear hB4 hp4 X5 hc4 Jv afQ eH vJ afP N5;refine ay ?_;refine b5 func42 (Ou OR.aH B lo F (λ_=>we) XO (dG fs) mG w4.heap.size (dZ B.NM B.rs).length oV aa hV ar) ?_;rintro v6 o6 w6 ⟨R,rv,gK,rfl,W6,hB6,-,⟨hRz,oR,cp⟩,-⟩;have V5:=OR.low W6 aa;have z5:=W5.size;obtain⟨y0,y1,y2,-,Bo⟩:=hB6.blk;have hP:=Bo lo F rfl;have hlen:=KD.len;refine ay ?_;exact⟨.inr trivial,trivial,_,resultsC_tmp2 (t:=4) (u:=5) ak _,V5,R,B,F,by simp[Act.eval,hlen],KD,hB6.right,hP.perm,hP.sorted,aa,oR,OD cp⟩
end
structure abG(rs:List aI)(NM:aI->List af)(DU:List aI)(Ye:aI->List af):Prop where
 len:DU.length=rs.length
 at_:∀i (h:i<rs.length) (h':i<DU.length),DU[i].out=rs[i].out/\DU[i].eO=rs[i].eO/\Ye DU[i]=NM rs[i]
def F6(q:af->Bool):∀(us bs:List aI) (hl:bs.length=us.length) (h:∀i (h:i<us.length) (h':i<bs.length),bs[i].out=us[i].out),(us.find? (λr=>q r.out)=we/\bs.find? (λr=>q r.out)=we)\/∃i,∃(h:i<us.length) (h':i<bs.length),us.find? (λr=>q r.out)=so us[i]/\bs.find? (λr=>q r.out)=so bs[i]
 | [],[],_,_=>.inl ⟨rfl,rfl⟩
 | [],_::_,hl,_=>by simp at hl
 |_::_,[],hl,_=>by simp at hl
 |a::us,b::bs,hl,h=>by
  have e0:b.out=a.out:=h 0 ar ar;by_cases hq:q a.out=true
  ·exact .inr ⟨0,ar,ar,by simp[List.find?,hq],by simp[List.find?,e0,hq]⟩
  ·have Bs:q a.out=false:=by simpa using hq
   rcases F6 q us bs (by simpa using hl) (λi h1 h2=>h (i+1) (by simpa using h1) (by simpa using h2)) with⟨h1,h2⟩|⟨i,h1,h2,h3,h4⟩
   ·exact .inl ⟨by simp[List.find?,Bs];simpa using h1,by simp[List.find?,e0,Bs];simpa using h2⟩
   ·exact .inr ⟨i+1,by simpa using h1,by simpa using h2,by simp[List.find?,Bs,h3],by simp[List.find?,e0,Bs,h4]⟩
def F7{rs DU:List aI}{NM Ye:aI->List af}(h:abG rs NM DU Ye)(file:af->V):∀f x,qy DU Ye file f x=qy rs NM file f x
 |0,_=>rfl
 |f+1,x=>by
  unfold qy;rcases F6 (λy=>decide (y=x)) rs DU h.len (λi h1 h2=>(h.at_ i h1 h2).1) with⟨h1,h2⟩|⟨i,h1,h2,h3,h4⟩
  ·rw[h1,h2]
  ·rw[h3,h4];obtain⟨-,e2,e3⟩:=h.at_ i h1 h2;show iV DU[i].eO ((Ye DU[i]).map (qy DU Ye file f))=iV rs[i].eO ((NM rs[i]).map (qy rs NM file f));rw[e2,e3]
   congr 1
   exact bG λy _=>F7 h file f y
def xr{rs DU:List aI}{NM Ye:aI->List af}(h:abG rs NM DU Ye)(file:af->V)(x:af):valOf DU Ye file x=valOf rs NM file x:=by
 unfold valOf;rw[h.len];exact F7 h file _ x
def fQ.BP{rs:List aI}{NM:aI->List af}{RK:af->Nat}{B:uO}(h:fQ rs NM RK B):abG rs NM B.rs B.NM:=⟨h.len,h.at_⟩
structure ly(B:uO)(F:cT):Prop where
 right:jS B.rs B.NM B.RK
 perm:F.b7.Perm B.rs
 sorted:∀i j (hi:i<F.b7.length) (hj:j<F.b7.length),i<j->¬qP F.b7[j] F.b7[i]<0
def ly.strict{B:uO}{F:cT}(h:ly B F):lO (F.b7.map (·.out)):=uN (((h.perm.map (·.out)).nodup_iff).2 h.right.nodup) h.sorted
def ly.mem{B:uO}{F:cT}(h:ly B F)(x:af):x∈F.b7.map (·.out)↔x∈B.rs.map (·.out):=(h.perm.map (·.out)).mem_iff
def rD{B:uO}{F:cT}(h:ly B F)(file:af->V):nB B F file=(F.b7.map (·.out)).map λx=>(x,valOf B.rs B.NM file x):=by
 have hl:=h.perm.length_eq;unfold nB lv;rw[<- hl];apply fY;intro i;by_cases hi:i<F.b7.length
 ·simp[hi,lX]
 ·simp[hi]
def Ri{rs:List aI}{NM:aI->List af}{RK:af->Nat}{B B2:uO}{F F2:cT}(h:ly B F)(h2:ly B2 F2)(k:fQ rs NM RK B)(k2:fQ rs NM RK B2)(file:af->V):nB B F file=nB B2 F2 file:=by
 rw[rD h,rD h2];have e:F.b7.map (·.out)=F2.b7.map (·.out):=rL h.strict h2.strict λx=>by
  rw[h.mem,h2.mem,k.outs,k2.outs]
 rw[e];exact bG λx _=>by rw[xr k.BP,xr k2.BP]
def An{rs:List aI}{NM:aI->List af}{file lK:af->V}(h:∀x∈dZ NM rs,file x=lK x):∀f x,(x∈rs.map (·.out)\/x∈dZ NM rs)->qy rs NM file f x=qy rs NM lK f x
 |0,_,_=>rfl
 |f+1,x,hx=>by
  unfold qy;cases hq:rs.find? (λr=>decide (r.out=x)) with
  |none =>
   have Ha:x∉rs.map (·.out):=λq=>by
    obtain⟨r,hr,e⟩:=aag.1 q;have:=List.find?_eq_none.1 hq r hr;simp[e]at this
   exact h x (hx.resolve_left Ha)
  |some r =>
   have hr:=jH hq;show iV r.eO ((NM r).map (qy rs NM file f))=iV r.eO ((NM r).map (qy rs NM lK f))
   congr 1
   refine bG λy hy=>An h f y ?_;by_cases q:y∈rs.map (·.out)
   ·exact .inl q
   ·exact .inr (qx.2 ⟨r,hr,hy,q⟩)
def Ao{B:uO}{F:cT}(h:ly B F){file lK:af->V}(e:∀x∈dZ B.NM B.rs,file x=lK x):nB B F file=nB B F lK:=by
 rw[rD h,rD h];refine bG λx hx=>?_;rw[show valOf B.rs B.NM file x=valOf B.rs B.NM lK x from An e _ x (.inl ((h.mem x).1 hx))]
def Yf(d:Nat)(a b:Int)(w:ae)(es:Array Event):(Op.equalIn (d+1) 3 (.int .i64 a) (.int .i64 b)).events ax w es=es:=by
 simp[Op.equalIn,go_sem,Sem.events_bind,events_underlying]
def Yg(e:Nat)(w:ae)(es:Array Event)(a c:Int)(b d:af):(Op.equalIn (e+2) 32 (.agg #[.int .i64 a,.string b]) (.agg #[.int .i64 c,.string d])).events ax w es=es:=by
 rw[Op.equalIn];simp[go_sem,Sem.events_bind,Yf,xh]
def F9(b d:af):b.toList=d.toList↔b=d:=by
 rw[ByteArray.toList_eq,ByteArray.toList_eq];constructor
 ·intro h;obtain⟨⟨x⟩⟩:=b;obtain⟨⟨y⟩⟩:=d;have h:x=y:=h;rw[h]
 ·rintro rfl;rfl
def KN(w:ae)(a c:Int)(b d:af):(binOp .neq 32 (.agg #[.int .i64 a,.string b]) (.agg #[.int .i64 c,.string d])).run ax w=.ok (.bool (!decide ((a,b)=(c,d)))) w:=by
 simp[go_sem,F9];by_cases h1:a=c<;>by_cases h2:b=d<;>simp[h1,h2]
def KO(w:ae)(es:Array Event)(a c:Int)(b d:af):(binOp .neq 32 (.agg #[.int .i64 a,.string b]) (.agg #[.int .i64 c,.string d])).events ax w es=es:=by
 simp only[binOp];simp[Op.equal,Op.maxDepth,Sem.events_bind,Yg 9998]
def EZ(op:BinOp)(x y:Operand)(xs ys:Array Value)(w:ae)(es:Array Event):(eqGuard op 32 x y (.agg xs) (.agg ys)).events ax w es=es:=by
 cases op<;>simp[eqGuard,run_program,Sem.events_bind,show ax.eqGuardType ax.depth 32=false by kernel_rfl]
section
def Yh(e:Nat)(w:ae)(es:Array Event)(a b d f:af)(c g:Bool):(Op.equalIn (e+2) 65 (.agg #[.string a,.string b,.bool c]) (.agg #[.string d,.string f,.bool g])).events ax w es=es:=by
 rw[Op.equalIn];simp[go_sem,Sem.events_bind,Jz,xh]
def vd(w:ae)(a b d f:af)(c g:Bool):(binOp .neq 65 (.agg #[.string a,.string b,.bool c]) (.agg #[.string d,.string f,.bool g])).run ax w=.ok (.bool (!decide ((a,b,c)=(d,f,g)))) w:=by
 simp[go_sem,F9];by_cases h1:a=d<;>by_cases h2:b=f<;>by_cases h3:c=g<;>simp[h1,h2,h3]
def ve(w:ae)(es:Array Event)(a b d f:af)(c g:Bool):(binOp .neq 65 (.agg #[.string a,.string b,.bool c]) (.agg #[.string d,.string f,.bool g])).events ax w es=es:=by
 simp only[binOp];simp[Op.equal,Op.maxDepth,Sem.events_bind,Yh 9998]
def rR(op:BinOp)(x y:Operand)(xs ys:Array Value)(w:ae)(es:Array Event):(eqGuard op 65 x y (.agg xs) (.agg ys)).events ax w es=es:=by
 cases op<;>simp[eqGuard,run_program,Sem.events_bind,show ax.eqGuardType ax.depth 65=false by kernel_rfl]
end
section
variable {Fin:bL}{o o':aM}{w w':ae}
def Vq(hF:bO ax L0 o w)(ba bb ca cb:Nat)(pa pb:Option Addr)(ra rb:List (af×V))(na:ra.length<=1000)(nb:rb.length<=1000)(E0:ra≠[]->pa=so ⟨ba,0,we⟩/\o ba)(hpb:rb≠[]->pb=so ⟨bb,0,we⟩/\o bb)(ha:oT w ba ra)(hb:oT w bb rb):
  bA ax (XB ax Fin 0) 17 #[.slice pa ra.length ca,.slice pb rb.length cb] o w λv o' w'=>v=.bool (decide (ra=rb))/\fE o w o' w':=by
 have W:=bY (P:=ax) (Fin:=Fin) (d:=0);refine bD W func17 ak ?_;walk_nrmf Tryz.f17;by_cases hl:ra.length=rb.length;rotate_left
 ·have dE:decide (ra=rb)=false:=dq λe=>hl (by rw[e]);have hlI:¬ra.length=rb.length:=hl;clear hl;generalize ra.length=nra at *;generalize rb.length=nrb at *;refine ay ?_;refine je W (t:=true) (by simp[Act.eval];omega) ?_;simp only[if_true];refine ay ?_;exact⟨.inr trivial,trivial,_,resultsC_tmp (t:=4) ak _,by simp[Act.eval,dE],fE.refl hF⟩
 rw[<- hl];have Ny:=hl.symm;clear hl;refine ay ?_;refine gT W (λm a o' w'=>∃k,m+k=ra.length/\a.tmps.size=26/\a.defers=[]/\a.eval (.tmp 0)=.slice pa ra.length ca/\a.eval (.tmp 1)=.slice pb ra.length cb/\a.eval (.tmp 5)=.int .i64 k/\ra.take k=rb.take k/\fE o w o' w') (N:=ra.length) ⟨0,ar,rfl,rfl,aK,aK,aK,ar,fE.refl hF⟩ ?_;rintro m a o1 w1 ⟨k,HO,fy,kN,i0,i1,i5,hek,G⟩;obtain⟨gs,rfl⟩:=il fy kN;clear fy kN;simp only[List.range,List.range.loop,aC,aP]at i0 i1 i5 |-;simp[Act.eval]at i0 i1 i5;simp only[i0,i1,i5];clear i0 i1 i5;by_cases hk:k<ra.length;rotate_left
 ·have R1:¬(k:Int)<(ra.length:Int):=aa;have heq:decide (ra=rb)=true:=cW (by rw[bV aa,bV aa]at hek;exact hek);clear hek;refine ay ?_;exact⟨.inr trivial,trivial,_,resultsC_tmp (t:=4) ak _,by simp[Act.eval,heq],G⟩
 have R1:(k:Int)<(ra.length:Int):=aa;have hkb:k<rb.length:=aa;have Eu:IntKind.i64.wrap ((k:Int)+1)=((k+1:Nat):Int):=by rw[IntKind.wrap_i64]<;>omega
 obtain⟨e1,oa⟩:=E0 (nlt hk);obtain⟨e2,ob⟩:=hpb (nlt hkb);subst e1 e2;have oa1:=G.br.more _ oa;have Yi:=G.br.more _ ob;have ea:=G.br.same ba (hF.lt oa) id;have eb:=G.br.same bb (hF.lt ob) id;obtain⟨a0,a1,a2⟩:=ha k hk;obtain⟨b0,b1,b2⟩:=hb k hkb;have a0':=(cell_of ea).trans a0;have a1':=(cell_of ea).trans a1;have a2':=(cell_of ea).trans a2;have b0':=(cell_of eb).trans b0;have b1':=(cell_of eb).trans b1;have b2':=(cell_of eb).trans b2;have lz:=G.br.aH;have YJ:=take_succ ra k hk;have htb:=take_succ rb k hkb;have abH:ra[k]≠rb[k]->decide (ra=rb)=false:=λq=>dq λe=>q (by subst e;rfl);rcases K6:ra[k] with⟨x1,xb,xt⟩;rcases hrb:rb[k] with⟨y1,yb,yt⟩;rw[K6]at a0' a1' a2' YJ abH;rw[hrb]at b0' b1' b2' htb abH;simp only at a0' a1' a2' b0' b1' b2';clear a0 a1 a2 b0 b1 b2 K6 hrb ha hb E0 hpb;refine ay ?_;refine dH mixed ai [so we,so we,so we,so (so (.agg #[.string x1,.string xt,.bool (!xb)])),so we,so we,so we,so (so (.agg #[.string y1,.string yt,.bool (!yb)])),so we]
  (S:=λσ o' w'=>o1=o'/\w1=w') ⟨rfl,rfl⟩ λv9=>?_
 refine dN ?_;refine cq ?_;refine dsP (λσ o' w' H hS=>?_) ?_
 ·obtain⟨rfl,rfl⟩:=hS;exact⟨lz,mo (bX oa1),λwl aW=>by simp[go_sem,(aW.cell oa1).trans a0',(aW.cell oa1).trans a1',(aW.cell oa1).trans a2']⟩
 refine cq ?_;refine dsP (λσ o' w' H hS=>?_) ?_
 ·obtain⟨rfl,rfl⟩:=hS;exact⟨lz,mo (bX Yi),λwl aW=>by simp[go_sem,(aW.cell Yi).trans b0',(aW.cell Yi).trans b1',(aW.cell Yi).trans b2']⟩
 walk_nrm;by_cases heq:((x1,xb,xt):af×V)=(y1,yb,yt)
 ·have h1:x1=y1:=congrArg (·.1) heq;have h2:xb=yb:=congrArg (·.2.1) heq;have h3:xt=yt:=congrArg (·.2.2) heq;subst h1 h2 h3;refine pL (y:=.bool false) rfl rfl rfl ak (λw1=>by simp[go_sem,Act.eval,vd]) (λw1=>by simp[go_sem,Act.eval,ve,rR]) ?_;walk_nrm;refine cu λσ o10 w10 lP hS=>?_;obtain⟨rfl,rfl⟩:=hS;clear lP;simp only[ij,dz,if_true,if_false,reduceIte,Nat.reduceEqDiff];refine ay ?_;exact⟨m-1,aa,k+1,aa,dR,dR,aK,aK,by simp[Act.eval,Eu],by rw[YJ,htb,hek],G⟩
 ·have hn:=abH heq;have hq:¬((x1,xt,!xb)=(y1,yt,!yb)):=λq=>heq (by
   have q1:x1=y1:=congrArg (·.1) q;have q2:xt=yt:=congrArg (·.2.1) q;have q3:(!xb)=(!yb):=congrArg (·.2.2) q;have q4:xb=yb:=by cases xb<;>cases yb<;>simp at q3<;>rfl
   rw[q1,q2,q4])
  refine pL (y:=.bool true) rfl rfl rfl ak (λw1=>?_) (λw1=>by simp[go_sem,Act.eval,ve,rR]) ?_
  ·have:=vd w1 x1 xt y1 yt (!xb) (!yb);rw[dq hq]at this;simpa[go_sem,Act.eval] using this
  walk_nrm;refine cu λσ o10 w10 lP hS=>?_;obtain⟨rfl,rfl⟩:=hS;clear lP;simp only[ij,dz,if_true,if_false,reduceIte,Nat.reduceEqDiff];refine ay ?_;exact⟨.inr trivial,trivial,_,resultsC_tmp (t:=4) ak _,by simp[Act.eval,hn],G⟩
structure py(rs:List aI)(NM:aI->List af)(RK:af->Nat)(fs:List (af×af))(l:List (af×V)):Prop where
 ex:∃B F,ly B F/\fQ rs NM RK B/\l=nB B F (dG fs)
def py.one{rs:List aI}{NM:aI->List af}{RK:af->Nat}{fs:List (af×af)}{l l2:List (af×V)}(h:py rs NM RK fs l)(k:py rs NM RK fs l2):l=l2:=by
 obtain⟨B,F,h1,h2,rfl⟩:=h.ex;obtain⟨B2,F2,k1,k2,rfl⟩:=k.ex;exact Ri h1 k1 h2 k2 _
def py.len{rs:List aI}{NM:aI->List af}{RK:af->Nat}{fs:List (af×af)}{l:List (af×V)}(h:py rs NM RK fs l):l.length=rs.length:=by
 obtain⟨B,F,h1,h2,rfl⟩:=h.ex;simp[nB,h2.len]
def KP[Payload](hF:bO ax L0 o w)(pow:jh w)(S:Nat)(kv fv:Value)(ed:Int){rp:Option Addr}{rb rc:Nat}{rs:List aI}{NM:aI->List af}{NB:aI->Nat}{RK:af->Nat}(hS:w.heap[S]?=so (.cells #[kv,.slice rp rs.length rc,fv,.int .i64 ed] 39))(oS:o S)(hH:Hand o w rp rb rc rs NM NB RK)(fb fc:Nat)(fp:Option Addr)(fs:List (af×af))(hp:fs≠[]->fp=so ⟨fb,0,we⟩/\o fb)(hf:lQ w fb fs)(hc:Cl ax L0 o (.slice fp fs.length fc))(Bf:fs.length<=fc)(ok:yX fs)(ba ca:Nat)(pa:Option Addr)(ra:List (af×V))(na:ra.length<=1000)(E0:ra≠[]->pa=so ⟨ba,0,we⟩/\o ba)(ha:oT w ba ra):
  bA ax (XB ax Fin 0) 25 #[.pointer (so ⟨S,0,we⟩),.slice pa ra.length ca,.slice fp fs.length fc] o w λv o' w'=>bC (λ_=>False) o w o' w'/\∃l,py rs NM RK fs l/\v=.bool (decide (ra=l)):=by
 have W:=bY (P:=ax) (Fin:=Fin) (d:=0);have vU:=hH.gF;refine bD W func25 ak ?_;walk_nrmf Tryz.f25;refine ay ?_;refine jJ hF oS (nW hS).2.1 λ_=>?_;refine ay ?_;refine b5 func16 (Yd hF pow hH fb fc fp fs hp hf hc Bf ok) ?_;rintro v1 o1 w1 hq;have W1:=hq.br;obtain⟨R,B,F,rfl,KD,hRR,Fx,Zx,hRz,oR,tF⟩:=hq.ex;have hM:py rs NM RK fs (nB B F (dG fs)):=⟨B,F,⟨hRR,Fx,Zx⟩,KD,rfl⟩;have hlen:=hM.len.symm;generalize nB B F (dG fs)=l at *;clear hq KD hRR Fx Zx;rw[hlen];refine ay ?_;refine b5 func17 (Vq W1.aH ba R ca l.length pa (so ⟨R,0,we⟩) ra l na aa (λq=>⟨(E0 q).1,W1.more _ (E0 q).2⟩) (λ_=>⟨rfl,oR⟩) (λi hi=>?_) tF) ?_
 ·have e:=W1.same ba (hF.lt (E0 (nlt hi)).2) id;exact⟨(cell_of e).trans (ha i hi).1,(cell_of e).trans (ha i hi).2.1,(cell_of e).trans (ha i hi).2.2⟩
 rintro v2 o2 w2 ⟨rfl,G2⟩;refine ay ?_;exact⟨.inr trivial,trivial,_,resultsC_tmp (t:=6) ak _,W1.trans G2.br,l,hM,aK⟩
end
section
variable {s:fO}
def fO.told(s:fO):Bool:=decide (0<s.qn.length)||s.lost
def ny:s.told=true↔(0<s.qn.length\/s.lost=true):=by simp[fO.told]
end
section
variable {K:mK}{s s2:fO}{fs Nh:List (af×af)}{ed Ni cnt:Nat}{kd a b n:Int}{y:af}{rs:List aI}{NM:aI->List af}{RK:af->Nat}
def Ap(g:af->V):∀(ks:List af) (x:af),x∈ks->fileOf ks (ks.map g) x=g x
 | [],_,h=>by cases h
 |k::ks,x,h=>by
  unfold fileOf;by_cases e:x=k
  ·subst e;simp
  ·simp only[aC];rw[if_neg e];exact Ap g ks x ((bM.1 h).resolve_left e)
structure Told(K:mK)(rs:List aI)(NM:aI->List af)(RK:af->Nat)(s:fO)(ed cnt:Nat):Prop where
 none:ed=0->s.phase=0/\¬s.told=true/\s.num=0/\s.res=[]
 read:s.phase=2\/s.phase=3->¬s.told=true->s.rd.map (·.1)=(s.src.take s.rd.length).map (dG s.th)
 Vr:0<ed->s.phase=0->¬s.told=true->py rs NM RK s.th s.res/\0<s.num
 num:0<=s.num/\s.num<=cnt
def vf(s:fO)(x:af)(th:List (af×af))(st:List (af×Int))(qv:Value)(hs:Sound K s):fO.told {s with th:=th,st:=st,qv:=qv,qn:=(iw s.qn s.lost x).1,lost:=(iw s.qn s.lost x).2}=true:=by
 obtain⟨-,-,-,-,q5,-⟩:=DH (x:=x) hs.once hs.lost;refine ny.2 ?_;rcases q5 with q|q
 ·exact .inl (iv q)
 ·exact .inr q
def Told.work{F:cT}{v:Value}(h:Told K rs NM RK s ed cnt)(hs:Sound K s)(IL:fQ rs NM RK K.B)(Bo:s.phase=2\/s.phase=3->ly K.B F)(hc:cnt<4611686018427387904)(hw:gL K s s2 F (fileOf s.src (s.rd.map (·.1))) v):Told K rs NM RK s2 ed (cnt+1):=by
 have Bn:0<=s.num/\s.num<=((cnt+1:Nat):Int):=⟨h.num.1,by have:=h.num.2;omega⟩;have Vh:s.phase≠0\/s.told=true->0<ed:=λq=>by
  rcases bg ed with e|e
  ·obtain⟨h1,h2,-⟩:=h.none e;rcases q with q|q
   ·exact absurd h1 q
   ·exact absurd q h2
  ·exact e
 have FU:∀s1:fO,s1.phase=3->(s.phase=2\/s.phase=3)->s1.told=s.told->s1.rd=s.rd->s1.src=s.src->s1.th=s.th->s1.num=s.num->s.rd.length=s.src.length->Checked K s1 s2 F (fileOf s.src (s.rd.map (·.1))) v->Told K rs NM RK s2 ed (cnt+1):=by
  intro s1 e1 e2 e3 e4 e5 e6 e7 e8 IF;have Nq:=Vh (.inl aa);rcases IF with⟨c1,-,gK,MU,qA,qC,-,rfl⟩|⟨c1,c2,⟨-,-,rfl⟩|⟨-,-,rfl⟩⟩
  ·have zy:IntKind.i64.wrap (s1.num+1)=s1.num+1:=by
    have:=h.num;rw[IntKind.wrap_i64]<;>omega
   refine⟨λq=>aa,λq=>by simp[fO.stand]at q,λ_ _ ht=>⟨⟨K.B,F,Bo e2,IL,?_⟩,?_⟩,?_⟩
   ·show nB K.B F _=nB K.B F (dG s1.th);have ht':¬s.told=true:=by
     rw[<- e3];exact ht
    have hr:=h.read e2 ht';rw[e8,cC]at hr;refine Ao (Bo e2) λx hx=>?_;rw[hr,e6];refine Ap _ _ _ ?_;rw[hs.src e2];exact hx
   ·show 0<IntKind.i64.wrap (s1.num+1);rw[zy,e7];have:=h.num.1;omega
   ·show 0<=IntKind.i64.wrap (s1.num+1)/\IntKind.i64.wrap (s1.num+1)<=_;rw[zy,e7];have:=h.num;omega
  ·exact⟨λq=>aa,λq=>by simp[fO.stand]at q,λ_ q=>by simp[fO.stand]at q,by show 0<=s1.num/\s1.num<=_;rw[e7];exact Bn⟩
  ·refine⟨λq=>aa,λ_ ht=>?_,λ_ q=>by have:s1.phase=0:=q;omega,by show 0<=s1.num/\s1.num<=_;rw[e7];exact Bn⟩;have ht':¬s.told=true:=by
    rw[<- e3];exact ht
   show s1.rd.map (·.1)=(s1.src.take s1.rd.length).map (dG s1.th);rw[e4,e5,e6];exact h.read e2 ht'
 rcases hw with⟨p2,⟨c1,c2⟩|⟨c1,-,La,rfl⟩⟩|⟨p3,c2⟩|⟨n2,n3,hr⟩
 ·exact FU {s with phase:=3} rfl (.inl p2) rfl rfl rfl rfl rfl c1 c2
 ·have Nq:=Vh (.inl aa);refine⟨λq=>aa,λ_ ht=>?_,λ_ q=>by have:s.phase=0:=q;omega,Bn⟩;have hr:=h.read (.inl p2) ht;show(s.rd++[(dG s.th s.src[s.rd.length],cN s.st s.src[s.rd.length])]).map (·.1)=(s.src.take (s.rd++[(dG s.th s.src[s.rd.length],cN s.st s.src[s.rd.length])]).length).map (dG s.th);rw[eY,hr,jy,kV,take_succ s.src s.rd.length c1,eY];rfl
 ·exact FU s p3 (.inr p3) rfl rfl rfl rfl rfl (hs.full p3) c2
 ·rcases hr with⟨ht,-,rfl⟩|⟨ht,hq,-,lo,F',Kn,rfl⟩|⟨-,-,-,rfl⟩
  ·have Nq:=Vh (.inr (ny.2 ht));exact⟨λq=>aa,λq=>by simp[fO.stand]at q,λ_ q=>by simp[fO.stand]at q,Bn⟩
  ·have Nq:=Vh (.inl aa);exact⟨λq=>aa,λ_ _=>by simp[fO.stand],λ_ q=>by simp[fO.stand]at q,Bn⟩
  ·exact⟨h.none,h.read,h.Vr,Bn⟩
def Told.more(h:Told K rs NM RK s ed cnt):Told K rs NM RK s ed (cnt+1):=⟨h.none,h.read,h.Vr,h.num.1,by have:=h.num.2;omega⟩
def Told.tick(h:Told K rs NM RK s ed cnt)(t:Nat):Told K rs NM RK {s with time:=t} ed cnt:=⟨h.none,h.read,h.Vr,h.num⟩
def Told.step(h:Told K rs NM RK s ed cnt)(hs:Sound K s)(IL:fQ rs NM RK K.B)(Bo:∀lo F,s.fd=so (lo,F)->ly K.B F)(hc:cnt<4611686018427387904)(st:DO K kd a b s s2 fs Nh ed Ni n y):Told K rs NM RK s2 Ni (cnt+1):=by
 have Bn:0<=s.num/\s.num<=((cnt+1:Nat):Int):=⟨h.num.1,by have:=h.num.2;omega⟩;rcases st with⟨-,-,-,e,-,rM,rfl⟩|⟨-,-,-,-,⟨-,e,rM,rfl⟩|⟨-,e,rfl⟩⟩|⟨-,-,-,-,e,q⟩|⟨-,-,-,-,e,F,Hk,hw⟩
 ·have ht:=vf s (iI a) (gi s.th (iI a) (qD b)) (gi s.st (iI a) (IntKind.i64.wrap (cN s.st (iI a)+1))) rM hs;exact⟨λq=>aa,λ_ q=>absurd ht q,λ_ _ q=>absurd ht q,Bn⟩
 ·have ht:=vf s (iI a) (lZ s.th (iI a)) (gi s.st (iI a) (IntKind.i64.wrap (cN s.st (iI a)+1))) rM hs;exact⟨λq=>aa,λ_ q=>absurd ht q,λ_ _ q=>absurd ht q,Bn⟩
 ·rw[e];exact h.more
 ·rw[e];rcases q with⟨-,rfl⟩|⟨-,rfl⟩
  ·exact h.more
  ·exact h.more.tick _
 ·rw[e];exact h.work hs IL (λq=>by obtain⟨lo,hl⟩:=Hk q;exact Bo lo F hl) hc hw
end
section
variable {Fin:bL}{o o' o1:aM}{w w' w1:ae}{S:Nat}{K:mK}{s s':fO}{lab lab' dD:Nat->Nat}{rv fv:Value}{fs:List (af×af)}{ed cnt Nr:Nat}{rs:List aI}{NM:aI->List af}{RK:af->Nat}{lk:Int}
def bp.Rj(h:bp o w K s lk lab):∀lo F,s.fd=so (lo,F)->ly K.B F:=λlo F e=>by
 obtain⟨y0,y1,y2,-,hp⟩:=h.build.blk;exact⟨h.build.right,(hp lo F e).perm,(hp lo F e).sorted⟩
def Told.up(h:Told K rs NM RK s ed cnt)(hc:cnt<=Nr):Told K rs NM RK s ed Nr:=⟨h.none,h.read,h.Vr,h.num.1,by have:=h.num.2;omega⟩
def tj.work(h:tj o w S K s lab rv fv fs ed)(hk:bp o' w' K s' 0 lab')(hs:Sound K s')(T:cU o w lab o' w' lab')(Ze:s'.th=s.th):tj o' w' S K s' lab' rv fv fs ed:=by
 have sl:=h.dv.aH.lt h.own;obtain⟨hf,hl⟩:=h.files.step h.Vg ((fU.refl (S:=S) h.dv.aH).k T) h.dv.aH;exact⟨hk,hs,(T.br.same S sl (by rw[h.KI];omega)).trans h.blk,T.br.more _ h.own,(T.lab S sl).trans h.KI,hf,hl,⟨λx=>by rw[Ze];exact h.yW.get x,by rw[Ze];exact h.yW.tk,h.yW.fk⟩⟩
end
section
variable {K:mK}{s s':fO}{F:cT}{file:af->V}{v:Value}
def iR(N:Nat)(s:fO):Nat :=
 if s.phase=2 then 2*s.src.length-s.rd.length+4
 else if s.phase=3 then s.src.length-s.ck+3
 else if s.told=true then 1
 else if s.phase=1/\s.since+5<=s.time then 2*N+6
 else 0
def Ga{N:Nat}(h:s.phase=2):iR N s=2*s.src.length-s.rd.length+4:=by simp[iR,h]
def OS{N:Nat}(h:s.phase=3):iR N s=s.src.length-s.ck+3:=by simp[iR,h]
def Vs{N:Nat}(h:s.phase<=1)(ht:s.told=true):iR N s=1:=by
 unfold iR;rw[if_neg aa,if_neg aa,if_pos ht]
def Zy{N:Nat}(h:s.phase<=1)(ht:¬s.told=true)(hq:s.phase=1/\s.since+5<=s.time):iR N s=2*N+6:=by
 unfold iR;rw[if_neg aa,if_neg aa,if_neg ht,if_pos hq]
def OT{N:Nat}(h:s.phase<=1)(ht:¬s.told=true)(hq:¬(s.phase=1/\s.since+5<=s.time)):iR N s=0:=by
 unfold iR;rw[if_neg aa,if_neg aa,if_neg ht,if_neg hq]
def KQ{N:Nat}(h:s.phase<=1)(hq:¬(s.phase=1/\s.since+5<=s.time)):iR N s<=1:=by
 by_cases ht:s.told=true
 ·rw[Vs h ht];exact ah _
 ·rw[OT h ht hq];exact aV _
def Rk{N:Nat}(hN:(dZ K.B.NM K.B.rs).length=N)(hs:Sound K s)(IF:s.ck<=s.src.length)(R2:s.rd.length<=s.src.length)(hw:gL K s s' F file v):(0<iR N s->iR N s'<iR N s)/\(iR N s=0->s'=s/\v=did 0 aR):=by
 have hph:=hs.ph;have FU:∀s1:fO,s1.phase=3->s1.ck<=s1.src.length->Checked K s1 s' F file v->iR N s'<s1.src.length-s1.ck+3:=by
  intro s1 e1 e2 hc;rcases hc with⟨c1,-,gK,MU,qA,qC,-,rfl⟩|⟨c1,c2,⟨-,-,rfl⟩|⟨-,-,rfl⟩⟩
  ·have:=KQ (N:=N) (s:={s1.stand 0 0 with old:=gK,pb:=MU,num:=IntKind.i64.wrap (s1.num+1),lv:=qA,res:=nB K.B F file,kD:=qC,gD:=mw (lX F.b7) (kD s1.old (gZ K.B F file)) K.B.rs.length}) (aV _) (λq=>by simp[fO.stand]at q);omega
  ·have:=KQ (N:=N) (s:=s1.stand 1 s1.time) (ah _) (λq=>by have:=q.2;simp only[fO.stand]at this;omega);omega
  ·rw[OS (s:={s1 with ck:=s1.ck+1}) e1];show s1.src.length-(s1.ck+1)+3<_;omega
 rcases hw with⟨p2,⟨c1,c2⟩|⟨c1,-,La,rfl⟩⟩|⟨p3,c2⟩|⟨n2,n3,hr⟩
 ·rw[Ga p2];have:=FU {s with phase:=3} rfl IF c2;simp only at this;exact⟨λ_=>aa,λq=>aa⟩
 ·rw[Ga p2,Ga (s:={s with rv:=La,rd:=s.rd++[(dG s.th s.src[s.rd.length],cN s.st s.src[s.rd.length])]}) p2];simp only[List.length_append,List.length_singleton];exact⟨λ_=>aa,λq=>aa⟩
 ·rw[OS p3];have:=FU s p3 IF c2;exact⟨λ_=>this,λq=>aa⟩
 ·have hp:s.phase<=1:=aa;rcases hr with⟨ht,-,rfl⟩|⟨ht,hq,-,lo,F',Kn,rfl⟩|⟨ht,hq,e,rfl⟩
  ·rw[Vs hp (ny.2 ht),OT (s:=fO.stand {s with qv:=.slice we 0 0,qn:=[],lost:=false} 1 s.time) (ah _) (by simp[fO.told,fO.stand]) (λq=>by have:=q.2;simp only[fO.stand]at this;omega)];exact⟨λ_=>aa,λq=>aa⟩
  ·rw[Zy hp (λq=>ht (ny.1 q)) hq,Ga (s:={s.stand 2 0 with fd:=so (lo,F'),sv:=Kn,src:=dZ K.B.NM K.B.rs}) rfl];simp only[fO.stand,List.length_nil,hN];exact⟨λ_=>aa,λq=>aa⟩
  ·rw[OT hp (λq=>ht (ny.1 q)) hq];exact⟨λq=>absurd q aa,λ_=>⟨rfl,e⟩⟩
structure yY(s:fO):Prop where
 told:¬s.told=true
 way:s.phase=0\/(s.phase=1/\s.since+5<=s.time)\/((s.phase=2\/s.phase=3)/\∀i (h:i<s.rd.length) (h':i<s.src.length),s.rd[i].2=cN s.st s.src[i])
def yY.work(h:yY s)(R2:s.rd.length<=s.src.length)(hw:gL K s s' F file v):yY s':=by
 have FU:∀s1:fO,s1.phase=3->s1.told=s.told->s1.rd=s.rd->s1.src=s.src->s1.st=s.st->(∀i (h:i<s.rd.length) (h':i<s.src.length),s.rd[i].2=cN s.st s.src[i])->Checked K s1 s' F file v->yY s':=by
  intro s1 e1 e2 e3 e4 e5 hE hc;have ht:¬s1.told=true:=by rw[e2];exact h.told
  rcases hc with⟨c1,-,gK,MU,qA,qC,-,rfl⟩|⟨c1,c2,⟨c3,-,rfl⟩|⟨-,-,rfl⟩⟩
  ·exact⟨ht,.inl rfl⟩
  ·refine absurd ?_ c3;have h1:s1.ck<s.rd.length:=by rw[<- e3];exact c2
   have h2:s1.ck<s.src.length:=by rw[<- e4];exact c1
   have:=hE s1.ck h1 h2;simp only[e3,e4,e5];exact this.symm
  ·refine⟨ht,.inr (.inr ⟨.inr e1,λi h1 h2=>?_⟩)⟩;have h1':i<s.rd.length:=by rw[<- e3];exact h1
   have h2':i<s.src.length:=by rw[<- e4];exact h2
   have:=hE i h1' h2';simp only[e3,e4,e5];exact this
 rcases hw with⟨p2,⟨c1,c2⟩|⟨c1,-,La,rfl⟩⟩|⟨p3,c2⟩|⟨n2,n3,hr⟩
 ·rcases h.way with q|⟨q,-⟩|⟨-,hE⟩
  ·omega
  ·omega
  ·exact FU {s with phase:=3} rfl rfl rfl rfl rfl hE c2
 ·rcases h.way with q|⟨q,-⟩|⟨-,hE⟩
  ·omega
  ·omega
  ·refine⟨h.told,.inr (.inr ⟨.inl p2,λi h1 h2=>?_⟩)⟩;simp only at h1 h2 |-;by_cases hi:i<s.rd.length
   ·rw[dI hi];exact hE i hi h2
   ·have e:i=s.rd.length:=by simp at h1;omega
    subst e;simp
 ·rcases h.way with q|⟨q,-⟩|⟨-,hE⟩
  ·omega
  ·omega
  ·exact FU s p3 rfl rfl rfl rfl hE c2
 ·rcases hr with⟨ht,-⟩|⟨ht,hq,-,lo,F',Kn,rfl⟩|⟨-,-,-,rfl⟩
  ·exact absurd (ny.2 ht) h.told
  ·exact⟨h.told,.inr (.inr ⟨.inl rfl,λi h1 _=>by simp[fO.stand]at h1⟩)⟩
  ·exact h
def yY.rest{N:Nat}(h:yY s)(h0:iR N s=0):s.phase=0:=by
 rcases h.way with q|q|⟨q,-⟩
 ·exact q
 ·rw[Zy aa h.told q]at h0;omega
 ·rcases q with q|q
  ·rw[Ga q]at h0;omega
  ·rw[OS q]at h0;omega
def Ns{N t:Nat}(hs:Sound K s)(h0:iR N s=0)(hsi:s.since<=s.time)(ht:s.time+5<=t):yY {s with time:=t}:=by
 have hph:=hs.ph;have VT:s.phase≠2:=λq=>by rw[Ga q]at h0;omega
 have OE:s.phase≠3:=λq=>by rw[OS q]at h0;omega
 have Bu:¬s.told=true:=λq=>by rw[Vs aa q]at h0;omega
 refine⟨Bu,?_⟩;by_cases q:s.phase=0
 ·exact .inl q
 ·exact .inr (.inl ⟨by show s.phase=1;omega,by show s.since+5<=t;omega⟩)
end
section
variable {K:mK}{s s1 s2:fO}{fs Nh:List (af×af)}{ed Ni:Nat}{kd a b n:Int}{y:af}{F F2:cT}{B:uO}{v:Value}{file lK:af->V}
def Yj{rs:List aI}(hn:(rs.map (·.out)).Nodup){r r2:aI}(h:r∈rs)(h2:r2∈rs)(e:r.out=r2.out):r=r2:=by
 have e1:=sk hn h;have e2:=sk hn h2;rw[e]at e1;exact aT (e1.symm.trans e2)
def ly.same(h:ly B F)(h2:ly B F2):F.b7=F2.b7:=by
 have e:F.b7.map (·.out)=F2.b7.map (·.out):=rL h.strict h2.strict λx=>by rw[h.mem,h2.mem]
 have hl:F.b7.length=F2.b7.length:=by simpa using congrArg List.length e
 refine List.ext_getElem hl λi h1 h3=>Yj h.right.nodup (h.perm.mem_iff.1 (aG h1)) (h2.perm.mem_iff.1 (aG h3)) ?_;have:=congrArg (λl=>l[i]?) e;simpa[h1,h3] using this
def Rm(h:ly B F)(h2:ly B F2)(i:Nat):gZ B F file i=gZ B F2 file i:=by
 unfold gZ;rw[h.same h2]
def Aq(h:ly B F)(e:∀x∈dZ B.NM B.rs,file x=lK x)(i:Nat)(hi:i<B.rs.length):gZ B F file i=gZ B F lK i:=by
 have hl:=h.perm.length_eq;unfold gZ;rw[lu aa];refine bG λx hx=>?_;have hr:F.b7[i]'aa∈B.rs:=h.perm.mem_iff.1 (aG _);refine An e _ x ?_;by_cases q:x∈B.rs.map (·.out)
 ·exact .inl q
 ·exact .inr (qx.2 ⟨_,hr,hx,q⟩)
structure Made(K:mK)(s:fO)(file:af->V):Prop where
 ex:∃F,ly K.B F/\s.res=nB K.B F file/\∀i,i<K.B.rs.length->∃b,s.old i=so (b,gZ K.B F file i)
structure BL(K:mK)(s:fO)(ed:Nat):Prop where
 idle:ed=0->s.phase=0/\¬s.told=true
 zero:s.num=0->∀i,i<K.B.rs.length->s.old i=we
 pos:s.num≠0->∃file,Made K s file
 read:s.phase=2\/s.phase=3->¬s.told=true->s.rd.map (·.1)=(s.src.take s.rd.length).map (dG s.th)
 Vr:0<ed->s.phase=0->¬s.told=true->Made K s (dG s.th)
def Km.made{H:List (af×af)}(Bo:ly K.B F)(hp:Km K s s2 F file):Made K s2 file:=by
 obtain⟨gK,MU,qA,qC,ho,rfl⟩:=hp;exact⟨F,Bo,rfl,ho⟩
def Made.by_(h:Made K s file)(e:∀x∈dZ K.B.NM K.B.rs,file x=lK x):Made K s lK:=by
 obtain⟨F,h1,h2,h3⟩:=h.ex;refine⟨F,h1,h2.trans (Ao h1 e),λi hi=>?_⟩;obtain⟨b,hb⟩:=h3 i hi;exact⟨b,by rw[hb,Aq h1 e i hi]⟩
structure abI(K:mK)(s s2:fO)(F:cT):Prop where
 Rj:ly K.B F
 num:s2.num=s.num+1
 ph:s2.phase=0
 gD:∃file,(¬s.told=true->∀x∈dZ K.B.NM K.B.rs,file x=dG s.th x)/\s2.gD=mw (lX F.b7) (kD s.old (gZ K.B F file)) K.B.rs.length/\Made K s2 file
def BL.work(h:BL K s ed)(hs:Sound K s)(Bo:s.phase=2\/s.phase=3->ly K.B F)(hn:0<=s.num/\s.num<4611686018427387904)(hw:gL K s s2 F (fileOf s.src (s.rd.map (·.1))) v):BL K s2 ed/\(abI K s s2 F\/(s2.num=s.num/\s2.res=s.res/\s2.gD=s.gD/\s2.old=s.old)):=by
 have Vh:s.phase≠0\/s.told=true->0<ed:=λq=>by
  rcases bg ed with e|e
  ·obtain⟨h1,h2⟩:=h.idle e;rcases q with q|q
   ·exact absurd h1 q
   ·exact absurd q h2
  ·exact e
 have keep:∀{s3:fO},s3.num=s.num->s3.res=s.res->s3.old=s.old->(s3.num=0->∀i,i<K.B.rs.length->s3.old i=we)/\(s3.num≠0->∃file,Made K s3 file):=λe1 e2 e3=>by
  refine⟨λq=>by rw[e3];exact h.zero (e1▸q),λq=>?_⟩;obtain⟨file,hm⟩:=h.pos (e1▸q);obtain⟨F,h1,h2,h3⟩:=hm.ex;exact⟨file,F,h1,by rw[e2];exact h2,by rw[e3];exact h3⟩
 have FU:∀s1:fO,s1.phase=3->(s.phase=2\/s.phase=3)->s1.told=s.told->s1.rd=s.rd->s1.src=s.src->s1.th=s.th->s1.num=s.num->s1.res=s.res->s1.gD=s.gD->s1.old=s.old->s.rd.length=s.src.length->Checked K s1 s2 F (fileOf s.src (s.rd.map (·.1))) v->BL K s2 ed/\(abI K s s2 F\/(s2.num=s.num/\s2.res=s.res/\s2.gD=s.gD/\s2.old=s.old)):=by
  intro s1 e1 e2 e3 e4 e5 e6 e7 e8 e9 KU Pp IF;have Nq:=Vh (.inl aa);rcases IF with⟨c1,-,hp⟩|⟨c1,c2,⟨-,-,rfl⟩|⟨-,-,rfl⟩⟩
  ·have hm:=Km.made (H:=[]) (Bo e2) hp;have Nn:¬s.told=true->∀x∈dZ K.B.NM K.B.rs,fileOf s.src (s.rd.map (·.1)) x=dG s.th x:=λht x hx=>by
    have hr:=h.read e2 ht;rw[Pp,cC]at hr;rw[hr];refine Ap _ _ _ ?_;rw[hs.src e2];exact hx
   obtain⟨gK,MU,qA,qC,ho,rfl⟩:=hp;have zy:IntKind.i64.wrap (s1.num+1)=s1.num+1:=by rw[e7,IntKind.wrap_i64]<;>omega
   refine⟨⟨λq=>aa,λq=>?_,λ_=>⟨_,hm⟩,λq=>by simp[fO.stand]at q,λ_ _ ht=>hm.by_ λx hx=>?_⟩,.inl ⟨Bo e2,?_,rfl,_,Nn,?_,hm⟩⟩
   ·have:IntKind.i64.wrap (s1.num+1)=0:=q;rw[zy,e7]at this;omega
   ·show fileOf s.src (s.rd.map (·.1)) x=dG s1.th x;rw[e6];exact Nn (by rw[<- e3];exact ht) x hx
   ·show IntKind.i64.wrap (s1.num+1)=s.num+1;rw[zy,e7]
   ·show mw (lX F.b7) (kD s1.old (gZ K.B F (fileOf s.src (s.rd.map (·.1))))) K.B.rs.length=_;rw[KU]
  ·obtain⟨k1,k2⟩:=keep (s3:=s1.stand 1 s1.time) e7 e8 KU;exact⟨⟨λq=>aa,k1,k2,λq=>by simp[fO.stand]at q,λ_ q=>by simp[fO.stand]at q⟩,.inr ⟨e7,e8,e9,KU⟩⟩
  ·obtain⟨k1,k2⟩:=keep (s3:={s1 with ck:=s1.ck+1}) e7 e8 KU;refine⟨⟨λq=>aa,k1,k2,λ_ ht=>?_,λ_ q=>by have:s1.phase=0:=q;omega⟩,.inr ⟨e7,e8,e9,KU⟩⟩;show s1.rd.map (·.1)=(s1.src.take s1.rd.length).map (dG s1.th);rw[e4,e5,e6];exact h.read e2 (by rw[<- e3];exact ht)
 rcases hw with⟨p2,⟨c1,c2⟩|⟨c1,-,La,rfl⟩⟩|⟨p3,c2⟩|⟨n2,n3,hr⟩
 ·exact FU {s with phase:=3} rfl (.inl p2) rfl rfl rfl rfl rfl rfl rfl rfl c1 c2
 ·have Nq:=Vh (.inl aa);refine⟨⟨λq=>aa,h.zero,λq=>?_,λ_ ht=>?_,λ_ q=>by have:s.phase=0:=q;omega⟩,.inr ⟨rfl,rfl,rfl,rfl⟩⟩
  ·obtain⟨file,hm⟩:=h.pos q;exact⟨file,⟨hm.ex⟩⟩
  have hr:=h.read (.inl p2) ht;show(s.rd++[(dG s.th s.src[s.rd.length],cN s.st s.src[s.rd.length])]).map (·.1)=(s.src.take (s.rd++[(dG s.th s.src[s.rd.length],cN s.st s.src[s.rd.length])]).length).map (dG s.th);rw[eY,hr,jy,kV,take_succ s.src s.rd.length c1,eY];rfl
 ·exact FU s p3 (.inr p3) rfl rfl rfl rfl rfl rfl rfl rfl (hs.full p3) c2
 ·rcases hr with⟨ht,-,rfl⟩|⟨ht,hq,-,lo,F',Kn,rfl⟩|⟨-,-,-,rfl⟩
  ·have Nq:=Vh (.inr (ny.2 ht));obtain⟨k1,k2⟩:=keep (s3:=fO.stand {s with qv:=.slice we 0 0,qn:=[],lost:=false} 1 s.time) rfl rfl rfl;exact⟨⟨λq=>aa,k1,k2,λq=>by simp[fO.stand]at q,λ_ q=>by simp[fO.stand]at q⟩,.inr ⟨rfl,rfl,rfl,rfl⟩⟩
  ·have Nq:=Vh (.inl aa);obtain⟨k1,k2⟩:=keep (s3:={s.stand 2 0 with fd:=so (lo,F'),sv:=Kn,src:=dZ K.B.NM K.B.rs}) rfl rfl rfl;exact⟨⟨λq=>aa,k1,k2,λ_ _=>by simp[fO.stand],λ_ q=>by simp[fO.stand]at q⟩,.inr ⟨rfl,rfl,rfl,rfl⟩⟩
  ·exact⟨h,.inr ⟨rfl,rfl,rfl,rfl⟩⟩
def BL.tick(h:BL K s ed)(t:Nat):BL K {s with time:=t} ed:=⟨h.idle,h.zero,λq=>by obtain⟨file,hm⟩:=h.pos q;exact⟨file,⟨hm.ex⟩⟩,h.read,λa b c=>⟨(h.Vr a b c).ex⟩⟩
def BL.edit(h:BL K s ed)(hs:Sound K s)(x:af)(th:List (af×af))(st:List (af×Int))(qv:Value):BL K {s with th:=th,st:=st,qv:=qv,qn:=(iw s.qn s.lost x).1,lost:=(iw s.qn s.lost x).2} (ed+1):=by
 have ht:=vf s x th st qv hs;exact⟨λq=>aa,h.zero,λq=>by obtain⟨file,hm⟩:=h.pos q;exact⟨file,⟨hm.ex⟩⟩,λ_ q=>absurd ht q,λ_ _ q=>absurd ht q⟩
def BL.step(h:BL K s ed)(hs:Sound K s)(Bo:∀lo F,s.fd=so (lo,F)->ly K.B F)(hn:0<=s.num/\s.num<4611686018427387904)(st:DO K kd a b s s2 fs Nh ed Ni n y):BL K s2 Ni:=by
 rcases st with⟨-,-,-,e,-,rM,rfl⟩|⟨-,-,-,-,⟨-,e,rM,rfl⟩|⟨-,e,rfl⟩⟩|⟨-,-,-,-,e,q⟩|⟨-,-,-,-,e,F,Hk,hw⟩
 ·rw[e];exact h.edit hs _ _ _ _
 ·rw[e];exact h.edit hs _ _ _ _
 ·rw[e];exact h
 ·rw[e];rcases q with⟨-,rfl⟩|⟨-,rfl⟩
  ·exact h
  ·exact h.tick _
 ·rw[e];exact(h.work hs (λq=>by obtain⟨lo,hl⟩:=Hk q;exact Bo lo F hl) hn hw).1
def akS(K:mK)(pb:Nat):BL K (s0 pb) 0:=⟨λ_=>by simp[s0,fO.told],λ_ i _=>by simp[s0],λq=>by simp[s0]at q,λq=>by simp[s0]at q,λq=>absurd q aa⟩
structure vg(K:mK)(s0 s:fO):Prop where
 ex:(((s.phase=0/\s.told=true)\/(¬s.told=true/\(s.phase=1\/((s.phase=2\/s.phase=3)/\∀i (h:i<s.rd.length) (h':i<s.src.length),s.rd[i].2=cN s.st s.src[i]))))/\s.num=s0.num/\s.old=s0.old/\s.res=s0.res) \/
  (s.phase=0/\¬s.told=true/\s.num=s0.num+1/\∃F file,ly K.B F/\(∀x∈dZ K.B.NM K.B.rs,file x=dG s.th x)/\s.gD=mw (lX F.b7) (kD s0.old (gZ K.B F file)) K.B.rs.length/\Made K s file)
def vg.tick{s0:fO}(h:vg K s0 s)(t:Nat):vg K s0 {s with time:=t}:=by
 rcases h.ex with q|⟨q1,q2,q3,F,file,q4,q5,q6,q7⟩
 ·exact⟨.inl q⟩
 ·exact⟨.inr ⟨q1,q2,q3,F,file,q4,q5,q6,⟨q7.ex⟩⟩⟩
def vg.work{s0:fO}(h:vg K s0 s)(ht:BL K s ed)(hs:Sound K s)(Bo:s.phase=2\/s.phase=3->ly K.B F)(hn:0<=s.num/\s.num<4611686018427387904)(R2:s.rd.length<=s.src.length)(hw:gL K s s2 F (fileOf s.src (s.rd.map (·.1))) v):vg K s0 s2:=by
 rcases h.ex with⟨q,n1,n2,n3⟩|⟨q1,q2,q3⟩;rotate_left
 ·rcases hw with⟨p2,-⟩|⟨p3,-⟩|⟨-,-,hr⟩
  ·omega
  ·omega
  ·rcases hr with⟨t,-⟩|⟨-,hq,-⟩|⟨-,-,-,rfl⟩
   ·exact absurd (ny.2 t) q2
   ·omega
   ·exact h
 obtain⟨-,hd⟩:=ht.work hs Bo hn hw;have Vr:¬s.told=true->s2.told=s.told->s2.th=s.th->abI K s s2 F->vg K s0 s2:=λBu et eth hp=>by
  obtain⟨file,f1,f2,f3⟩:=hp.gD;refine⟨.inr ⟨hp.ph,by rw[et];exact Bu,by rw[hp.num,n1],F,file,hp.Rj,λx hx=>by rw[eth];exact f1 Bu x hx,by rw[f2,n2],f3⟩⟩
 obtain⟨kn,ky,kv,-,-,-,kth,kst,-⟩:=hw.kind;have FU:∀s1:fO,s1.phase=3->s1.told=s.told->s1.rd=s.rd->s1.src=s.src->s1.st=s.st->s1.th=s.th->s1.num=s.num->s1.old=s.old->s1.res=s.res->¬s.told=true->(∀i (h:i<s.rd.length) (h':i<s.src.length),s.rd[i].2=cN s.st s.src[i])->Checked K s1 s2 F (fileOf s.src (s.rd.map (·.1))) v->vg K s0 s2:=by
  intro s1 e1 e3 e4 e5 e6 e7 e8 e9 KU Bu hE hc;rcases hc with⟨c1,-,gK,MU,qA,qC,-,rfl⟩|⟨c1,c2,⟨c3,-,rfl⟩|⟨-,-,rfl⟩⟩
  ·refine Vr Bu e3 e7 (hd.resolve_right λq=>?_);have q1:IntKind.i64.wrap (s1.num+1)=s.num:=q.1;rw[e8,IntKind.wrap_i64]at q1;omega
  ·refine absurd ?_ c3;have h1:s1.ck<s.rd.length:=by rw[<- e4];exact c2
   have h2:s1.ck<s.src.length:=by rw[<- e5];exact c1
   have:=hE s1.ck h1 h2;simp only[e4,e5,e6];exact this.symm
  ·refine⟨.inl ⟨.inr ⟨?_,.inr ⟨.inr e1,λi h1 h2=>?_⟩⟩,by rw[<- n1];exact e8,by rw[<- n2];exact e9,by rw[<- n3];exact KU⟩⟩
   ·show ¬s1.told=true;rw[e3];exact Bu
   ·have h1':i<s.rd.length:=by rw[<- e4];exact h1
    have h2':i<s.src.length:=by rw[<- e5];exact h2
    have:=hE i h1' h2';simp only[e4,e5,e6];exact this
 rcases hw with⟨p2,⟨c1,c2⟩|⟨c1,-,La,rfl⟩⟩|⟨p3,c2⟩|⟨m2,m3,hr⟩
 ·rcases q with⟨q,-⟩|⟨Bu,q|⟨-,hE⟩⟩
  ·omega
  ·omega
  ·exact FU {s with phase:=3} rfl rfl rfl rfl rfl rfl rfl rfl rfl Bu hE c2
 ·rcases q with⟨q,-⟩|⟨Bu,q|⟨-,hE⟩⟩
  ·omega
  ·omega
  ·refine⟨.inl ⟨.inr ⟨Bu,.inr ⟨.inl p2,λi h1 h2=>?_⟩⟩,n1,n2,n3⟩⟩;simp only at h1 h2 |-;by_cases hi:i<s.rd.length
   ·rw[dI hi];exact hE i hi h2
   ·have e:i=s.rd.length:=by simp at h1;omega
    subst e;simp
 ·rcases q with⟨q,-⟩|⟨Bu,q|⟨-,hE⟩⟩
  ·omega
  ·omega
  ·exact FU s p3 rfl rfl rfl rfl rfl rfl rfl rfl Bu hE c2
 ·rcases hr with⟨-,-,rfl⟩|⟨t,hq,-,lo,F',Kn,rfl⟩|⟨-,-,-,rfl⟩
  ·exact⟨.inl ⟨.inr ⟨by simp[fO.told,fO.stand],.inl rfl⟩,n1,n2,n3⟩⟩
  ·exact⟨.inl ⟨.inr ⟨λq=>t (ny.1 q),.inr ⟨.inl rfl,λi h1 _=>by simp[fO.stand]at h1⟩⟩,n1,n2,n3⟩⟩
  ·exact h
end
def jU(out:af):List af->List af->List af
 |l,[]=>l
 |l,x::xs=>jU out (if D9 l x=true then l++[out] else l) xs
def gO(NM:aI->List af):List af->List aI->List af
 |l,[]=>l
 |l,r::rs=>gO NM (jU r.out l (NM r)) rs
def xu(out:af):∀(xs l:List af),∀z∈l,z∈jU out l xs
 | [],l,z,h=>h
 |x::xs,l,z,h=>by
  unfold jU;refine xu out xs _ z ?_;split
  ·exact List.mem_append_left _ h
  ·exact h
def Gb(out:af):∀(xs l:List af) (x:af),x∈xs->x∈l->out∈jU out l xs
 | [],l,x,h,_=>by cases h
 |z::xs,l,x,h,hl=>by
  unfold jU;by_cases e:x=z
  ·subst e;rw[if_pos ((mf x l).2 hl)];exact xu out xs _ _ ar
  ·refine Gb out xs _ x ((bM.1 h).resolve_left e) ?_;split
   ·exact List.mem_append_left _ hl
   ·exact hl
def tn(NM:aI->List af):∀(rs:List aI) (l:List af),∀z∈l,z∈gO NM l rs
 | [],l,z,h=>h
 |r::rs,l,z,h=>by
  unfold gO;exact tn NM rs _ z (xu r.out (NM r) l z h)
def vI(NM:aI->List af):∀(rs DU:List aI) (l:List af),gO NM l (rs++DU)=gO NM (gO NM l rs) DU
 | [],DU,l=>rfl
 |r::rs,DU,l=>by
  show gO NM (jU r.out l (NM r)) (rs++DU)=gO NM (gO NM (jU r.out l (NM r)) rs) DU;exact vI NM rs DU _
section
variable {rs:List aI}{NM:aI->List af}{RK:af->Nat}{file lK:af->V}{x0:af}
def DV(rs:List aI)(NM:aI->List af):Prop:=∀i (h:i<rs.length),∀x∈NM rs[i],x∈rs.map (·.out)->∃j,∃hj:j<i,(rs[j]'aa).out=x
def KR(i:Nat)(h:i<rs.length){x:af}(hx:x∈NM rs[i])(hl:x∈gO NM [x0] (rs.take i)):rs[i].out∈gO NM [x0] (rs.take (i+1)):=by
 rw[take_succ rs i h,vI];show rs[i].out∈jU rs[i].out (gO NM [x0] (rs.take i)) (NM rs[i]);exact Gb _ _ _ x hx hl
def xx{i j:Nat}(h:i<=j):∀z∈gO NM [x0] (rs.take i),z∈gO NM [x0] (rs.take j):=λz hz=>by
 have e:rs.take j=rs.take i++(rs.take j).drop i:=by
  conv=>lhs;rw[<- List.take_append_drop i (rs.take j)]
  rw[List.take_take,Nat.min_eq_left h]
 rw[e,vI];exact tn NM _ _ z hz
def Ro(hR:jS rs NM RK)(ha:DV rs NM)(hf:∀x,x≠x0->file x=lK x):∀i (h:i<rs.length),valOf rs NM file rs[i].out≠valOf rs NM lK rs[i].out->rs[i].out∈gO NM [x0] (rs.take (i+1)):=by
 intro i
 induction i using Nat.strongRecOn with
 |ind i ih =>
  intro h dE;have hr:=aG h;rw[p7 hR file hr,p7 hR lK hr]at dE;obtain⟨x,hx,hd⟩:∃x∈NM rs[i],valOf rs NM file x≠valOf rs NM lK x:=aN λq=>dE (by
   congr 1
   exact bG λx hx=>aN λe=>q ⟨x,hx,e⟩)
  refine KR i h hx ?_;by_cases ho:x∈rs.map (·.out)
  ·obtain⟨j,hj,e⟩:=ha i h x hx ho;have:=ih j hj aa (by rw[e];exact hd);rw[e]at this;exact xx aa _ this
  ·rw[p8 file ho,p8 lK ho]at hd;have e:x=x0:=aN λq=>hd (hf x q);rw[e];exact tn NM _ _ _ ar
def Rp(hR:jS rs NM RK)(ha:DV rs NM)(hf:∀x,x≠x0->file x=lK x)(i:Nat)(h:i<rs.length)(dE:(NM rs[i]).map (valOf rs NM file)≠(NM rs[i]).map (valOf rs NM lK)):rs[i].out∈gO NM [x0] rs:=by
 obtain⟨x,hx,hd⟩:∃x∈NM rs[i],valOf rs NM file x≠valOf rs NM lK x:=aN λq=>dE (bG λx hx=>aN λe=>q ⟨x,hx,e⟩);have:=KR (x0:=x0) i h hx (by
  by_cases ho:x∈rs.map (·.out)
  ·obtain⟨j,hj,e⟩:=ha i h x hx ho;have:=Ro hR ha hf j aa (by rw[e];exact hd);rw[e]at this;exact xx aa _ this
  ·rw[p8 file ho,p8 lK ho]at hd;have e:x=x0:=aN λq=>hd (hf x q);rw[e];exact tn NM _ _ _ ar)
 have e:=xx (x0:=x0) (NM:=NM) (rs:=rs) (j:=rs.length) (show i+1<=rs.length by omega) _ this;rwa[cC]at e
end
def yZ(out:Nat->af)(gD:Nat->Bool)(x:af):∀n,x∈mw out gD n↔∃k,k<n/\gD k=true/\x=out k
 |0=>by simp[mw]
 |n+1=>by
  unfold mw;rw[fN,yZ out gD x n];constructor
  ·rintro(⟨k,h1,h2,h3⟩|h)
   ·exact⟨k,aa,h2,h3⟩
   ·split at h
    ·rename_i q;simp at h;exact⟨n,aa,q,h⟩
    ·cases h
  ·rintro⟨k,h1,h2,h3⟩;by_cases e:k=n
   ·subst e;rw[if_pos h2];exact .inr (by simp[h3])
   ·exact .inl ⟨k,aa,h2,h3⟩
section
variable {K:mK}{s0 s:fO}{F:cT}{rs:List aI}{NM:aI->List af}{RK:af->Nat}{sC file:af->V}{x0:af}
def HI(hm:Made K s0 sC)(hp:ly K.B F)(k:Nat)(hk:k<K.B.rs.length):kD s0.old (gZ K.B F file) k=true↔gZ K.B F sC k≠gZ K.B F file k:=by
 obtain⟨F0,h1,-,h3⟩:=hm.ex;obtain⟨b,hb⟩:=h3 k hk;unfold kD;rw[hb];simp[Rm h1 hp]
def Yk(hp:ly K.B F)(IL:fQ rs NM RK K.B)(k:Nat)(hk:k<K.B.rs.length):∃i,∃h:i<rs.length,lX F.b7 k=rs[i].out/\∀file,gZ K.B F file k=(NM rs[i]).map (valOf rs NM file):=by
 have hl:=hp.perm.length_eq;have lD:k<F.b7.length:=aa;obtain⟨i,hi,e⟩:=a8 (hp.perm.mem_iff.1 (aG lD));have hir:i<rs.length:=by rw[<- IL.len];exact hi
 obtain⟨e1,-,e3⟩:=IL.at_ i hir hi;refine⟨i,hir,?_,λfile=>?_⟩
 ·unfold lX;simp[lD,<- e,e1]
 ·unfold gZ;rw[lu lD,<- e,e3];exact bG λx _=>xr IL.BP file x
def Rq(hR:jS rs NM RK)(ha:DV rs NM)(IL:fQ rs NM RK K.B)(hm:Made K s0 sC)(hp:ly K.B F)(hf:∀x∈dZ K.B.NM K.B.rs,x≠x0->sC x=file x):∀x∈mw (lX F.b7) (kD s0.old (gZ K.B F file)) K.B.rs.length,x∈gO NM [x0] rs:=λx hx=>by
 obtain⟨k,hk,hr,rfl⟩:=(yZ _ _ _ _).1 hx;have dE:=(HI hm hp k hk).1 hr;obtain⟨i,hi,e1,e2⟩:=Yk hp IL k hk;rw[e1];have hg:∀y∈dZ K.B.NM K.B.rs,file y=(λy=>if D9 (dZ K.B.NM K.B.rs) y=true then file y else sC y) y:=λy hy=>by simp[(mf _ _).2 hy]
 rw[Aq hp hg k hk,e2,e2]at dE;refine Rp hR ha (λy hy=>?_) i hi dE;by_cases q:y∈dZ K.B.NM K.B.rs
 ·simp[(mf _ _).2 q,hf y q hy]
 ·simp[show ¬D9 (dZ K.B.NM K.B.rs) y=true from λe=>q ((mf _ _).1 e)]
def Rr(hR:jS rs NM RK)(IL:fQ rs NM RK K.B)(hm:Made K s0 sC)(hp:ly K.B F)(VH:Made K s file)(k:Nat)(h1:k<s0.res.length)(h2:k<s.res.length)(hn:s.res[k].1∉mw (lX F.b7) (kD s0.old (gZ K.B F file)) K.B.rs.length):s.res[k]=s0.res[k]:=by
 obtain⟨F0,k1,k2,-⟩:=hm.ex;obtain⟨F2,j1,j2,-⟩:=VH.ex;have f0:=k1.same hp;have f2:=j1.same hp;have hl:=hp.perm.length_eq;rw[rD k1,f0]at k2;rw[rD j1,f2]at j2;have hkF:k<F.b7.length:=by rw[k2]at h1;simpa using h1
 have hk:k<K.B.rs.length:=aa;have e0:s0.res[k]=(F.b7[k].out,valOf K.B.rs K.B.NM sC F.b7[k].out):=by
  have:=congrArg (λl=>l[k]?) k2;simpa[h1,hkF] using this
 have e2:s.res[k]=(F.b7[k].out,valOf K.B.rs K.B.NM file F.b7[k].out):=by
  have:=congrArg (λl=>l[k]?) j2;simpa[h2,hkF] using this
 have hr:=hp.perm.mem_iff.1 (aG hkF);have kS:gZ K.B F sC k=gZ K.B F file k:=aN λq=>hn ((yZ _ _ _ _).2 ⟨k,hk,(HI hm hp k hk).2 q,by rw[e2];simp[lX,hkF]⟩);rw[e0,e2,p7 hp.right file hr,p7 hp.right sC hr];unfold gZ at kS;rw[lu hkF]at kS;rw[kS]
def Vt(hm:Made K s0 sC)(hp:ly K.B F)(hf:∀x∈dZ K.B.NM K.B.rs,sC x=file x):mw (lX F.b7) (kD s0.old (gZ K.B F file)) K.B.rs.length=[]:=by
 refine List.eq_nil_iff_forall_not_mem.2 λx hx=>?_;obtain⟨k,hk,hr,-⟩:=(yZ _ _ _ _).1 hx;exact(HI hm hp k hk).1 hr (Aq hp hf k hk)
def Vu(hm:Made K s0 sC)(VH:Made K s file)(hf:∀x∈dZ K.B.NM K.B.rs,sC x=file x):s0.res=s.res:=by
 obtain⟨F0,k1,k2,-⟩:=hm.ex;obtain⟨F2,j1,j2,-⟩:=VH.ex;rw[k2,j2,Ao k1 hf,rD k1,rD j1,k1.same j1]
end
def OU{α:Type}:∀{l:List (af×α)} {f:af×α},(l.map (·.1)).Nodup->f∈l->eR l f.1=so f.2
 | [],_,_,h=>by cases h
 | (k,u)::l,f,hn,h=>by
  rw[aC,db]at hn;unfold eR;rcases bM.1 h with rfl|h
  ·rw[if_pos rfl]
  ·rw[if_neg (λe=>hn.1 (aag.2 ⟨f,h,e⟩))];exact OU hn.2 h
section
variable {Fin:bL}{o o' o1 o2:aM}{w w' w1 w2:ae}{S:Nat}{K:mK}{s s' s2:fO}{lab lab' dD iH:Nat->Nat}{rv fv V4:Value}{fs Nh:List (af×af)}{ed Ni cnt Nr:Nat}{rp:Option Addr}{rb rc:Nat}{rs:List aI}{NM:aI->List af}{NB:aI->Nat}{RK:af->Nat}
def tj.ok(h:tj o w S K s lab rv fv fs ed):yX fs:=by
 refine⟨by have:=h.yW.gF;omega,λf hf=>pX (h.yW.fk.2 _ (gE hf)),h.yW.fk.1,λf hf=>?_⟩;have:=h.yW.get f.1;rw[OU h.yW.fk.1 hf]at this;exact h.sound.th _ (DG this)
def py.yW{l:List (af×V)}(h:py rs NM RK s.th l)(k:gf s fs):py rs NM RK fs l:=by
 have e:dG s.th=dG fs:=funext λx=>by unfold dG;rw[k.get x]
 obtain⟨B,F,h1,h2,h3⟩:=h.ex;exact⟨B,F,h1,h2,by rw[h3,e]⟩
def tj.grown(h:tj o w S K s lab rv fv fs ed)(W:bC (λ_=>False) o w o' w'):∃lab',tj o' w' S K s lab' rv fv fs ed:=by
 obtain⟨iH,h2,T2,-,-⟩:=h.dv.grown (cU.refl h.dv.aH) W;exact⟨iH,h.work h2 h.sound T2 rfl⟩
def Hand.lt{g:Nat}(hH:Hand o w rp rb rc rs NM NB RK)(hF:bO ax L0 o w)(hg:oX rs NM NB rb g):g<w.heap.size:=by
 rcases hg with⟨q,rfl⟩|⟨r,hr,q,rfl⟩
 ·exact hF.lt (hH.ptr q).2
 ·exact hF.lt ((hH.nm r hr).2.1 q).2
def Vw[Payload](h:tj o w S K s lab (.slice rp rs.length rc) fv fs ed)(hH:Hand o w rp rb rc rs NM NB RK)(hf:px o w V4 Nh)(ok:yX Nh)(ba ca:Nat)(pa:Option Addr)(ra:List (af×V))(na:ra.length<=1000)(E0:ra≠[]->pa=so ⟨ba,0,we⟩/\o ba)(ha:oT w ba ra)(W:bC (λ_=>False) o w o1 w1):
  bA ax (XB ax Fin 0) 25 #[.pointer (so ⟨S,0,we⟩),.slice pa ra.length ca,V4] o1 w1 λv o' w'=>bC (λ_=>False) o w o' w'/\∃l,py rs NM RK Nh l/\v=.bool (decide (ra=l)):=by
 obtain⟨dD,h1⟩:=h.grown W;have VO:=hH.keep W.more λg hg=>W.same g (hH.lt h.dv.aH hg) id;have hf1:=hf.keep W.more λg hg=>W.same g (h.dv.aH.lt (iC h.dv.aH hf.cl g hg)) id;obtain⟨p,b,c,rfl,h2,h3⟩:=hf1.ex;refine(KP h1.dv.aH h1.dv.build.pow S _ _ _ h1.blk h1.own VO b c p Nh h2 h3 hf1.cl (hf1.cap _ _ _ rfl) ok ba ca pa ra na (λq=>⟨(E0 q).1,W.more _ (E0 q).2⟩) (λi hi=>?_)).mono λv o' w' q=>⟨W.trans q.1,q.2⟩;have e:=W.same ba (h.dv.aH.lt (E0 (nlt hi)).2) id;exact⟨(cell_of e).trans (ha i hi).1,(cell_of e).trans (ha i hi).2.1,(cell_of e).trans (ha i hi).2.2⟩
structure SS(o:aM)(w:ae)(S:Nat)(K:mK)(rp:Option Addr)(rb rc:Nat)(rs:List aI)(NM:aI->List af)(NB:aI->Nat)(s:fO)(lab:Nat->Nat)(fv:Value)(fs:List (af×af))(ed cnt:Nat)(o':aM)(w':ae):Prop where
 cL:tj o' w' S K s lab (.slice rp rs.length rc) fv fs ed
 old:bC (λ_=>False) o w o' w'
 Yl:∀b,b<w.heap.size->7<=lab b
 sge:w.heap.size<=S
 hand:Hand o' w' rp rb rc rs NM NB AZ
 pw:∀g,oX rs NM NB rb g->lab g=7/\g≠S
 told:Told K rs NM AZ s ed cnt
def DO.edl{kd a b n:Int}{y:af}(st:DO K kd a b s s2 fs Nh ed Ni n y):Ni<=ed+1:=by
 rcases st with⟨-,-,-,e,-⟩|⟨-,-,-,-,⟨-,e,-⟩|⟨-,e,-⟩⟩|⟨-,-,-,-,e,-⟩|⟨-,-,-,-,e,-⟩<;>omega
def afU(K:mK)(pb:Nat):Told K rs NM RK (s0 pb) 0 0:=⟨λ_=>by simp[s0,fO.told],λq=>by simp[s0]at q,λq=>absurd q aa,by simp[s0]⟩
def Rs{v:Value}(eW:U1 o w v o' w'):∃S K pb lab rp rb rc rs NM NB,v=.pointer (so ⟨S,0,we⟩)/\SS o w S K rp rb rc rs NM NB (s0 pb) lab (.slice we 0 0) [] 0 0 o' w'/\bp o' w' K (s0 pb) 0 lab/\fQ rs NM AZ K.B/\Ak rs NM:=by
 obtain⟨S,K,pb,dD,rp,rb,rc,rs,NM,NB,rfl,kS1,oS1,lS1,h1,W1,yR,hH,KD,hfo,Wz,Fi⟩:=eW.ex;refine⟨S,K,pb,dD,rp,rb,rc,rs,NM,NB,rfl,⟨⟨h1,UJ K pb,kS1,oS1,lS1,⟨⟨we,0,0,rfl,λq=>absurd rfl q,λi hi=>by simp at hi⟩,iP,(λp l c e=>by cases e;exact ah _)⟩,(λg hg=>by cases hg),⟨λx=>rfl,by simp[s0],ar⟩⟩,W1,λb hb=>(yR b hb).1,Wz,hH,λg hg=>⟨(hfo g hg).1,?_⟩,afU K pb⟩,h1,KD,Fi⟩;rintro rfl;have e0:=(nW kS1).1;rcases hg with⟨q,rfl⟩|⟨r,hr,q,rfl⟩
 ·have:=(hH.at_ 0 (aaG.2 q)).1;rw[Nat.zero_mul,e0]at this;cases this
 ·have:=(hH.nm r hr).2.2.1 0 (aaG.2 q);rw[bt,e0]at this;cases this
end
section
variable {rs:List aI}{NM:aI->List af}{NB:aI->Nat}{RK:af->Nat}{o:aM}{w:ae}
def Hand.right{p:Option Addr}{b c:Nat}(h:Hand o w p b c rs NM NB RK):jS rs NM RK:=⟨h.yes.nodup,h.low,h.yes.Bl,h.yes.eO,λr hr=>(h.nm r hr).2.2.2⟩
end
section
variable {o o':aM}{w w':ae}
end
def Ar(out:af):∀(xs l:List af),(jU out l xs).length<=l.length+xs.length
 | [],l=>by simp[jU]
 |x::xs,l=>by
  unfold jU;have:=Ar out xs (if D9 l x=true then l++[out] else l);split at this
  ·rename_i q;simp only[q,if_true]at *;simp at this |-;omega
  ·rename_i q;simp only[q]at *;simp at this |-;omega
def DW(out:af):∀(xs l:List af) (x:af),jU out l (xs++[x])=if D9 (jU out l xs) x=true then jU out l xs++[out] else jU out l xs
 | [],l,x=>rfl
 |y::xs,l,x=>by
  show jU out _ (xs++[x])=_;rw[DW out xs];rfl
def As(NM:aI->List af):∀(rs:List aI) (l:List af),(∀r∈rs,(NM r).length<=4)->(gO NM l rs).length<=l.length+4*rs.length
 | [],l,_=>by simp[gO]
 |r::rs,l,h=>by
  unfold gO;have h1:=As NM rs (jU r.out l (NM r)) λq hq=>h q (by simp[hq]);have h2:=Ar r.out (NM r) l;have h3:=h r ar;simp;omega
section
variable {Fin:bL}{o o':aM}{w w':ae}{S:Nat}{K:mK}{s:fO}{lab:Nat->Nat}{fv:Value}{fs:List (af×af)}{ed:Nat}{rp:Option Addr}{rb rc:Nat}{rs:List aI}{NM:aI->List af}{NB:aI->Nat}{RK:af->Nat}
def Rt(h:tj o w S K s lab (.slice rp rs.length rc) fv fs ed)(hH:Hand o w rp rb rc rs NM NB RK)(x:af):
  bA ax (XB ax Fin 0) 26 #[.pointer (so ⟨S,0,we⟩),.string x] o w λv o' w'=>fE o w o' w'/\nu o' w' w.heap.size 9 1 v (gO NM [x] rs).length ((gO NM [x] rs).map .string):=by
 have W:=bY (P:=ax) (Fin:=Fin) (d:=0);have hF:=h.dv.aH;have oS:=h.own;have lS:=hF.lt oS;have cS1:=(nW h.blk).2.1;have vU:=hH.gF;have h4:∀r∈rs,(NM r).length<=4:=λr hr=>(hH.nm r hr).2.2.2;refine bD W func26 ak ?_;walk_nrmf Tryz.f26;refine ay ?_;refine dm bS hF rfl ak ak ?_ rfl (R:=λwl v aX=>v=.slice (so ⟨wl.heap.size,0,we⟩) 1 1/\aX=wl.alloc (.cells #[.string x] 9)) (λwl aW=>⟨_,_,by simp[go_sem,Act.eval],rfl,rfl⟩) λwl v1 aX w1 aW EK bP=>?_
 ·exact mo bQ
 obtain⟨rfl,EK⟩:=EK;obtain⟨z1,k1,sV⟩:=bP.alloc hF aW EK;rw[aW.size];have G1:=fE.pW bP.aH aa k1;have oN:Go.Ren.grow o w w1 w.heap.size:=G1.all _ (ah _) aa;have UB:nu (Go.Ren.grow o w w1) w1 w.heap.size 9 1 (.slice (so ⟨w.heap.size,0,we⟩) 1 1) (gO NM [x] (rs.take 0)).length ((gO NM [x] (rs.take 0)).map .string):=by
  refine⟨⟨by simp[gO],.inr ⟨w.heap.size,1,#[.string x],rfl,ah _,sV,?_,?_,?_,?_⟩⟩,dW oN,aa⟩;all_goals first|rfl|(simp[gO];done)|(simp[gO,maxLen];done)|omega|exact ah _
 clear EK bP aW wl aX z1 k1 sV;generalize Go.Ren.grow o w w1=o1 at *;clear oN;refine ay ?_;refine gT W (λm a o' w'=>∃i,m+i=rs.length/\a.tmps.size=59/\a.defers=[]/\a.eval (.tmp 0)=.pointer (so ⟨S,0,we⟩)/\a.eval (.tmp 6)=.int .i64 (i:Nat)/\∃v,a.eval (.tmp 5)=v/\fE o w o' w'/\nu o' w' w.heap.size 9 1 v (gO NM [x] (rs.take i)).length ((gO NM [x] (rs.take i)).map .string)) (N:=rs.length) ⟨0,ar,rfl,rfl,aK,aK,_,aK,G1,UB⟩ ?_;clear G1 UB;rintro m a o2 w2 ⟨i,K2,fy,kN,i0,i6,v,i5,G,row⟩;obtain⟨gs,rfl⟩:=il fy kN;clear fy kN;simp only[List.range,List.range.loop,aC,aP]at i0 i5 i6 |-;simp[Act.eval]at i0 i5 i6;simp only[i0,i5,i6];clear i0 i5 i6;have rj:=G.br.aH;have oS2:=G.br.more _ oS;have cS2:=(cell_of (G.br.same S lS id)).trans cS1;by_cases hi:i<rs.length;rotate_left
 ·have hiI:¬(i:Int)<(rs.length:Int):=aa;rw[bV aa]at row;refine ay ?_;refine jJ rj oS2 cS2 λ_=>?_;refine ay ?_;exact⟨.inr trivial,trivial,_,resultsC_tmp (t:=4) ak _,G,by simpa[Act.eval] using row⟩
 have hiI:(i:Int)<(rs.length:Int):=aa;have hwi:IntKind.i64.wrap ((i:Int)+1)=((i+1:Nat):Int):=by rw[IntKind.wrap_i64]<;>omega
 obtain⟨ep,orb⟩:=hH.ptr (nlt hi);obtain⟨d0,-,d2⟩:=hH.at_ i hi;obtain⟨n1,n2,n3,n4⟩:=hH.nm rs[i] (aG hi);have Zz:=As NM (rs.take i) [x] λr hr=>h4 r (List.mem_of_mem_take hr);have afV:gO NM [x] (rs.take (i+1))=jU rs[i].out (gO NM [x] (rs.take i)) (NM rs[i]):=by rw[take_succ rs i hi,vI];rfl
 have hl0:(gO NM [x] (rs.take i)).length<=40:=by simp at Zz;omega
 clear Zz;rw[ep]at cS1 cS2;generalize rs[i]=r at *;generalize gO NM [x] (rs.take i)=l0 at *;refine ay ?_;refine jJ rj oS2 cS2 λ_=>?_;refine ay ?_;have lrb:=hF.lt orb;refine gT W (λm2 a o' w'=>∃j,m2+j=(NM r).length/\a.tmps.size=59/\a.defers=[]/\a.eval (.tmp 0)=.pointer (so ⟨S,0,we⟩)/\a.eval (.tmp 6)=.int .i64 (i:Nat)/\a.eval (.tmp 7)=.int .i64 (j:Nat)/\∃v,a.eval (.tmp 5)=v/\fE o w o' w'/\nu o' w' w.heap.size 9 1 v (jU r.out l0 ((NM r).take j)).length ((jU r.out l0 ((NM r).take j)).map .string)) (N:=(NM r).length) ⟨0,ar,rfl,rfl,aK,aK,aK,v,aK,G,row⟩ ?_;clear G row rj oS2 cS2;rintro m2 a o3 w3 ⟨j,hmj,fy,kN,i0,i6,i7,v3,i5,G,row⟩;obtain⟨gs,rfl⟩:=il fy kN;clear fy kN;simp only[List.range,List.range.loop,aC,aP]at i0 i5 i6 i7 |-;simp[Act.eval]at i0 i5 i6 i7;simp only[i0,i5,i6,i7];clear i0 i5 i6 i7;have mJ:=G.br.aH;have Zt:=G.br.more _ oS;have Ym:=G.br.more _ orb;have cS3:=(cell_of (G.br.same S lS id)).trans cS1;have d03:=(cell_of (G.br.same rb lrb id)).trans d0;have d23:=(cell_of (G.br.same rb lrb id)).trans d2;have hlj:=Ar r.out ((NM r).take j) l0;have Bi:(jU r.out l0 ((NM r).take j)).length<=44:=by simp at hlj;omega
 clear hlj;by_cases hj:j<(NM r).length;rotate_left
 ·have hjI:¬(j:Int)<((NM r).length:Int):=aa;rw[n1]at d23;rw[bV aa,<- afV]at row;refine ay ?_;refine jJ mJ Zt cS3 λ_=>?_;refine ay ?_;refine jJ mJ Ym d23 λ_=>?_;refine ay ?_;exact⟨m-1,aa,i+1,aa,dR,dR,aK,by simp[Act.eval,hwi],v3,aK,G,row⟩
 have hjI:(j:Int)<((NM r).length:Int):=aa;have Z6:IntKind.i64.wrap ((j:Int)+1)=((j+1:Nat):Int):=by rw[IntKind.wrap_i64]<;>omega
 obtain⟨es,UQ⟩:=n2 (nlt hj);have ct:=n3 j hj;rw[bt]at ct;have ct3:=(cell_of (G.br.same (NB r) (hF.lt UQ) id)).trans ct;have Vx:=G.br.more _ UQ;rw[n1,es]at d23;have OV:jU r.out l0 ((NM r).take (j+1))=if D9 (jU r.out l0 ((NM r).take j)) (NM r)[j]=true then jU r.out l0 ((NM r).take j)++[r.out] else jU r.out l0 ((NM r).take j):=by rw[take_succ (NM r) j hj,DW]
 obtain⟨tp,tl,tc,rfl⟩:=kK row.row;have Y0:=yT row.row rfl;subst Y0;obtain⟨tb,t1,t2⟩:=row.texts mJ;generalize (NM r)[j]=z at *;generalize jU r.out l0 ((NM r).take j)=l at *;refine ay ?_;refine jJ mJ Zt cS3 λ_=>?_;refine ay ?_;refine jJ mJ Ym d23 λ_=>?_;refine ay ?_;refine jJ mJ Zt cS3 λ_=>?_;refine ay ?_;refine jJ mJ Ym d23 λ_=>?_;refine ay ?_;refine jJ mJ Vx ct3 λ_=>?_;refine ay ?_;refine b5 func27 (Ht mJ tb 0 tc tp l z aa t1 t2 row.cl) ?_;rintro v4 o4 w4 ⟨rfl,N4⟩;have G4:=G.trans (fE.dJ N4);have Uq:=row.iS (fE.dJ N4);have rn:=G4.br.aH;have Eb:=G4.br.more _ oS;have afW:=G4.br.more _ orb;have cS4:=(cell_of (G4.br.same S lS id)).trans cS1;have d04:=(cell_of (G4.br.same rb lrb id)).trans d0;clear N4 G row mJ Zt Ym cS3 d03 d23 ct3 Vx;by_cases pg:D9 l z=true;rotate_left
 ·have SX:D9 l z=false:=by simpa using pg
  rw[if_neg pg]at OV;rw[SX];refine ay ?_;exact⟨m2-1,aa,j+1,aa,dR,dR,aK,aK,by simp[Act.eval,Z6],.slice tp l.length tc,aK,G4,by rw[OV];exact Uq⟩
 rw[if_pos pg]at OV;rw[pg];refine ay ?_;refine jJ rn Eb cS4 λ_=>?_;refine ay ?_;refine jJ rn afW d04 λ_=>?_;refine ay ?_;refine dm bS rn rfl ak ak ?_ rfl (R:=λwl v aX=>v=.slice (so ⟨wl.heap.size,0,we⟩) 1 1/\aX=wl.alloc (.cells #[.string r.out] 9)) (λwl aW=>⟨_,_,by simp[go_sem,Act.eval],rfl,rfl⟩) λwl v1 aX w5 aW RX bP=>?_
 ·exact mo bQ
 obtain⟨rfl,RX⟩:=RX;obtain⟨z5,k5,Kf⟩:=bP.alloc rn aW RX;rw[aW.size];have Gx:=fE.pW bP.aH aa k5;have oN:Go.Ren.grow o4 w4 w5 w4.heap.size:=Gx.all _ (ah _) aa;have G5:=G4.trans Gx;have Rv:=Uq.iS Gx;clear RX bP aW wl aX z5 k5;generalize w4.heap.size=A at *;generalize Go.Ren.grow o4 w4 w5=o5 at *;clear G4 Uq rn Eb afW cS4 d04 Gx;have K5:=G5.br.aH;refine ay ?_;refine dm bS K5 rfl ak ak ?_ rfl (R:=λwl y aX=>aX.ownsRow w.heap.size 9 1 y (l++[r.out]).length ((l++[r.out]).map .string)/\wl.grownBy aX (Value.slice tp l.length tc).ownBlock/\(y.ownBlock=(Value.slice tp l.length tc).ownBlock\/y.ownBlock=so wl.heap.size)) (λwl aW=>?_) λwl y6 aX w6 aW hR6 bP=>?_
 ·intro y hy;simp[Op.operands,Call.operands]at hy;rcases hy with rfl|rfl
  ·simp[Act.eval];exact Rv.cl
  ·simp[Act.eval];exact dW oN
 ·obtain⟨v',W',e1,e2,e3,e4⟩:=DI wl w.heap.size (.slice tp l.length tc) l r.out A (dC Rv.row λg hg _=>aW.heap g (iC K5 Rv.cl g hg.symm)) aa (by rw[aW.size];exact Rv.low) ((aW.heap _ oN).trans Kf);exact⟨v',W',jz (.tmp 47) (.tmp 56) 40 rfl aK aK e1,e2,e3,e4⟩
 obtain⟨r1,r2,r3⟩:=hR6;obtain⟨q1,q2,q3⟩:=nu.add K5 Rv aW bP r1 r2 r3;have G6:=G5.row (λb hb=>(Rv.lt b hb).1) q2;generalize Go.Ren.grow o5 w5 w6=o6 at *;clear r1 r2 r3 q2 q3 bP aW wl aX;refine ay ?_;exact⟨m2-1,aa,j+1,aa,dR,dR,aK,aK,by simp[Act.eval,Z6],y6,aK,G6,by rw[OV];exact q1⟩
end
section
variable {Fin:bL}{o o' o1:aM}{w w' w1:ae}{S:Nat}{K:mK}{s s':fO}{lab lab' dD:Nat->Nat}{rv fv:Value}{fs:List (af×af)}{ed et cnt Nr:Nat}{rs:List aI}{NM:aI->List af}{RK:af->Nat}{lk:Int}{J:fO->Prop}
def Vy{B:uO}{fd:Option (Nat×cT)}{old:Nat->Option (Nat×List V)}(h:fL o w B fd old):(dZ B.NM B.rs).length<=32:=by
 have q1:=uK (lF (B.rs.map (·.out)) (D8 B.NM B.rs) B.rs.length);have q2:=oM (B.rs.map (·.out)) (D8 B.NM B.rs) B.rs.length (λi hi=>by rw[lu hi];exact h.right.four _ (aG hi)) B.rs.length (ah _);have q3:=h.rules.gF;have:(dZ B.NM B.rs).length<=(lF (B.rs.map (·.out)) (D8 B.NM B.rs) B.rs.length).length:=q1;omega
def Vz{N:Nat}(hN:s.src.length<=N):iR N s<=2*N+6:=by
 unfold iR;split
 ·omega
 ·split
  ·omega
  ·split
   ·omega
   ·split<;>omega
structure RInv(J:fO->Prop)(o:aM)(w:ae)(KC:Nat->Nat)(S:Nat)(K:mK)(rv fv:Value)(fs:List (af×af))(ed et:Nat)(rs:List aI)(NM:aI->List af)(RK:af->Nat)(cnt:Nat)(q:Prop)(s:fO)(lab:Nat->Nat)(o':aM)(w':ae):Prop where
 cL:tj o' w' S K s lab rv fv fs ed
 step:fU S o w KC o' w' lab
 told:Told K rs NM RK s et cnt
 quick:q->yY s
 j:J s
def RInv.Bl{q:Prop}(h:RInv J o w lab S K rv fv fs ed et rs NM RK cnt q s dD o1 w1):iR (dZ K.B.NM K.B.rs).length s<=100:=by
 have h1:=Vy h.cL.dv.build;have:=Vz (s:=s) (N:=(dZ K.B.NM K.B.rs).length) (by
  by_cases hp:s.phase=2\/s.phase=3
  ·rw[h.cL.sound.src hp];exact ah _
  ·rw[(h.cL.sound.idle (by have:=h.cL.sound.ph;omega)).1];simp)
 omega
def RInv.work{q:Prop}{F:cT}{v:Value}(h:RInv J o w lab S K rv fv fs ed et rs NM RK cnt q s dD o1 w1)(IL:fQ rs NM RK K.B)(hc:cnt<4611686018427387904)(hf:(s.phase=2\/s.phase=3)->∃lo,s.fd=so (lo,F))(hw:gL K s s' F (fileOf s.src (s.rd.map (·.1))) v)(hs:Sound K s')(hj:J s')(hk:bp o' w' K s' 0 lab')(T:cU o1 w1 dD o' w' lab'):RInv J o w lab S K rv fv fs ed et rs NM RK (cnt+1) q s' lab' o' w'/\(0<iR (dZ K.B.NM K.B.rs).length s->iR (dZ K.B.NM K.B.rs).length s'<iR (dZ K.B.NM K.B.rs).length s)/\(iR (dZ K.B.NM K.B.rs).length s=0->s'=s/\v=did 0 aR):=by
 obtain⟨n,y,hv,-,-,-,Ze,-⟩:=hw.kind;have vU:=h.cL.dv.gF;refine⟨⟨h.cL.work hk hs T Ze,h.step.k T,h.told.work h.cL.sound IL (λp=>?_) hc hw,λhq=>(h.quick hq).work vU.2.2.2.2.2 hw,hj⟩,Rk rfl h.cL.sound vU.2.2.2.2.1 vU.2.2.2.2.2 hw⟩;obtain⟨lo,e⟩:=hf p;exact h.cL.dv.Rj lo F e
def RInv.goes{q:Prop}{F:cT}{v:Value}(h:RInv J o w lab S K rv fv fs ed et rs NM RK cnt q s dD o1 w1)(hJw:∀{s s' F v},Sound K s->(s.phase=2\/s.phase=3->ly K.B F)->(0<=s.num/\s.num<4611686018427387904)->s.rd.length<=s.src.length->gL K s s' F (fileOf s.src (s.rd.map (·.1))) v->J s->J s')(hf:(s.phase=2\/s.phase=3)->∃lo,s.fd=so (lo,F))(hw:gL K s s' F (fileOf s.src (s.rd.map (·.1))) v)(hc:cnt<4611686018427387904):J s' :=
 hJw h.cL.sound (λp=>by obtain⟨lo,e⟩:=hf p;exact h.cL.dv.Rj lo F e) (by have:=h.told.num;omega) h.cL.dv.gF.2.2.2.2.2 hw h.j
def RInv.tick{q:Prop}{t:Nat}(h:RInv J o w lab S K rv fv fs ed et rs NM RK cnt q s dD o1 w1)(h0:iR (dZ K.B.NM K.B.rs).length s=0)(ht:s.time+5<=t)(hj:J {s with time:=t})(hk:bp o' w' K {s with time:=t} 0 dD)(T:cU o1 w1 dD o' w' dD):RInv J o w lab S K rv fv fs ed et rs NM RK cnt True {s with time:=t} dD o' w' :=
 ⟨h.cL.work hk (h.cL.sound.tick t) T rfl,h.step.k T,h.told.tick t,λ_=>Ns h.cL.sound h0 h.cL.dv.gF.2.2.2.1 ht,hj⟩
def RInv.k{q:Prop}(h:RInv J o w lab S K rv fv fs ed et rs NM RK cnt q s dD o1 w1)(T:cU o1 w1 dD o' w' lab')(hk:bp o' w' K s 0 lab'):RInv J o w lab S K rv fv fs ed et rs NM RK cnt q s lab' o' w' :=
 ⟨h.cL.work hk h.cL.sound T rfl,h.step.k T,h.told,h.quick,h.j⟩
def OW[Payload](h:tj o w S K s lab rv fv fs ed)(hT:Told K rs NM RK s et cnt)(IL:fQ rs NM RK K.B)(hc:cnt<4000000000000000000)(hJ:J s)(hJt:∀s t,J s->J {s with time:=t})(hJw:∀{s s' F v},Sound K s->(s.phase=2\/s.phase=3->ly K.B F)->(0<=s.num/\s.num<4611686018427387904)->s.rd.length<=s.src.length->gL K s s' F (fileOf s.src (s.rd.map (·.1))) v->J s->J s'):
  bA ax (XB ax Fin 0) 23 #[.pointer (so ⟨S,0,we⟩)] o w λv o' w'=>∃s' lab',(RInv J o w lab S K rv fv fs ed et rs NM RK (cnt+400) True s' lab' o' w'/\s'.phase=0/\v=.tuple #[.bool true,.bool true])\/(RInv J o w lab S K rv fv fs ed et rs NM RK (cnt+400) False s' lab' o' w'/\v=.tuple #[.bool false,.bool true]):=by
 have W:=bY (P:=ax) (Fin:=Fin) (d:=0);refine bD W func23 ak ?_;walk_nrmf Tryz.f23;refine ay ?_;refine gT W (λm a o' w'=>∃n,m+n=3/\a.tmps.size=41/\a.defers=[]/\a.eval (.tmp 0)=.pointer (so ⟨S,0,we⟩)/\a.eval (.tmp 4)=.int .i64 (n:Nat)/\∃s' lab',RInv J o w lab S K rv fv fs ed et rs NM RK (cnt+100*n) (1<=n) s' lab' o' w'/\(2<=n->s'.phase=0)) (N:=3) ⟨0,rfl,rfl,rfl,aK,aK,s,lab,⟨h,fU.refl h.dv.aH,hT,λq=>absurd q aa,hJ⟩,λq=>absurd q aa⟩ ?_;rintro m a o1 w1 ⟨n,hmn,fy,kN,i0,i4,s1,dD,hI,hph⟩;obtain⟨gs,rfl⟩:=il fy kN;clear fy kN;simp only[List.range,List.range.loop,aC,aP]at i0 i4 |-;simp[Act.eval]at i0 i4;simp only[i0,i4];clear i0 i4;by_cases hn:n<3
 ·have hnI:(n:Int)<3:=aa;have hwn:IntKind.i64.wrap ((n:Int)+1)=((n+1:Nat):Int):=by rw[IntKind.wrap_i64]<;>omega
  refine ay ?_;refine gT W (λm2 a o' w'=>∃i,m2+i=100/\a.tmps.size=41/\a.defers=[]/\a.eval (.tmp 0)=.pointer (so ⟨S,0,we⟩)/\a.eval (.tmp 4)=.int .i64 (n:Nat)/\a.eval (.tmp 5)=.int .i64 (i:Nat)/\∃s' lab',RInv J o w lab S K rv fv fs ed et rs NM RK (cnt+100*n+i) (1<=n) s' lab' o' w'/\iR (dZ K.B.NM K.B.rs).length s'<=100-i) (N:=100) ⟨0,rfl,rfl,rfl,aK,aK,aK,s1,dD,hI,hI.Bl⟩ ?_;clear hI hph s1 dD;rintro m2 a o2 w2 ⟨i,K2,fy,kN,i0,i4,i5,s1,dD,hI,VY⟩;obtain⟨gs,rfl⟩:=il fy kN;clear fy kN;simp only[List.range,List.range.loop,aC,aP]at i0 i4 i5 |-;simp[Act.eval]at i0 i4 i5;simp only[i0,i4,i5];clear i0 i4 i5;by_cases hi:i<100
  ·have hiI:(i:Int)<100:=aa;have hwi:IntKind.i64.wrap ((i:Int)+1)=((i+1:Nat):Int):=by rw[IntKind.wrap_i64]<;>omega
   refine ay ?_;refine jJ hI.cL.dv.aH hI.cL.own (nW hI.cL.blk).1 λ_=>?_;refine ay ?_;refine b5 func38 (uS hI.cL.dv hI.cL.sound) ?_;rintro v3 o3 w3 ⟨s3,mB,F3,X4,RY,u3,h3,T3⟩;obtain⟨VA,lA,GP⟩:=hI.work IL aa X4 RY u3 (hI.goes hJw X4 RY aa) h3 T3;have akV:iR (dZ K.B.NM K.B.rs).length s3<=100-(i+1):=by
    by_cases q:0<iR (dZ K.B.NM K.B.rs).length s1
    ·have:=lA q;omega
    ·rw[(GP aa).1];omega
   refine ay ?_;exact⟨m2-1,aa,i+1,aa,dR,dR,aK,aK,by simp[Act.eval,hwi],s3,mB,VA,akV⟩
  ·have hiI:¬(i:Int)<100:=aa;have h0:iR (dZ K.B.NM K.B.rs).length s1=0:=aa;refine ay ?_;refine jJ hI.cL.dv.aH hI.cL.own (nW hI.cL.blk).1 λ_=>?_;refine ay ?_;refine b5 func37 (MS hI.cL.dv 5) ?_;rintro v3 o3 w3 ⟨rfl,z3,k3,⟨rfl,-,h3⟩|⟨rfl,-,h3⟩⟩
   ·have T3:cU o3 w2 dD o3 w3 dD:=cU.of (bC.dM (ex:=(·=K.kb)) h3.aH ⟨z3,k3⟩ rfl) (λb hb=>by rw[hb,hI.cL.dv.l0];omega);refine ay ?_;exact⟨.inr trivial,trivial,_,resultsC_tmp2 (t:=2) (u:=3) ak _,s1,dD,.inr ⟨⟨hI.cL.work h3 hI.cL.sound T3 rfl,hI.step.k T3,hI.told.up aa,False.elim,hI.j⟩,aK⟩⟩
   ·have T3:cU o3 w2 dD o3 w3 dD:=cU.of (bC.dM (ex:=(·=K.kb)) h3.aH ⟨z3,k3⟩ rfl) (λb hb=>by rw[hb,hI.cL.dv.l0];omega);have VA:=hI.tick h0 ar (hJt _ _ hI.j) h3 T3;refine ay ?_;exact⟨m-1,aa,n+1,aa,dR,dR,aK,by simp[Act.eval,hwn],_,dD,⟨VA.cL,VA.step,VA.told.up aa,λ_=>VA.quick trivial,VA.j⟩,λq=>(hI.quick aa).rest h0⟩
 ·have hnI:¬(n:Int)<3:=aa;have VN:=hph aa;have Tu:yY s1:=hI.quick aa;have hI0:RInv J o w lab S K rv fv fs ed et rs NM RK (cnt+300) True s1 dD o1 w1:=⟨hI.cL,hI.step,hI.told.up aa,λ_=>Tu,hI.j⟩;have h0:iR (dZ K.B.NM K.B.rs).length s1=0:=OT aa Tu.told (λq=>aa);clear hI hph Tu;refine ay ?_;refine gT W (λm a o' w'=>∃n,m+n=3/\a.tmps.size=41/\a.defers=[]/\a.eval (.tmp 0)=.pointer (so ⟨S,0,we⟩)/\a.eval (.tmp 7)=.int .i64 (n:Nat)/\∃lab',RInv J o w lab S K rv fv fs ed et rs NM RK (cnt+300+n) True s1 lab' o' w') (N:=3) ⟨0,rfl,rfl,rfl,aK,aK,dD,hI0⟩ ?_;clear hI0;rintro m2 a o2 w2 ⟨i,K2,fy,kN,i0,i7,iH,hI⟩;obtain⟨gs,rfl⟩:=il fy kN;clear fy kN;simp only[List.range,List.range.loop,aC,aP]at i0 i7 |-;simp[Act.eval]at i0 i7;simp only[i0,i7];clear i0 i7;by_cases hi:i<3
  ·have hiI:(i:Int)<3:=aa;have hwi:IntKind.i64.wrap ((i:Int)+1)=((i+1:Nat):Int):=by rw[IntKind.wrap_i64]<;>omega
   refine ay ?_;refine jJ hI.cL.dv.aH hI.cL.own (nW hI.cL.blk).1 λ_=>?_;refine ay ?_;refine b5 func38 (uS hI.cL.dv hI.cL.sound) ?_;rintro v3 o3 w3 ⟨s3,mB,F3,X4,RY,u3,h3,T3⟩;obtain⟨VA,-,GP⟩:=hI.work IL aa X4 RY u3 (hI.goes hJw X4 RY aa) h3 T3;obtain⟨rfl,rfl⟩:=GP h0;clear hI X4 RY u3 h3 T3;unfold did;refine ay ?_;refine uV 0 aR VA.cL.dv λD o4 w5 sx hD hV=>?_;have OX:=VA.k hV.step hV.dv;have oD:=hV.own;have K5:=hV.dv.aH;obtain⟨cD0,cD1,-⟩:=dY hV.blk;clear VA hV hD;refine ay ?_;refine dK bS K5 rfl ak ak ?_ rfl (v:=.agg #[.int .i64 0,.string aR]) (λwl aW=>by simp[go_sem,(aW.cell oD).trans cD0,(aW.cell oD).trans cD1]) λ_=>?_
   ·exact mo (bX oD)
   refine ay ?_;refine zC W (v:=.bool false) rfl ak (λw3=>by simp[go_sem,KN];rfl) (λw3=>by simp[go_sem,KO,EZ]) ?_;refine ay ?_;exact⟨m2-1,aa,i+1,aa,dR,dR,aK,by simp[Act.eval,hwi],sx,OX⟩
  ·have hiI:¬(i:Int)<3:=aa;refine ay ?_;exact⟨.inr trivial,trivial,_,resultsC_tmp2 (t:=2) (u:=3) ak _,s1,iH,.inl ⟨⟨hI.cL,hI.step,hI.told.up aa,hI.quick,hI.j⟩,VN,aK⟩⟩
end
section
variable {Fin:bL}{o o' o1 o2:aM}{w w' w1 w2:ae}{S:Nat}{K:mK}{s s2:fO}{lab dD iH:Nat->Nat}{rv fv:Value}{fs:List (af×af)}{ed et cnt:Nat}{rs:List aI}{NM:aI->List af}{RK:af->Nat}
structure afX(o:aM)(w:ae)(S:Nat)(K:mK)(s:fO)(lab:Nat->Nat)(rv fv:Value)(fs:List (af×af))(ed:Nat)(x t:af)(qv:Value)(o':aM)(w':ae)(lab':Nat->Nat):Prop where
 dv:bp o' w' K {s with th:=gi s.th x t,st:=gi s.st x (IntKind.i64.wrap (cN s.st x+1)),qv:=qv,qn:=(iw s.qn s.lost x).1,lost:=(iw s.qn s.lost x).2} 0 lab'
 step:fU S o w lab o' w' lab'
 blk:w'.heap[S]?=so (.cells #[.pointer (so ⟨K.kb,0,we⟩),rv,fv,.int .i64 ed] 39)
 own:o' S
 KI:lab' S=7
 files:px o' w' fv fs
 Vg:∀g,fv.ownBlock=so g->lab' g=7/\g≠S
def OY(h:tj o w S K s lab rv fv fs ed){x t:af}(hx:x∈kj)(ht:t.size<=12):
  bA ax (XB ax Fin 0) 21 #[.pointer (so ⟨K.kb,0,we⟩),.string x,.string t] o w λv o' w'=>v=.int .i64 0/\∃qv lab',afX o w S K s lab rv fv fs ed x t qv o' w' lab':=by
 have hn:=pX hx;have sl:=h.dv.aH.lt h.own;refine(MT h.dv x t (by have:=hn.2.1;omega)).mono ?_;rintro v o' w' ⟨lab',T,hq⟩;rcases hq with⟨e,-,-,Ha,-⟩|⟨rfl,-,qv,hk⟩
 ·exact absurd ⟨hn,ht,λq=>by have:=h.yW.gF.1;omega⟩ Ha
 obtain⟨hf,hl⟩:=h.files.step h.Vg ((fU.refl (S:=S) h.dv.aH).k T) h.dv.aH;exact⟨rfl,qv,lab',hk,(fU.refl h.dv.aH).k T,(T.br.same S sl (by rw[h.KI];omega)).trans h.blk,T.br.more _ h.own,(T.lab S sl).trans h.KI,hf,hl⟩
def VB{x t:af}{qv:Value}(h:afX o w S K s lab rv fv fs ed x t qv o1 w1 dD)(hs:Sound K s)(yW:gf s fs)(hx:x∈kj)(ht:t.size<=12):
  bA ax (XB ax Fin 0) 22 #[.pointer (so ⟨S,0,we⟩),.string x,.string t,.bool true] o1 w1 λv o' w'=>v=.tuple #[]/\∃lab' xC,tj o' w' S K {s with th:=gi s.th x t,st:=gi s.st x (IntKind.i64.wrap (cN s.st x+1)),qv:=qv,qn:=(iw s.qn s.lost x).1,lost:=(iw s.qn s.lost x).2} lab' rv xC (oW fs x t true) ed/\fU S o w lab o' w' lab'/\∀g,xC.ownBlock=so g->w1.heap.size<=g:=by
 have sl:=h.dv.aH.lt h.own;refine(OL h.dv.aH S _ rv fv ed fs x t true h.blk h.own h.files (by have:=yW.gF;omega) (λe=>(h.Vg S e).2 rfl)).mono ?_;rintro v o2 w2 ⟨rfl,Wp,V4,Qt,hf2,za⟩;obtain⟨iH,h2,U2,Ny,VT⟩:=h.dv.X3 h.KI sl Wp;exact⟨rfl,iH,V4,⟨h2,hs.edit ht _ _,Qt,Wp.more _ h.own,(Ny S sl).trans h.KI,hf2,λg hg=>⟨VT g (za g hg),by have:=za g hg;omega⟩,yW.edit t hx rfl⟩,h.step.trans U2,za⟩
end
section
variable {Fin:bL}{o o' o1 o2:aM}{w w' w1 w2:ae}{S L:Nat}{K:mK}{s s' s2:fO}{lab lab' dD iH:Nat->Nat}{rv fv V4:Value}{fs Nh:List (af×af)}{ed Ni et et2 cnt Nr:Nat}{rp:Option Addr}{rb rc:Nat}{rs:List aI}{NM:aI->List af}{NB:aI->Nat}{RK:af->Nat}{num:Int}{pa:Option Addr}{ba ca:Nat}{tv:Value}{res:List (af×V)}
structure TS(o:aM)(w:ae)(S:Nat)(K:mK)(rp:Option Addr)(rb rc:Nat)(rs:List aI)(NM:aI->List af)(NB:aI->Nat)(s:fO)(lab:Nat->Nat)(fv:Value)(fs:List (af×af))(ed et cnt:Nat)(o':aM)(w':ae):Prop where
 cL:tj o' w' S K s lab (.slice rp rs.length rc) fv fs ed
 old:bC (λ_=>False) o w o' w'
 Yl:∀b,b<w.heap.size->7<=lab b
 sge:w.heap.size<=S
 hand:Hand o' w' rp rb rc rs NM NB AZ
 pw:∀g,oX rs NM NB rb g->lab g=7/\g≠S
 told:Told K rs NM AZ s et cnt
 thr:BL K s et
def TS.go(h:TS o w S K rp rb rc rs NM NB s dD fv fs ed et cnt o1 w1)(sh:tj o2 w2 S K s2 iH (.slice rp rs.length rc) V4 Nh Ni)(U:fU S o1 w1 dD o2 w2 iH)(ht:Told K rs NM AZ s2 et2 Nr)(hr:BL K s2 et2):TS o w S K rp rb rc rs NM NB s2 iH V4 Nh Ni et2 Nr o2 w2:=by
 have z1:=h.old.size;have z2:=U.br.size;refine⟨sh,⟨U.br.aH,λb hb=>U.br.more b (h.old.more b hb),λb hb=>(U.br.new b hb).elim (λq=>h.old.new b q) λq=>.inr aa,aa,λb hb hx=>(U.br.same b aa ?_).trans (h.old.same b hb hx)⟩,λb hb=>by rw[U.lab b aa];exact h.Yl b hb,h.sge,h.hand.keep U.br.more λg hg=>U.br.same g (h.hand.lt h.cL.dv.aH hg) ?_,λg hg=>⟨(U.lab g (h.hand.lt h.cL.dv.aH hg)).trans (h.pw g hg).1,(h.pw g hg).2⟩,ht,hr⟩
 ·have:=h.Yl b hb;have:=h.sge;omega
 ·have:=h.pw g hg;omega
def TS.k(h:TS o w S K rp rb rc rs NM NB s dD fv fs ed et cnt o1 w1)(T:cU o1 w1 dD o2 w2 iH)(hk:bp o2 w2 K s 0 iH):TS o w S K rp rb rc rs NM NB s iH fv fs ed et cnt o2 w2 :=
 h.go (h.cL.work hk h.cL.sound T rfl) ((fU.refl (S:=S) h.cL.dv.aH).k T) h.told h.thr
def TS.of(h:SS o w S K rp rb rc rs NM NB s dD fv fs ed cnt o1 w1)(ht:BL K s ed):TS o w S K rp rb rc rs NM NB s dD fv fs ed ed cnt o1 w1:=⟨h.cL,h.old,h.Yl,h.sge,h.hand,h.pw,h.told,ht⟩
structure OZ(o:aM)(w:ae)(lab:Nat->Nat)(S L:Nat)(num:Int)(pa:Option Addr)(ba ca:Nat)(tv:Value)(res:List (af×V)):Prop where
 blk:w.heap[L]?=so (.cells #[.int .i64 num,.slice pa res.length ca,tv] 59)
 own:o L
 abN:lab L=7/\L≠S
 res:(res≠[]->pa=so ⟨ba,0,we⟩/\o ba/\lab ba=7/\ba≠S)/\oT w ba res
def OZ.go(h:OZ o1 w1 dD S L num pa ba ca tv res)(hF:bO ax L0 o1 w1)(U:fU S o1 w1 dD o2 w2 iH):OZ o2 w2 iH S L num pa ba ca tv res:=by
 have lL:=hF.lt h.own;refine⟨(U.br.same L lL (by have:=h.abN;omega)).trans h.blk,U.br.more _ h.own,⟨(U.lab L lL).trans h.abN.1,h.abN.2⟩,λq=>⟨(h.res.1 q).1,U.br.more _ (h.res.1 q).2.1,(U.lab ba (hF.lt (h.res.1 q).2.1)).trans (h.res.1 q).2.2.1,(h.res.1 q).2.2.2⟩,λi hi=>?_⟩;have q:res≠[]:=λq=>by rw[q]at hi;simp at hi
 exact jj h.res.2 (U.br.same ba (hF.lt (h.res.1 q).2.1) (by have:=(h.res.1 q).2.2;omega)) i hi
def Told.edit(h:Told K rs NM RK s et cnt)(hs:Sound K s)(x:af)(th:List (af×af))(st:List (af×Int))(qv:Value):Told K rs NM RK {s with th:=th,st:=st,qv:=qv,qn:=(iw s.qn s.lost x).1,lost:=(iw s.qn s.lost x).2} (et+1) cnt:=by
 have ht:=vf s x th st qv hs;exact⟨λq=>aa,λ_ q=>absurd ht q,λ_ _ q=>absurd ht q,h.num⟩
def Rw{K:mK}{et:Nat}:∀{s s' F v},Sound K s->(s.phase=2\/s.phase=3->ly K.B F)->(0<=s.num/\s.num<4611686018427387904)->s.rd.length<=s.src.length->gL K s s' F (fileOf s.src (s.rd.map (·.1))) v->BL K s et->BL K s' et:=λhs hp hn _ hw h=>(h.work hs hp hn hw).1
def Nt{K:mK}{et:Nat}{s0:fO}{th:List (af×af)}:∀{s s' F v},Sound K s->(s.phase=2\/s.phase=3->ly K.B F)->(0<=s.num/\s.num<4611686018427387904)->s.rd.length<=s.src.length->gL K s s' F (fileOf s.src (s.rd.map (·.1))) v->(BL K s et/\vg K s0 s/\s.th=th)->(BL K s' et/\vg K s0 s'/\s'.th=th):=λhs hp hn hr hw h=>by
 obtain⟨n,y,-,-,-,-,e,-⟩:=hw.kind;exact⟨(h.1.work hs hp hn hw).1,h.2.1.work h.1 hs hp hn hr hw,e.trans h.2.2⟩
def DV.of{rs:List aI}{NM:aI->List af}(h:Ai rs NM AZ)(hl:rs.length<=8)(hn:∀i (h:i<rs.length),rs[i].out=iD i):DV rs NM:=λi hi x hx ho=>by
 obtain⟨r,hr,rfl⟩:=aag.1 ho;obtain⟨j,hj,rfl⟩:=a8 hr;have:=h.Bl rs[i] (aG hi) rs[j].out hx ho;rw[hn j hj,hn i hi,tg aa,tg aa]at this;exact⟨j,this,rfl⟩
end
section
variable {Fin:bL}{o o':aM}{w w':ae}
def Rx[Payload](hF:bO ax L0 o w)(pow:jh w)(p:Option Addr)(b off c:Nat)(rw:List Hu)(hR:wK Fin w p b off rw)(q:Option Addr)(qb Vp d:Nat)(xs:List (Int×Int×Int))(hX:KJ Fin w q qb Vp xs)(nm ct:Int)(ag:Bool)(vq:-9223372036854775808<=nm/\nm<=9223372036854775807)(hct:-9223372036854775808<=ct/\ct<=9223372036854775807):
  FZ ax (XB ax Fin 0) 6 Tryz.f6 #[.slice p rw.length c,.slice q xs.length d,.int .i64 nm,.int .i64 ct,.bool ag] o w λv o' w'=>v=.bool true/\bC (λ_=>False) o w o' w':=by
 have W:=bY (P:=ax) (Fin:=Fin) (d:=0);have CX:=hX.Gc;refine⟨_,ak,?_⟩;walk_nrmf Tryz.f6;refine ay ?_;refine b5 func13 (Va hF pow p b off c rw hR) ?_;rintro v1 o1 w1 eW;obtain⟨S,K,pb,dD,rp,rb,rc,rs,NM,NB,rfl,hWS,h1,KD,Fi⟩:=Rs eW;clear eW;have hTS:=TS.of hWS (akS K pb);refine ay ?_;refine dK bS h1.aH rfl ak ak ?_ rfl (v:=.bool false) (λwl aW=>by simp[go_sem,aj0]) λ_=>?_
 ·exact jF (bX hWS.cL.own) BC
 clear h1 hWS;generalize s0 pb=s at *;refine ay ?_;refine gT W (λm a o' w'=>∃i,m+i=xs.length/\a.tmps.size=211/\a.defers=[]/\a.eval (.tmp 1)=.slice q xs.length d/\a.eval (.tmp 2)=.int .i64 nm/\a.eval (.tmp 3)=.int .i64 ct/\a.eval (.tmp 4)=.bool ag/\a.eval (.tmp 11)=.pointer (so ⟨S,0,we⟩)/\a.eval (.tmp 12)=.int .i64 i/\∃s lab fv fs ed,ed<=i/\TS o w S K rp rb rc rs NM NB s lab fv fs ed ed i o' w') (N:=xs.length) ⟨0,ar,rfl,rfl,aK,aK,aK,aK,aK,aK,_,_,_,_,_,ah _,hTS⟩ ?_;clear hTS;rintro m a o1 w1 ⟨i,K2,fy,kN,i1,i2,i3,i4,i11,i12,s,lab,fv,fs,ed,Vh,hW⟩;obtain⟨gs,rfl⟩:=il fy kN;clear fy kN;simp only[List.range,List.range.loop,aC,aP]at i1 i2 i3 i4 i11 i12 |-;simp[Act.eval]at i1 i2 i3 i4 i11 i12;simp only[i1,i2,i3,i4,i11,i12];clear i1 i2 i3 i4 i11 i12;by_cases hi:i<xs.length
 ·have hiI:(i:Int)<(xs.length:Int):=aa;have hwi:IntKind.i64.wrap ((i:Int)+1)=((i+1:Nat):Int):=by rw[IntKind.wrap_i64]<;>omega
  obtain⟨eq,oqb,qbl⟩:=hX.ptr (nlt hi);subst eq;obtain⟨c0,c1,c2⟩:=hX.at_ i hi;obtain⟨⟨rg1,rg2⟩,rg3,rg4⟩:=hX.Zn xs[i] (aG hi);rcases hxi:xs[i] with⟨kd,ea,eb⟩;rw[hxi]at c0 c1 c2 rg1 rg2 rg3 rg4;simp only at c0 c1 c2 rg1 rg2 rg3 rg4;clear hxi;have eb1:=hW.old.same qb qbl id;have c0':=(cell_of eb1).trans c0;have Eg:=(cell_of eb1).trans c1;have c2':=(cell_of eb1).trans c2;refine ay ?_;refine sB oqb rfl ak rfl (v:=.agg #[.int .i64 kd,.int .i64 ea,.int .i64 eb]) (λwl aW=>by simp[go_sem,aW.cell.trans c0',aW.cell.trans Eg,aW.cell.trans c2']) (λwl aW x hx=>?_) ?_
  ·simp[go_sem,aW.cell.trans c0',aW.cell.trans Eg,aW.cell.trans c2']at hx;rcases hx with rfl|rfl|rfl;all_goals exact⟨_,_,_,rfl,rfl⟩
  refine ay ?_;refine b5 func14 (abD hW.cL kd ea eb rg1 rg2 rg3 rg4 aa) ?_;rintro v2 o2 w2 ⟨n,y,s2,iH,V4,Nh,Ni,rfl,sh2,st2,U2,akY⟩;have akZ:Ni<=i+1:=by have:=st2.edl;omega
  have Ex:=hW.go sh2 U2 (hW.told.step hW.cL.sound KD hW.cL.dv.Rj aa st2) (hW.thr.step hW.cL.sound hW.cL.dv.Rj (by have:=hW.told.num;omega) st2);clear sh2 st2 U2 akY hW;refine ay ?_;refine uV n y Ex.cL.dv λD o3 w4 mB hD hV=>?_;have Ae:=Ex.k hV.step hV.dv;clear hV hD Ex;refine ay ?_;exact⟨m-1,aa,i+1,aa,dR,dR,aK,aK,aK,aK,aK,by simp[Act.eval,hwi],s2,_,V4,Nh,Ni,akZ,Ae⟩
 have hiI:¬(i:Int)<(xs.length:Int):=aa;refine ay ?_;refine b5 func18 (Hs hW.cL.dv.aH) ?_;rintro v2 o2 w2 ⟨N2,rfl,z2,kn2⟩;obtain⟨iH,h2,T2,-,-⟩:=hW.cL.dv.grown (cU.refl hW.cL.dv.aH) (bC.dJ N2);have Ex:=hW.k T2 h2;have UQ:o2 w1.heap.size:=by rw[N2.own];exact .inr ⟨ah _,aa⟩
 clear N2 T2 h2 hW z2;generalize w1.heap.size=Nb at *;refine ay ?_;refine b5 func19 (Aj Ex.cL.dv.aH nm 6 vq.1 vq.2 aa aa) ?_;rintro v3 o3 w3 ⟨rfl,N3⟩;obtain⟨mB,h3,T3,-,-⟩:=Ex.cL.dv.grown (cU.refl Ex.cL.dv.aH) (bC.dJ N3);have Ev:=Ex.k T3 h3;have kn3:=(N3.old Nb (Ex.cL.dv.aH.lt UQ)).trans kn2;have Vx:=(bC.dJ (ex:=λ_=>False) N3).more _ UQ;have hp:=nt nm (n:=6) aa;have hpI:((ee nm 6:Nat):Int)<6:=aa;have tQ:w3.cell? ⟨Nb,ee nm 6,we⟩=so (.string (iI nm)):=by
  have hc6:lH[ee nm 6]?=so (.string (iI nm)):=by
   rw[lH,iE,dO,bm hp];rfl
  simp[World.cell?,kn3,hc6]
 have A7:=KH nm;clear N3 T3 h3 Ex kn2 kn3 UQ;refine ay ?_;refine jJ Ev.cL.dv.aH Vx tQ λ_=>?_;refine ay ?_;refine b5 func20 (OJ Ev.cL.dv.aH ct hct.1 hct.2) ?_;rintro v4 o4 w4 ⟨rfl,N4⟩;obtain⟨sx,h4,T4,-,-⟩:=Ev.cL.dv.grown (cU.refl Ev.cL.dv.aH) (bC.dJ N4);have Ae:=Ev.k T4 h4;have Jw:=xo ct;clear N4 T4 h4 Ev Vx tQ hp hpI;generalize iI nm=x at *;generalize qD ct=t at *;refine Mh ?_;refine BK W (λa o' w'=>a.tmps.size=211/\a.defers=[]/\a.eval (.tmp 4)=.bool ag/\a.eval (.tmp 11)=.pointer (so ⟨S,0,we⟩)/\a.eval (.tmp 16)=.string x/\a.eval (.tmp 17)=.string t/\∃s lab fv fs et,et<=i+1/\(ag=true->eR s.th x=so t/\0<et)/\TS o w S K rp rb rc rs NM NB s lab fv fs ed et i o' w') ?_ ?_
 ·cases ag with
  |false =>
   refine ay ?_;exact⟨dR,dR,aK,aK,aK,aK,s,sx,fv,fs,ed,aa,(λq=>by cases q),Ae⟩
  |true =>
   refine ay ?_;refine jJ Ae.cL.dv.aH Ae.cL.own (nW Ae.cL.blk).1 λ_=>?_;refine ay ?_;refine b5 func21 (OY Ae.cL A7 Jw) ?_;rintro v5 o5 w5 ⟨rfl,qv5,nV,h5⟩;refine ay ?_;refine b5 func22 (VB h5 Ae.cL.sound Ae.cL.yW A7 Jw) ?_;rintro v6 o6 w6 ⟨rfl,Nc,fv6,sh6,U6,-⟩;have V5:=Ae.go sh6 U6 (Ae.told.edit Ae.cL.sound x _ _ _) (Ae.thr.edit Ae.cL.sound x _ _ _);refine ay ?_;exact⟨dR,dR,aK,aK,aK,aK,_,Nc,fv6,_,ed+1,aa,λ_=>⟨by simp only[uW,if_true],aa⟩,V5⟩
 clear Ae;rintro a o4 w4 ⟨fy,kN,i4,i11,i16,i17,s,lab,fv,fs,et,het,afZ,hW⟩;obtain⟨gs,rfl⟩:=il fy kN;clear fy kN;simp only[List.range,List.range.loop,aC,aP]at i4 i11 i16 i17 |-;simp[Act.eval]at i4 i11 i16 i17;simp only[i4,i11,i16,i17];clear i4 i11 i16 i17;refine ay ?_;refine b5 func23 (OW (J:=λs1=>BL K s1 et/\s1.th=s.th) hW.cL hW.told KD aa ⟨hW.thr,rfl⟩ (λs1 t h=>⟨h.1.tick t,h.2⟩) (λhs hp hn hr hw h=>⟨Rw hs hp hn hr hw h.1,by obtain⟨n,y,-,-,-,-,e,-⟩:=hw.kind;exact e.trans h.2⟩)) ?_;rintro v5 o5 w5 ⟨s5,nV,⟨OX,hp5,rfl⟩|⟨OX,rfl⟩⟩;rotate_left
 ·have OR:=hW.go OX.cL OX.step OX.told OX.j.1;refine ay ?_;exact⟨.inr trivial,trivial,_,resultsC_tmp (t:=10) ak _,aK,OR.old⟩
 have OR:=hW.go OX.cL OX.step OX.told OX.j.1;have af0:=(OX.quick trivial).told;rw[<- OX.j.2]at afZ;clear OX hW;refine ay ?_;refine jJ OR.cL.dv.aH OR.cL.own (nW OR.cL.blk).1 λ_=>?_;refine ay ?_;refine b5 func24 (MZ OR.cL.dv) ?_;rintro v6 o6 w6 ⟨tu,Nc,h6,T6,zu⟩;have V5:=OR.k T6 h6;have ak1:=OR.cL.dv.set.gF;have lS5:=OR.cL.dv.aH.lt OR.cL.own;obtain⟨rv,tv,rfl,⟨pa,ba,ca,rfl,E0,ha⟩,fw,R6⟩:=tu.ex;have hbn:s5.res≠[]->w5.heap.size<=ba/\Nc ba=7:=λq=>zu _ _ _ ba rfl (by rw[(E0 q).1];rfl);obtain⟨tp,tb,tc,rfl,-⟩:=R6.row;clear tu T6 h6 zu OR;refine ay ?_;refine M9 s5.num pa s5.res.length ca tp s5.gD.length tc V5.cL.dv fw R6.cl λL o7 w7 Ah hL hV=>?_;have Lc:=V5.k hV.step hV.dv;have lba:s5.res≠[]->ba<w6.heap.size:=λq=>V5.cL.dv.aH.lt (E0 q).2;have af1:OZ o7 w7 Ah S L s5.num pa ba ca (.slice tp s5.gD.length tc) s5.res:=by
  refine⟨hV.blk,hV.own,⟨hV.Ah,by have:=V5.cL.dv.aH.lt V5.cL.own;omega⟩,λq=>⟨(E0 q).1,hV.br.more _ (E0 q).2,(hV.old ba (lba q)).1.trans (hbn q).2,by have:=(hbn q).1;omega⟩,λi hi=>?_⟩;exact jj ha (hV.old ba (lba (nlt hi))).2 i hi
 clear hV hL V5 E0 ha fw R6 hbn lba lS5;refine ay ?_;refine jJ Lc.cL.dv.aH Lc.cL.own (nW Lc.cL.blk).1 λ_=>?_;refine ay ?_;refine b5 func21 (OY Lc.cL A7 Jw) ?_;rintro v8 o8 w8 ⟨rfl,qv8,aj7,h8⟩;refine ay ?_;refine b5 func22 (VB h8 Lc.cL.sound Lc.cL.yW A7 Jw) ?_;rintro v9 o9 w9 ⟨rfl,QW,fv9,sh9,U9,-⟩;have hW9:=Lc.go sh9 U9 (Lc.told.edit Lc.cL.sound x _ _ _) (Lc.thr.edit Lc.cL.sound x _ _ _);have ZA:=af1.go Lc.cL.dv.aH U9;have Ir:=vf s5 x (gi s5.th x t) (gi s5.st x (IntKind.i64.wrap (cN s5.st x+1))) qv8 Lc.cL.sound;have ZB:=Lc.thr;have VC:=Lc.told;clear sh9 U9 h8 Lc af1;refine ay ?_;refine b5 func23 (OW (J:=λs1=>BL K s1 (et+1)/\vg K s5 s1/\s1.th=gi s5.th x t) hW9.cL hW9.told KD aa ⟨hW9.thr,⟨.inl ⟨.inl ⟨hp5,Ir⟩,rfl,rfl,rfl⟩⟩,rfl⟩ (λs1 t h=>⟨h.1.tick t,h.2.1.tick t,h.2.2⟩) Nt) ?_;rintro v10 o10 w10 ⟨lY,aft,⟨y7,ak3,rfl⟩|⟨y7,rfl⟩⟩;rotate_left
 ·have DX:=hW9.go y7.cL y7.step y7.told y7.j.1;refine ay ?_;exact⟨.inr trivial,trivial,_,resultsC_tmp (t:=10) ak _,aK,DX.old⟩
 have DX:=hW9.go y7.cL y7.step y7.told y7.j.1;have ZC:=(y7.quick trivial).told;have VD:=ZA.go hW9.cL.dv.aH y7.step;have ZD:=y7.j.2.2;obtain⟨Bn,F,file,Bo,mG,GR,O0⟩:lY.num=s5.num+1/\∃F file,ly K.B F/\(∀x∈dZ K.B.NM K.B.rs,file x=dG lY.th x)/\lY.gD=mw (lX F.b7) (kD s5.old (gZ K.B F file)) K.B.rs.length/\Made K lY file:=by
  rcases y7.j.2.1.ex with⟨⟨-,q⟩|⟨-,q|⟨q,-⟩⟩,-⟩|⟨-,-,q⟩
  ·exact absurd q ZC
  ·omega
  ·omega
  ·exact q
 clear y7 hW9 ZA Ir;refine ay ?_;refine jJ DX.cL.dv.aH DX.cL.own (nW DX.cL.blk).1 λ_=>?_;refine ay ?_;refine b5 func24 (MZ DX.cL.dv) ?_;rintro v11 o11 w11 ⟨tu,anR,h11,T11,-⟩;have Nu:=DX.k T11 h11;have VE:=VD.go DX.cL.dv.aH ((fU.refl (S:=S) DX.cL.dv.aH).k T11);have ZE:=DX.cL.dv.set.gF;obtain⟨rv,tv,rfl,⟨pa2,Ry,ca2,rfl,E0,ha⟩,fw,R6⟩:=tu.ex;obtain⟨tp2,VF,tc2,rfl,-,htp,htt⟩:=R6.row;have hrf:=R6.gF;clear tu T11 h11 DX VD;refine ay ?_;refine M9 lY.num pa2 lY.res.length ca2 tp2 lY.gD.length tc2 Nu.cL.dv fw R6.cl λL2 o12 w12 afy hL2 hV=>?_;have qF:=Nu.k hV.step hV.dv;have rS:=VE.go Nu.cL.dv.aH ((fU.refl (S:=S) Nu.cL.dv.aH).k hV.step);have oN:=hV.own;obtain⟨cN0,cN1,cN2,-⟩:=fa hV.blk;obtain⟨cW0,cW1,-⟩:=fa rS.blk;have oL:=rS.own;have Nv:lY.res≠[]->pa2=so ⟨Ry,0,we⟩/\o12 Ry:=λq=>⟨(E0 q).1,hV.br.more _ (E0 q).2⟩;have haN:oT w12 Ry lY.res:=λi hi=>jj ha (hV.old Ry (Nu.cL.dv.aH.lt (E0 (nlt hi)).2)).2 i hi;have abR:lY.gD≠[]->tp2=so ⟨VF,0,we⟩/\o12 VF:=λq=>⟨(htp q).1,hV.br.more _ (htp q).2⟩;have ak7:eN w12 VF 0 lY.gD:=λk hk=>cD htt (hV.old VF (Nu.cL.dv.aH.lt (htp (nlt hk)).2)).2 k hk;have ak8:=R6.cl.up hV.br.more;clear hV hL2 Nu VE E0 ha fw R6 htp htt;have tI:=qF.cL.dv.aH;have hM:=(qF.told.Vr aa ak3 ZC).1.yW qF.cL.yW;obtain⟨fp,fb,fc,hfv,-,-⟩:=qF.cL.files.ex;have cS2:=(nW qF.cL.blk).2.2.1;have hfs:=qF.cL.files;rw[hfv]at cS2 hfs;refine ay ?_;refine dH mixed ai [so we,so we,so (so (.slice pa2 lY.res.length ca2)),so we,so we,so we,so (so (.slice fp (oW fs x t true).length fc)),so (so (.bool true)),so we]
  (S:=λσ o' w'=>bC (λ_=>False) o12 w12 o' w') (bC.refl tI) λv9=>?_
 refine dN ?_;refine cq ?_;refine dsP (λσ o' w' H hS=>?_) ?_
 ·exact sR hS.aH (hS.more _ oN) ((cell_of (hS.same _ (tI.lt oN) id)).trans cN1)
 refine cq ?_;refine dsP (λσ o' w' H hS=>?_) ?_
 ·exact sR hS.aH (hS.more _ qF.cL.own) ((cell_of (hS.same _ (tI.lt qF.cL.own) id)).trans cS2)
 walk_nrm;refine jO rfl rfl ak rfl func25 ai rfl (av:=#[.pointer (so ⟨S,0,we⟩),.slice pa2 lY.res.length ca2,.slice fp (oW fs x t true).length fc]) aK (λσ o' w' H hS=>?_) ?_
 ·refine(Vw qF.cL qF.hand hfs qF.cL.ok Ry ca2 pa2 lY.res ZE Nv haN hS).mono ?_;rintro y o6 w6 ⟨W6,l,hl,rfl⟩;rw[hl.one hM];exact⟨ar,W6⟩
 refine cq ?_;refine cu λσ o13 w13 lP hS=>?_;clear lP;have Rz:=hS.aH;have af2:=(cell_of (hS.same _ (tI.lt oN) id)).trans cN0;have ak9:=(cell_of (hS.same _ (tI.lt oN) id)).trans cN1;have af3:=(cell_of (hS.same _ (tI.lt oN) id)).trans cN2;have ala:=(cell_of (hS.same _ (tI.lt oL) id)).trans cW0;have alb:=(cell_of (hS.same _ (tI.lt oL) id)).trans cW1;have oN':=hS.more _ oN;have oL':=hS.more _ oL;have hwn:IntKind.i64.wrap (s5.num+1)=s5.num+1:=by
  have:=qF.told.num;rw[Bn]at this;rw[IntKind.wrap_i64]<;>omega
 rw[Bn]at af2;simp only[ij,dz,if_true,if_false,reduceIte,Nat.reduceEqDiff];refine ay ?_;refine jJ Rz oN' af2 λ_=>?_;refine ay ?_;refine jJ Rz oL' ala λ_=>?_;refine ay ?_;cases ag with
 |true =>
  obtain⟨HM,za⟩:=afZ rfl;have hM5:=ZB.Vr za hp5 af0;have kS:∀y∈dZ K.B.NM K.B.rs,dG s5.th y=file y:=λy hy=>by
   have e:eR (gi s5.th x t) y=eR s5.th y:=by
    rw[uW];by_cases q:y=x
    ·rw[if_pos q,q,HM]
    ·rw[if_neg q]
   rw[mG y hy,ZD];unfold dG;rw[e]
  have tF:=Vu hM5 O0 kS;have hr0:lY.gD=[]:=by rw[GR];exact Vt hM5 Bo kS
  rw[hr0]at af3;refine ay ?_;refine jJ Rz oL' alb λ_=>?_;refine ay ?_;refine jJ Rz oN' ak9 λ_=>?_;refine ay ?_;refine du W rfl ak rfl func17 ai rfl (by simp[Act.eval,tF]) rfl ((Vq Rz ba Ry ca ca2 pa pa2 s5.res lY.res ak1 ZE (λq=>⟨(rS.res.1 q).1,hS.more _ (rS.res.1 q).2.1⟩) (λq=>⟨(Nv q).1,hS.more _ (Nv q).2⟩) (λi hi=>jj rS.res.2 (hS.same ba (tI.lt (rS.res.1 (nlt hi)).2.1) id) i hi) (λi hi=>jj haN (hS.same Ry (tI.lt (Nv (nlt hi)).2) id) i hi)).mono ?_);rintro v14 Zq Zr ⟨rfl,G14⟩;rw[cW tF];have Yn:=(cell_of (G14.br.same _ (Rz.lt oN') id)).trans af3;refine ay ?_;refine jJ G14.br.aH (G14.br.more _ oN') Yn λ_=>?_;refine ay ?_;exact⟨.inr trivial,trivial,_,resultsC_tmp (t:=10) ak _,aK,(qF.old.trans hS).trans G14.br⟩
 |false =>
  have hRR:=qF.hand.right;have hah:DV rs NM:=DV.of qF.hand.yes qF.hand.gF Fi.nth;have hM5:s5.num≠0->Made K s5 (dG s5.th):=λhn=>ZB.Vr (Nat.pos_of_ne_zero λe=>hn (VC.none e).2.2.1) hp5 af0;have pg:s5.num≠0->∀y∈lY.gD,y∈gO NM [x] rs:=λhn y hy=>by
   rw[GR]at hy;exact Rq hRR hah KD (hM5 hn) Bo (λz hz hzx=>by rw[mG z hz,ZD];unfold dG;rw[uW,if_neg hzx]) y hy
  have hlen:s5.num≠0->s5.res.length=lY.res.length:=λhn=>by
   obtain⟨F0,-,e0,-⟩:=(hM5 hn).ex;obtain⟨F1,-,e1,-⟩:=O0.ex;rw[e0,e1];simp[nB]
  have af4:s5.num≠0->∀k (h1:k<s5.res.length) (h2:k<lY.res.length),lY.res[k].1∉lY.gD->lY.res[k]=s5.res[k]:=λhn k h1 h2 Ha=>Rr hRR KD (hM5 hn) Bo O0 k h1 h2 (by rw[<- GR];exact Ha);have mO:0<=s5.num:=VC.num.1;clear GR O0 mG hM5;obtain⟨KE,shx⟩:=qF.cL.grown hS;have hHx:=qF.hand.keep hS.more λg hg=>hS.same g (qF.hand.lt tI hg) id;refine ay ?_;refine b5 func26 (Rt shx hHx x) ?_;rintro v14 Zq Zr ⟨G14,row⟩;obtain⟨hp',hl',Fa,rfl⟩:=kK row.row;have hhl:=yT row.row rfl;subst hhl;obtain⟨hb,t1,t2⟩:=row.texts G14.br.aH;have fw:=row.cl;have hhn:(gO NM [x] rs).length<=100:=by
   have:=As NM rs [x] λr hr=>(qF.hand.nm r hr).2.2.2;have:=qF.hand.gF;simp at *;omega
  have Ld:=hS.trans G14.br;have vV:=Ld.aH;have abU:=(cell_of (Ld.same _ (tI.lt oL) id)).trans cW0;have af5:=(cell_of (Ld.same _ (tI.lt oL) id)).trans cW1;have Yo:=(cell_of (Ld.same _ (tI.lt oN) id)).trans cN1;have Yn:=(cell_of (Ld.same _ (tI.lt oN) id)).trans cN2;have V6:=Ld.more _ oN;have ZF:=Ld.more _ oL;have Yp:lY.gD≠[]->tp2=so ⟨VF,0,we⟩/\Zq VF:=λq=>⟨(abR q).1,Ld.more _ (abR q).2⟩;have af6:eN Zr VF 0 lY.gD:=λk hk=>cD ak7 (Ld.same VF (tI.lt (abR (nlt hk)).2) id) k hk;have af7:=ak8.up Ld.more;generalize gO NM [x] rs=hs at *;refine ay ?_;refine gT W (λm a o' w'=>∃k,m+k=lY.gD.length/\a.tmps.size=211/\a.defers=[]/\a.eval (.tmp 21)=.pointer (so ⟨L,0,we⟩)/\a.eval (.tmp 23)=.pointer (so ⟨L2,0,we⟩)/\a.eval (.tmp 26)=.slice hp' hs.length Fa/\a.eval (.tmp 27)=.int .i64 (k:Nat)/\bC (λ_=>False) Zq Zr o' w') (N:=lY.gD.length) ⟨0,ar,rfl,rfl,aK,aK,aK,aK,bC.refl vV⟩ ?_;rintro m2 a o15 w15 ⟨k,HO,fy,kN,i21,i23,i26,i27,DY⟩;obtain⟨gs,rfl⟩:=il fy kN;clear fy kN;simp only[List.range,List.range.loop,aC,aP]at i21 i23 i26 i27 |-;simp[Act.eval]at i21 i23 i26 i27;simp only[i21,i23,i26,i27];clear i21 i23 i26 i27;have Au:=DY.aH;have RA:=(cell_of (DY.same _ (vV.lt V6) id)).trans Yn;have RD:=(cell_of (DY.same _ (vV.lt ZF) id)).trans abU;have Yq:=DY.more _ V6;have oL5:=DY.more _ ZF;by_cases hk:k<lY.gD.length
  ·have R1:(k:Int)<(lY.gD.length:Int):=aa;have Eu:IntKind.i64.wrap ((k:Int)+1)=((k+1:Nat):Int):=by rw[IntKind.wrap_i64]<;>omega
   obtain⟨et2,otb⟩:=Yp (nlt hk);have ctk:=(cell_of (DY.same VF (vV.lt otb) id)).trans (af6 k hk);rw[bt]at ctk;have af9:=DY.more _ otb;rw[et2]at RA;refine ay ?_;refine jJ Au Yq RA λ_=>?_;refine ay ?_;refine jJ Au Yq RA λ_=>?_;refine ay ?_;refine jJ Au af9 ctk λ_=>?_;refine ay ?_;refine b5 func27 (Ht Au hb 0 Fa hp' hs lY.gD[k] aa (λq=>⟨(t1 q).1,DY.more _ (t1 q).2⟩) (λj hj=>cD t2 (DY.same hb (vV.lt (t1 (nlt hj)).2) id) j hj) (fw.up DY.more)) ?_;rintro v16 o16 w16 ⟨rfl,N16⟩;have KS:=DY.trans (bC.dJ (ex:=λ_=>False) N16);have ald:=(cell_of (KS.same _ (vV.lt ZF) id)).trans abU;have oL6:=KS.more _ ZF;have RE:=KS.aH;clear N16 DY Au RA RD Yq oL5 ctk af9;refine ay ?_;refine jJ RE oL6 ald λ_=>?_;refine ay ?_;by_cases En:s5.num=0
   ·cases D9 hs lY.gD[k];all_goals
     refine ay ?_;exact⟨m2-1,aa,k+1,aa,dR,dR,aK,aK,aK,by simp[Act.eval,Eu],KS⟩
   ·rw[(mf lY.gD[k] hs).2 (pg En _ (aG hk))];refine ay ?_;exact⟨m2-1,aa,k+1,aa,dR,dR,aK,aK,aK,by simp[Act.eval,Eu],KS⟩
  have R1:¬(k:Int)<(lY.gD.length:Int):=aa;refine ay ?_;refine jJ Au Yq RA λ_=>?_;refine ay ?_;have alf:lY.res≠[]->pa2=so ⟨Ry,0,we⟩/\Zq Ry:=λq=>⟨(Nv q).1,Ld.more _ (Nv q).2⟩;have ha4:oT Zr Ry lY.res:=λi hi=>jj haN (Ld.same Ry (tI.lt (Nv (nlt hi)).2) id) i hi;have alg:s5.res≠[]->pa=so ⟨ba,0,we⟩/\Zq ba:=λq=>⟨(rS.res.1 q).1,Ld.more _ (rS.res.1 q).2.1⟩;have alh:oT Zr ba s5.res:=λi hi=>jj rS.res.2 (Ld.same ba (tI.lt (rS.res.1 (nlt hi)).2.1) id) i hi;refine gT W (λm a o' w'=>∃k,m+k=lY.res.length/\a.tmps.size=211/\a.defers=[]/\a.eval (.tmp 21)=.pointer (so ⟨L,0,we⟩)/\a.eval (.tmp 23)=.pointer (so ⟨L2,0,we⟩)/\a.eval (.tmp 30)=.int .i64 (k:Nat)/\bC (λ_=>False) Zq Zr o' w') (N:=lY.res.length) ⟨0,ar,rfl,rfl,aK,aK,aK,DY⟩ ?_;clear DY Au RA RD Yq oL5;rintro m3 a o15 w15 ⟨k3,asp,fy,kN,i21,i23,i30,DY⟩;obtain⟨gs,rfl⟩:=il fy kN;clear fy kN;simp only[List.range,List.range.loop,aC,aP]at i21 i23 i30 |-;simp[Act.eval]at i21 i23 i30;simp only[i21,i23,i30];clear i21 i23 i30;have Au:=DY.aH;have Yr:=(cell_of (DY.same _ (vV.lt V6) id)).trans Yo;have RD:=(cell_of (DY.same _ (vV.lt ZF) id)).trans abU;have Yq:=DY.more _ V6;have oL5:=DY.more _ ZF;by_cases hk3:k3<lY.res.length;rotate_left
  ·have ali:¬(k3:Int)<(lY.res.length:Int):=aa;refine ay ?_;refine jJ Au Yq Yr λ_=>?_;refine ay ?_;exact⟨.inr trivial,trivial,_,resultsC_tmp (t:=10) ak _,aK,(qF.old.trans Ld).trans DY⟩
  have ali:(k3:Int)<(lY.res.length:Int):=aa;by_cases En:s5.num=0
  ·rw[En]at RD;refine ay ?_;refine jJ Au Yq Yr λ_=>?_;refine ay ?_;refine jJ Au oL5 RD λ_=>?_;refine ay ?_;exact⟨.inr trivial,trivial,_,resultsC_tmp (t:=10) ak _,aK,(qF.old.trans Ld).trans DY⟩
  have hgt:0<s5.num:=aa;have aga:IntKind.i64.wrap ((k3:Int)+1)=((k3+1:Nat):Int):=by rw[IntKind.wrap_i64]<;>omega
  have hk5:k3<s5.res.length:=by rw[hlen En];exact hk3
  have asq:(k3:Int)<(s5.res.length:Int):=aa;obtain⟨ep2,Ys⟩:=alf (nlt hk3);obtain⟨ep1,agb⟩:=alg (nlt hk5);obtain⟨x0,x1,x2⟩:=ha4 k3 hk3;obtain⟨y0,y1,y2⟩:=alh k3 hk5;have eH:=af4 En k3 hk5 hk3;rw[ep2]at Yo Yr;rw[ep1]at af5;rcases abV:lY.res[k3] with⟨na,va,ta⟩;rcases Jv:s5.res[k3] with⟨nb,vb,tb⟩;rw[abV]at x0 x1 x2;rw[Jv]at y0 y1 y2;rw[abV,Jv]at eH;simp only at x0 x1 x2 y0 y1 y2 eH;clear abV Jv;refine ay ?_;refine jJ Au Yq Yr λ_=>?_;refine ay ?_;refine jJ Au oL5 RD λ_=>?_;refine ay ?_;refine dH mixed ai [so we,so (so (.slice tp2 lY.gD.length tc2)),so we,so (so (.slice (so ⟨Ry,0,we⟩) lY.res.length ca2)),so we,so we,so we,so (so (.string na)),so (so (.bool (D9 lY.gD na))),so we]
   (S:=λσ o' w'=>bC (λ_=>False) Zq Zr o' w') DY λv9=>?_
  refine dN ?_;refine cq ?_;refine dsP (λσ o' w' H hS=>?_) ?_
  ·exact sR hS.aH (hS.more _ V6) ((cell_of (hS.same _ (vV.lt V6) id)).trans Yn)
  refine cq ?_;refine dsP (λσ o' w' H hS=>?_) ?_
  ·exact sR hS.aH (hS.more _ V6) ((cell_of (hS.same _ (vV.lt V6) id)).trans Yo)
  refine cq ?_;refine dsP (λσ o' w' H hS=>?_) ?_
  ·exact sR hS.aH (hS.more _ Ys) ((cell_of (hS.same _ (vV.lt Ys) id)).trans x0)
  walk_nrm;refine jO rfl rfl ak rfl func27 ai rfl (av:=#[.slice tp2 lY.gD.length tc2,.string na]) aK (λσ o' w' H hS=>?_) ?_
  ·refine(Ht hS.aH VF 0 tc2 tp2 lY.gD na aa (λq=>⟨(Yp q).1,hS.more _ (Yp q).2⟩) (λj hj=>cD af6 (hS.same VF (vV.lt (Yp (nlt hj)).2) id) j hj) (af7.up hS.more)).mono ?_;rintro y o6 w6 ⟨rfl,N6⟩;exact⟨rfl,hS.trans (bC.dJ (ex:=λ_=>False) N6)⟩
  refine cq ?_;refine cu λσ o16 w16 lP KS=>?_;clear lP;have RE:=KS.aH;have alj:=(cell_of (KS.same _ (vV.lt V6) id)).trans Yo;have alk:=(cell_of (KS.same _ (vV.lt ZF) id)).trans af5;have oN6:=KS.more _ V6;have oL6:=KS.more _ ZF;have ob2:=KS.more _ Ys;have Yi:=KS.more _ agb;have e2:=KS.same _ (vV.lt Ys) id;have e1:=KS.same _ (vV.lt agb) id;simp only[ij,dz,if_true,if_false,reduceIte,Nat.reduceEqDiff];by_cases K6:D9 lY.gD na=true
  ·rw[K6];refine ay ?_;refine dH mixed ai [so we,so we,so we,so (so undef),so (so undef),so (so undef),so (so undef),so (so undef),so (so undef),so (so undef),so (so undef),so (so undef),so (so undef),so (so undef),so we]
    (S:=λσ o' w'=>o16=o'/\w16=w') ⟨rfl,rfl⟩ λv9=>?_
   refine dN ?_;refine cq ?_;refine pr rfl rfl ak ?_;walk_nrm;refine pr rfl rfl ak ?_;walk_nrm;refine pr rfl rfl ak ?_;walk_nrm;refine pr rfl rfl ak ?_;walk_nrm;refine pr rfl rfl ak ?_;walk_nrm;refine pr rfl rfl ak ?_;walk_nrm;refine pr rfl rfl ak ?_;walk_nrm;refine pr rfl rfl ak ?_;walk_nrm;refine pr rfl rfl ak ?_;walk_nrm;refine pr rfl rfl ak ?_;walk_nrm;refine pr rfl rfl ak ?_;refine cq ?_;refine cu λσ o17 w17 lP hS=>?_;obtain⟨rfl,rfl⟩:=hS;clear lP;simp only[ij,dz,if_true,if_false,reduceIte,Nat.reduceEqDiff];refine ay ?_;exact⟨m3-1,aa,k3+1,aa,dR,dR,aK,aK,by simp[Act.eval,aga],KS⟩
  ·have alm:D9 lY.gD na=false:=by simpa using K6
   have Er:=eH λq=>K6 ((mf na lY.gD).2 q);injection Er with q1 q2;injection q2 with q2 q3;subst q1 q2 q3;rw[alm];refine ay ?_;refine dH mixed ai [so we,so we,so we,so we,so (so (.slice (so ⟨Ry,0,we⟩) lY.res.length ca2)),so we,so we,so (so (.agg #[.string na,.string ta,.bool (!va)])),so we,so (so (.slice (so ⟨ba,0,we⟩) s5.res.length ca)),so we,so we,so (so (.agg #[.string na,.string ta,.bool (!va)])),so we,so we]
    (S:=λσ o' w'=>o16=o'/\w16=w') ⟨rfl,rfl⟩ λv9=>?_
   refine dN ?_;refine cq ?_;refine dsP (λσ o' w' H hS=>?_) ?_
   ·obtain⟨rfl,rfl⟩:=hS;exact sR RE oN6 alj
   refine cq ?_;refine dsP (λσ o' w' H hS=>?_) ?_
   ·obtain⟨rfl,rfl⟩:=hS;exact⟨RE,mo (bX ob2),λwl aW=>by simp[go_sem,(aW.cell ob2).trans ((cell_of e2).trans x0),(aW.cell ob2).trans ((cell_of e2).trans x1),(aW.cell ob2).trans ((cell_of e2).trans x2)]⟩
   refine cq ?_;refine dsP (λσ o' w' H hS=>?_) ?_
   ·obtain⟨rfl,rfl⟩:=hS;exact sR RE oL6 alk
   refine cq ?_;refine dsP (λσ o' w' H hS=>?_) ?_
   ·obtain⟨rfl,rfl⟩:=hS;exact⟨RE,mo (bX Yi),λwl aW=>by simp[go_sem,(aW.cell Yi).trans ((cell_of e1).trans y0),(aW.cell Yi).trans ((cell_of e1).trans y1),(aW.cell Yi).trans ((cell_of e1).trans y2)]⟩
   walk_nrm;refine pL (y:=.bool false) rfl rfl rfl ak (λw1=>by simp[go_sem,Act.eval,vd]) (λw1=>by simp[go_sem,Act.eval,ve,rR]) ?_;refine cq ?_;refine cu λσ o17 w17 lP hS=>?_;obtain⟨rfl,rfl⟩:=hS;clear lP;simp only[ij,dz,if_true,if_false,reduceIte,Nat.reduceEqDiff];refine ay ?_;exact⟨m3-1,aa,k3+1,aa,dR,dR,aK,aK,by simp[Act.eval,aga],KS⟩
end
open Go
section
open YtgjekaaknjgnmaaGreatDoor
def HJ:vc 6 Tryz.f6:=λFin o w hF pow p b off c rw hR q qb Vp d xs hX nm ct ag vq hct=>by
 letI:Go.ConcR.Payload:=⟨0⟩
 exact Rx hF pow p b off c rw hR q qb Vp d xs hX nm ct ag vq hct
def thrifty_done:Rows.ThriftyCardSaid:=HF HJ
end
end Go.Proofs.Kz
namespace Go.Proofs.YtgjekaaknjgnmaaGreatDoor
theorem thrifty_claim:Rows.ThriftyCardSaid:=Go.Proofs.Kz.thrifty_done
end Go.Proofs.YtgjekaaknjgnmaaGreatDoor
