import Derived.Test.YtgjekaaknjgnmaaGreatDoorAi
import Derived.Lib.Builder
import Derived.Sort.Walk0
set_option linter.all false
set_option maxHeartbeats 40000000
set_option maxRecDepth 200000
namespace Go.Proofs.Kz
open Go.Proofs.Tryz
open Go.Proofs.Tryz renaming prog → ar
open _root_.ByteArray renaming empty → aN
open Go.Proofs
section
open Go.RowKit
def mO(ins:Nat->List (Bool×Nat))(ord:List Nat):Prop:=∀i (h:i<ord.length),∀m,(true,m)∈ins ord[i]->∃k,∃hk:k<ord.length,k<i/\ord[k]=m
theorem BJ(ins:Nat->List (Bool×Nat))(ord:List Nat)(s x:Nat)(h:x∈ord):x∈pv ins ord s:=by
 unfold pv;split
 ·simp[h]
 ·exact h
theorem BK(ins:Nat->List (Bool×Nat))(ord:List Nat)(x:Nat)(h:x∈ord):∀k,x∈mh ins ord k
 |0=>by simpa[mh] using h
 |k+1=>by rw[pw];exact BJ _ _ _ _ (BK ins ord x h k)
theorem mO.step{ins:Nat->List (Bool×Nat)}{ord:List Nat}(h:mO ins ord)(s:Nat):mO ins (pv ins ord s):=by
 unfold pv;split
 ·rename_i hc;intro i hi m hm;have gY:=hc.2;rw[List.all_eq_true] at gY;by_cases bZ:i<ord.length
  ·rw[eW bZ] at hm;obtain⟨k,hk,h1,h2⟩:=h i bZ m hm;exact⟨k,eR,h1,by rw[eW hk];exact h2⟩
  ·have e:i=ord.length:=by simp at hi;omega
   subst e;simp at hm;have:=gY _ hm;simp[mg] at this;obtain⟨k,hk,e⟩:=a8 this;exact⟨k,eR,hk,by rw[eW hk];exact e⟩
 ·exact h
theorem mO.pass{ins:Nat->List (Bool×Nat)}{ord:List Nat}(h:mO ins ord):∀k,mO ins (mh ins ord k)
 |0=>by simpa[mh] using h
 |k+1=>by rw[pw];exact(mO.pass h k).step k
theorem mO.all(ins:Nat->List (Bool×Nat))(n:Nat):∀r,mO ins (dK ins n r)
 |0=>fun i h=>by simp[dK] at h
 |r+1=>(mO.all ins n r).pass n
theorem Ea(ins:Nat->List (Bool×Nat))(ord:List Nat)(s:Nat)(h:∀m,(true,m)∈ins s->m∈ord):∀k,s<k->s∈mh ins ord k
 |0,hk=>aa
 |k+1,hk=>by
  rw[pw];by_cases e:s=k
  ·subst e;unfold pv;split
   ·simp
   ·rename_i hc;have gY:(ins s).all (mg (mh ins ord s))=true:=by
     rw[List.all_eq_true];rintro⟨b,m⟩ hm;cases b
     ·simp[mg]
     ·have:=BK ins ord m (h m hm) s;simp[mg,this]
    cases Js:(mh ins ord s).contains s
    ·exact absurd ⟨Js,gY⟩ hc
    ·simpa using Js
  ·exact BJ _ _ _ _ (Ea ins ord s h k aa)
theorem BL(ins:Nat->List (Bool×Nat))(n:Nat)(rk:Nat->Nat)(Un:∀s,s<n->∀m,(true,m)∈ins s->m<n/\rk m<rk s):∀r s,s<n->rk s<r->s∈dK ins n r
 |0,s,_,h=>aa
 |r+1,s,hs,h=>by
  refine Ea ins _ s (fun m hm=>?_) n hs;obtain⟨h1,h2⟩:=Un s hs m hm;exact BL ins n rk Un r m h1 aa
theorem KD(n:Nat)(l:List Nat)(hd:l.Nodup)(hl:∀x∈l,x<n)(h:∀s,s<n->s∈l):l.length=n:=by
 have h1:=tR n l hd hl;have h2:∀k,k<=n->∀l:List Nat,l.Nodup->(∀s,s<k->s∈l)->k<=l.length:=by
  intro k
  induction k with
  |zero=>intro _ l _ _;exact aQ _
  |succ k ih =>
   intro hk l hd h;have h3:=ih aa (l.erase k) (hd.erase k) (fun s hs=>(hd.mem_erase_iff).2 ⟨aa,h s aa⟩);have h4:=List.length_erase (a:=k) (l:=l);rw[if_pos (h k aa)] at h4;have:0<l.length:=jS (h k aa);omega
 have:=h2 n (ag _) l hd h;omega
theorem Q1(ins:Nat->List (Bool×Nat))(n:Nat)(rk:Nat->Nat)(hb:∀s,s<n->rk s<n)(Un:∀s,s<n->∀m,(true,m)∈ins s->m<n/\rk m<rk s):
  (dK ins n n).length=n/\nF n (dK ins n n)/\(∀s,s<n->s∈dK ins n n)/\mO ins (dK ins n n):=by
 have h1:=nF.all n ins n;have h2:∀s,s<n->s∈dK ins n n:=fun s hs=>BL ins n rk Un n s hs (hb s hs);exact⟨KD n _ h1.1 h1.2 h2,h1,h2,mO.all ins n n⟩
end
end Go.Proofs.Kz
namespace Go.Proofs
section
open Go.Shelf
end
end Go.Proofs
namespace Go.Proofs.Kz
open Go.Proofs.Tryz
open Go.Proofs.Tryz renaming prog → ar
open _root_.ByteArray renaming empty → aN
open Go.Proofs
section
open Go.RowKit
theorem tn:∀a b:List UInt8,Op.bytesLess a b=decide (Lib.compareBytes a b<0)
 | [],[]=>by simp[Op.bytesLess,Lib.compareBytes]
 | [],_::_=>by simp[Op.bytesLess,Lib.compareBytes]
 |_::_,[]=>by simp[Op.bytesLess,Lib.compareBytes]
 |x::r,y::s=>by
  simp only[Op.bytesLess,Lib.compareBytes];by_cases h1:x<y
  ·simp[h1]
  ·by_cases h2:y<x
   ·have:x≠y:=fun e=>by subst e;exact UInt8.lt_irrefl _ h2
    simp[h1,h2,this]
   ·have e:x=y:=gH (UInt8.not_lt.1 h2) (UInt8.not_lt.1 h1);subst e;simp[h1,tn r s]
theorem Fb(less:Nat->Bool)(n:Nat)(hm:∀i j,i<=j->j<n->less j=true->less i=true):∀f lo hi,lo<=hi->hi<=n->hi-lo<=f->(∀t,t<lo->less t=true)->(∀t,hi<=t->t<n->less t=false) ->
  lo<=Lib.bsGo less f lo hi/\Lib.bsGo less f lo hi<=hi/\(∀t,t<Lib.bsGo less f lo hi->less t=true)/\∀t,Lib.bsGo less f lo hi<=t->t<n->less t=false
 |0,lo,hi,h1,h2,h3,h4,h5=>by
  have e:lo=hi:=aa;subst e;exact⟨ag _,ag _,h4,h5⟩
 |f+1,lo,hi,h1,h2,h3,h4,h5=>by
  simp only[Lib.bsGo];by_cases bZ:lo<hi
  ·rw[if_pos bZ];cases hl:less ((lo+hi)/2)
   ·simp only[Bool.false_eq_true,if_false];obtain⟨k1,k2,k3,k4⟩:=Fb less n hm f lo ((lo+hi)/2) aa aa aa h4 (fun t ht Uo=>by
     cases hq:less t
     ·rfl
     ·have:=hm _ t ht Uo hq;rw[hl] at this;cases this)
    exact⟨k1,aa,k3,k4⟩
   ·simp only[if_true];obtain⟨k1,k2,k3,k4⟩:=Fb less n hm f ((lo+hi)/2+1) hi aa h2 aa (fun t ht=>hm t _ aa aa hl) h5;exact⟨aa,k2,k3,k4⟩
  ·rw[if_neg bZ];have e:lo=hi:=aa;subst e;exact⟨ag _,ag _,h4,h5⟩
def px(xs:List ah)(x:ah):Nat:=Lib.bsGo (fun t=>Op.bytesLess (xs.getD t aN).toList x.toList) xs.length 0 xs.length
def r8(xs:List ah)(x:ah):Bool:=decide (px xs x<xs.length/\xs.getD (px xs x) aN=x)
theorem KE(b c:Nat)(p:Option Addr)(xs:List ah)(x:ah)(w:ae)(hn:xs.length<=100000)(hp:xs≠[]->p=some ⟨b,0,none⟩)(ht:dP w b 0 xs):
  Calls ar 77 #[.slice p xs.length c,.string x] w fun e w'=>e=.returned (.tuple #[.int .i64 (px xs x:Nat),.bool (r8 xs x)])/\∃q,w'=w.drewN q:=by
 by_cases h0:xs=[]
 ·subst h0;exact(Any2.slices_BinarySearch_string_empty Tryz.HA p c x w).mono fun e w' hq=>by
   obtain⟨rfl,rfl⟩:=hq;exact⟨by simp[px,r8,Lib.bsGo],0,rfl⟩
 ·obtain rfl:=hp h0;exact Any2.slices_BinarySearch_string Tryz.HA b 0 xs.length c (fun j=>xs.getD j aN) x w aa fun j hj=>by
   rw[ht j hj];simp[hj]
def nY(xs:List ah):Prop:=∀i j (hi:i<xs.length) (hj:j<xs.length),i<j->Lib.compareBytes xs[i].toList xs[j].toList<0
theorem Ah(xs:List ah)(hs:nY xs)(x:ah):r8 xs x=true↔x∈xs:=by
 have LD:∀i j,i<=j->j<xs.length->Op.bytesLess (xs.getD j aN).toList x.toList=true->Op.bytesLess (xs.getD i aN).toList x.toList=true:=by
  intro i j DU hj hl;by_cases e:i=j
  ·subst e;exact hl
  ·rw[tn] at *;have hi:i<xs.length:=aa;have h1:=hs i j hi hj aa;simp only[List.getD_eq_getElem?_getD,List.getElem?_eq_getElem hi,List.getElem?_eq_getElem hj,Option.getD_some,decide_eq_true_eq] at *;exact mN _ _ _ h1 hl
 obtain⟨k1,k2,k3,k4⟩:=Fb _ xs.length LD xs.length 0 xs.length (aQ _) (ag _) aa (fun t ht=>aa) (fun t ht h=>aa);constructor
 ·intro h;simp only[r8,decide_eq_true_eq] at h;obtain⟨h1,h2⟩:=h;rw[<- h2];simp[h1]
 ·intro hx;obtain⟨j,hj,rfl⟩:=a8 hx;have PZ:Op.bytesLess (xs.getD j aN).toList xs[j].toList=false:=by
   rw[tn];simp[hj,tP]
  have hle:px xs xs[j]<=j:=cL fun bZ=>by
   have:=k3 j bZ;rw[PZ] at this;cases this
  have Nc:j<=px xs xs[j]:=cL fun bZ=>by
   have h1:=k4 (px xs xs[j]) (ag _) aa;have hp:px xs xs[j]<xs.length:=aa;have h2:=hs (px xs xs[j]) j hp hj bZ;rw[tn] at h1;simp only[List.getD_eq_getElem?_getD,List.getElem?_eq_getElem hp,Option.getD_some] at h1;simp at h1;omega
  have e:px xs xs[j]=j:=aa;simp only[r8,decide_eq_true_eq];rw[e];exact⟨hj,by simp[hj]⟩
end
section
open Go.RowKit
theorem Up:(ar.info? 280).map (fun i=>(i.zero,i.size,i.bytes))=some (some (.agg #[.bool false,.int .i64 0]),2,16):=af
theorem Fc(w:ae)(n:Nat)(hn:n<=100000):(Instr.makeSlice 218 (.int .i64 (n:Int)) (.int .i64 (n:Int))).run ar w=.ok (.slice (some ⟨w.heap.size,0,none⟩) n n) (w.alloc (.cells (madeCells #[.bool false,.int .i64 0] (n*2)) 280)):=by
 obtain⟨i,hi,hz⟩:=Option.map_eq_some_iff.1 Up;simp only[Prod.mk.injEq] at hz;obtain⟨hz,hs,hb⟩:=hz;have:=run_make (P:=ar) w 218 280 i _ underlying218 hi hz .i64 .i64 n n aa (fh _) (by rw[hb];omega) aa;rw[this,hs];simp[Value.cells]
def jZ(l:List (Bool×Nat))(j:Nat):Value:=if j%2=0 then .bool (l.getD (j/2) (false,0)).1 else .int .i64 ((l.getD (j/2) (false,0)).2:Nat)
def pS(outs sources:List ah)(x:ah):Bool×Nat:=(r8 outs x,if r8 outs x then px outs x else px sources x)
theorem y6(b c:Nat)(p:Option Addr)(xs:List ah)(x:ah)(w:ae)(hn:xs.length<=100000)(hp:xs≠[]->p=some ⟨b,0,none⟩)(ht:dP w b 0 xs):
  Calls ar 77 #[.slice p xs.length c,.string x] w fun e w'=>e=.returned (.tuple #[.int .i64 (px xs x:Nat),.bool (r8 xs x)])/\w'.heap=w.heap/\∀w0 B,Below B w0 w->Below B w0 w' :=
 (KE b c p xs x w hn hp ht).mono fun e w' ⟨h1,q,h2⟩=>⟨h1,by rw[h2];rfl,fun w0 B hb=>by rw[h2];exact⟨hb.os,hb.tape,hb.output,hb.size,hb.block⟩⟩
theorem qy{w w':ae}(h:w'.heap=w.heap)(a:Addr):w'.cell? a=w.cell? a:=by simp[World.cell?,h]
theorem za{w w':ae}(h:w'.heap=w.heap)(a:Addr):w'.frozen? a=w.frozen? a:=by simp[World.frozen?,h]
theorem Q2{w:ae}{B t n k:Nat}{lk:List (Bool×Nat)}{b:Bool}{m:Nat}(b6:w.rowIs B t (n*2) fun j=>if j<k*2 then jZ lk j else jZ [] j)(hl:lk.getD k (false,0)=(b,m)):
  ((w.setCell ⟨B,k*2,none⟩ (.bool b)).setCell ⟨B,k*2+1,none⟩ (.int .i64 m)).rowIs B t (n*2) fun j=>if j<(k+1)*2 then jZ lk j else jZ [] j:=by
 refine((b6.set (k*2) _).set (k*2+1) _).congr fun j hj=>?_;by_cases e1:j=k*2+1
 ·subst e1;rw[if_pos rfl,if_pos aa];have h1:(k*2+1)%2=1:=aa;have h2:(k*2+1)/2=k:=aa;simp only[jZ,h1,h2,hl];rfl
 ·by_cases e2:j=k*2
  ·subst e2;rw[if_neg e1,if_pos rfl,if_pos aa];have h1:(k*2)%2=0:=aa;have h2:(k*2)/2=k:=aa;simp only[jZ,h1,h2,hl];rfl
  ·rw[if_neg e1,if_neg e2];by_cases e3:j<k*2
   ·rw[if_pos e3,if_pos aa]
   ·rw[if_neg e3,if_neg aa]
theorem KF(nb nc ob oc sb sc:Nat)(np sp:Option Addr)(names outs sources:List ah)(w:ae)(h1:names.length<=100000)(h2:outs.length<=100000)(h3:sources.length<=100000)(ug:names≠[]->np=some ⟨nb,0,none⟩/\nb<w.heap.size)(xB:sources≠[]->sp=some ⟨sb,0,none⟩/\sb<w.heap.size)(fD:ob<w.heap.size)(hn:dP w nb 0 names)(ho:dP w ob 0 outs)(hs:dP w sb 0 sources):
  Calls ar 149 #[.slice np names.length nc,.slice (some ⟨ob,0,none⟩) outs.length oc,.slice sp sources.length sc] w fun e w'=>e=.returned (.slice (some ⟨w.heap.size,0,none⟩) names.length names.length)/\Below w.heap.size w w'/\w.heap.size<w'.heap.size /\
   w'.rowIs w.heap.size 280 (names.length*2) (jZ (names.map (pS outs sources))):=by
 have LV:=fun w=>Fc w names.length h1;go_enter func149,ntmps149;go_wp2;go_loopw [17] (fun i w'=>∃k:Nat,k<=names.length/\i=.int .i64 k/\Below w.heap.size w w'/\w.heap.size<w'.heap.size/\w'.rowIs w.heap.size 280 (names.length*2) (fun j=>if j<k*2 then jZ (names.map (pS outs sources)) j else jZ [] j)) (fun i _=>names.length-(intOf i).toNat)
 case atStart =>
  refine⟨0,aQ _,rfl,(Below.refl _ _).alloc (ag _) _,an,_,jR _ _,by simp[size_madeCells],fun j hj=>?_⟩;simp only[madeCells,Array.getElem?_map,Array.getElem?_range,hj,if_true,Option.map_some];rcases fL j with e|e<;>simp[e,jZ]
 case round =>
  obtain⟨k,hk,rfl,gv,hz,b6⟩:=hrel;by_cases bZ:k<names.length
  ·obtain⟨rfl,EK⟩:=ug (fun e=>by rw[e] at bZ;simp at bZ);have c0:=hn.below EK gv k bZ;rw[bh] at c0;have hse:=y6 ob oc (some ⟨ob,0,none⟩) outs names[k] wr h2 (fun _=>rfl) (ho.below fD gv);have hss:∀w2:ae,w2.heap=wr.heap->Calls ar 77 #[.slice sp sources.length sc,.string names[k]] w2 fun e w'=>e=.returned (.tuple #[.int .i64 (px sources names[k]:Nat),.bool (r8 sources names[k])])/\w'.heap=w2.heap/\∀w0 B,Below B w0 w2->Below B w0 w':=fun w2 zP =>
    y6 sb sc sp sources names[k] w2 h3 (fun h=>(xB h).1) (fun j hj=>by
     obtain⟨_,VC⟩:=xB (fun e=>by rw[e] at hj;simp at hj);rw[qy zP];exact hs.below VC gv j hj)
   have d0:wr.cell? ⟨w.heap.size,k*2,none⟩=some (.bool false):=by rw[b6.cell aa,if_neg aa];simp[jZ]
   have d1:wr.cell? ⟨w.heap.size,k*2+1,none⟩=some (.int .i64 0):=by rw[b6.cell aa,if_neg aa];simp[jZ]
   have f0:∀j,wr.frozen? ⟨w.heap.size,j,none⟩=false:=fun j=>b6.frozen j;have L9:(names.map (pS outs sources)).getD k (false,0)=pS outs sources names[k]:=by simp[bZ]
   generalize hx:names[k]=x at *;have MY:pS outs sources x=(r8 outs x,if r8 outs x then px outs x else px sources x):=rfl;clear hn ho hs ug;generalize r8 outs x=ho at *;generalize px outs x=po at *;generalize px sources x=ps at *;generalize r8 sources x=ts at *;generalize names.map (pS outs sources)=lk at *;generalize pS outs sources x=lx at *;cases ho
   ·go_wp2_with (first|(go_at_call 77;refine A4.mono ?_;rintro e w3 ⟨rfl,hw3,vE⟩;have g0:=(qy (hw3.trans zP) _).trans d0;have g1:=(qy (hw3.trans zP) _).trans d1;have g2:=fun j=>(za (hw3.trans zP) _).trans (f0 j))|(go_at_call 77;refine hse.mono ?_;rintro e w2 ⟨rfl,zP,pE⟩;have A4:=hss w2 zP));refine⟨⟨k+1,aa,by go_num,((vE _ _ (pE _ _ gv)).setCell (ag _) _).setCell (ag _) _,?_,?_⟩,by simp[intOf];omega⟩
    ·simp[World.setCell,hw3,zP];exact hz
    ·exact Q2 (b6.of_block (by rw[hw3,zP])) (by rw[L9,MY];rfl)
   ·go_wp2_with (go_at_call 77;refine hse.mono ?_;rintro e w2 ⟨rfl,zP,pE⟩;have g0:=(qy zP _).trans d0;have g1:=(qy zP _).trans d1;have g2:=fun j=>(za zP _).trans (f0 j));refine⟨⟨k+1,aa,by go_num,((pE _ _ gv).setCell (ag _) _).setCell (ag _) _,?_,?_⟩,by simp[intOf];omega⟩
    ·simp[World.setCell,zP];exact hz
    ·exact Q2 (b6.of_block (by rw[zP])) (by rw[L9,MY];rfl)
  ·go_wp2;go_ret;exact⟨rfl,gv,hz,b6.congr fun i hi=>by rw[if_pos aa]⟩
end
section
open Go.RowKit
def rT(outs:List ah)(l:List ah):List ah:=l.filter fun x=>!Lib.containsS outs x
def ll(outs:List ah)(nm:Nat->List ah):Nat->List ah
 |0=>[]
 |k+1=>ll outs nm k++rT outs (nm k)
theorem py(outs:List ah)(nm:Nat->List ah)(n:Nat)(h:∀i,i<n->(nm i).length<=4):∀k,k<=n->(ll outs nm k).length<=4*k
 |0,_=>by simp[ll]
 |k+1,hk=>by
  have h1:=py outs nm n h k aa;have h2:=h k aa;have h3:(rT outs (nm k)).length<=(nm k).length:=eC _ _;simp[ll];omega
theorem KG(outs:List ah)(l:List ah)(j:Nat)(h:j<l.length):rT outs (l.take (j+1))=rT outs (l.take j)++(if Lib.containsS outs l[j] then[] else[l[j]]):=by
 rw[take_succ l j h];simp only[rT,List.filter_append,List.filter_cons,List.filter_nil];cases Lib.containsS outs l[j]<;>simp
structure wY(w:ae)(b:Nat)(rs:List aL)(nm:Nat->List ah)(nb:Nat->Nat):Prop where
 at_:dX w b rs
 len:∀i (h:i<rs.length),rs[i].sl=(nm i).length
 ptr:∀i (h:i<rs.length),nm i≠[]->rs[i].sa=some ⟨nb i,0,none⟩/\nb i<w.heap.size
 txt:∀i,i<rs.length->dP w (nb i) 0 (nm i)
 four:∀i,i<rs.length->(nm i).length<=4
theorem wZ(b c:Nat)(xs:List ah)(x:ah)(w:ae)(hn:xs.length<=100000)(ht:dP w b 0 xs):
  Calls ar 80 #[.slice (some ⟨b,0,none⟩) xs.length c,.string x] w fun e w'=>e=.returned (.bool (Lib.containsS xs x))/\w'=w:=by
 have:=Tryz.slices_Contains_string b 0 xs.length c xs x w (ag _) aa (fun j hj=>by rw[ht j hj];simp[hj]);rw[dz] at this;exact this
theorem pz(W:ae)(lo:Nat)(v:Value)(xs:List ah)(x:ah)(A:Nat)(h:W.ownsRow lo 9 1 v xs.length (xs.map .string))(hn:xs.length<=100000)(uL:lo<=W.heap.size)(ha:W.cell? ⟨A,0,none⟩=some (.string x)):
  ∃v' W',(Builtin.append_ #[40,40] 40 #[v,.slice (some ⟨A,0,none⟩) 1 1]).run ar W=.ok v' W'/\W'.ownsRow lo 9 1 v' (xs++[x]).length ((xs++[x]).map .string)/\W.grownBy W' v.ownBlock:=by
 obtain⟨i,hi,oF⟩:=Option.map_eq_some_iff.1 pq;simp only[Prod.mk.injEq] at oF;obtain⟨v',W',e1,e2,e3,_⟩:=run_append_own (P:=ar) W lo 40 40 9 i _ 1 16 underlying40 hi oF.1 oF.2.1 oF.2.2 rfl aa v xs.length (xs.map .string) h ⟨A,0,none⟩ 1 1 [.string x] rfl (fun j u hj=>by
  cases j with
  |zero=>simp at hj;subst hj;simpa[Addr.add] using ha
  |succ j=>simp at hj) (by simp;rfl) (by simp[maxLen];omega) aa uL
 exact⟨v',W',e1,by simpa using e2,e3⟩
theorem yh{w:ae}{lo e sz n:Nat}{v:Value}{xs:List Value}(h:w.ownsRow lo e sz v n xs):∀k,v.ownBlock=some k->lo<=k:=fun k hk=>by
 obtain⟨_,hc⟩:=h;rcases hc with⟨rfl,_⟩|⟨g,cap,cur,rfl,h1,_⟩
 ·cases hk
 ·cases hk;exact h1
end
section
open Go.RowKit
theorem oP{w:ae}{lo e sz n:Nat}{v:Value}{xs:List Value}(h:w.ownsRow lo e sz v n xs)(x:Obj):(w.alloc x).ownsRow lo e sz v n xs:=cQ h fun g hg QV=>by
 obtain⟨_,hc⟩:=h;rcases hc with⟨rfl,_⟩|⟨g',cap,cur,rfl,h5,h6,_⟩
 ·cases hg
 ·have e:g=g':=aK hg;subst e;exact Below.heap_alloc _ _ _ (Array.getElem?_eq_some_iff.1 h6).1
theorem Fe(b c ob oc:Nat)(p:Option Addr)(rs:List aL)(nm:Nat->List ah)(nb:Nat->Nat)(outs:List ah)(w:ae)(h1:rs.length<=1000)(h2:outs.length<=100000)(hp:rs≠[]->p=some ⟨b,0,none⟩/\b<w.heap.size)(fD:ob<w.heap.size)(hr:wY w b rs nm nb)(ho:dP w ob 0 outs){S C:ae->Value->ae->Prop}(JY:∀W v,W.ownsRow w.heap.size 9 1 v (ll outs nm rs.length).length ((ll outs nm rs.length).map .string)->Calls ar 188 #[v] W fun e w'=>e=.returned (.tuple #[])/\S W v w')(hco:∀W v W1,W.ownsRow w.heap.size 9 1 v (ll outs nm rs.length).length ((ll outs nm rs.length).map .string)->S W v W1->Calls ar 189 #[v] W1 fun e w'=>∃v',e=.returned v'/\C W v' w'):
  Calls ar 148 #[.slice p rs.length c,.slice (some ⟨ob,0,none⟩) outs.length oc] w fun e w'=>∃v' W,e=.returned v'/\Below w.heap.size w W/\w.heap.size<=W.heap.size/\C W v' w':=by
 go_enter func148,ntmps148;go_wp2;go_loopw [5,12] (fun v i w'=>∃k:Nat,k<=rs.length/\i=.int .i64 k/\Below w.heap.size w w'/\w.heap.size<=w'.heap.size/\w'.ownsRow w.heap.size 9 1 v (ll outs nm k).length ((ll outs nm k).map .string)) (fun v i _=>rs.length-(intOf i).toNat)
 case atStart=>exact⟨0,aQ _,rfl,Below.refl _ _,ag _,by simp[ll],.inl ⟨rfl,rfl⟩⟩
 case round =>
  obtain⟨k,hk,rfl,gv,hz,b6⟩:=hrel;by_cases bZ:k<rs.length
  ·obtain⟨rfl,hb⟩:=hp (fun e=>by rw[e] at bZ;simp at bZ);obtain⟨c0,c1,c2⟩:=hr.at_.below hb gv k bZ;have hlen:=hr.len k bZ;have abt:=hr.ptr k bZ;have htx:=hr.txt k bZ;have h4:=hr.four k bZ;have VW:=py outs nm rs.length hr.four k hk;have C5:ll outs nm (k+1)=ll outs nm k++rT outs (nm k):=rfl;generalize ll outs nm k=raw at *;generalize hri:rs[k]=r at *;obtain⟨out,eD,sa,sl,sc⟩:=r;simp only at c0 c1 c2 hlen abt;subst hlen;go_wp2;go_loopw [5,19] (fun v i w'=>∃j:Nat,j<=(nm k).length/\i=.int .i64 j/\Below w.heap.size w w'/\w.heap.size<=w'.heap.size/\w'.ownsRow w.heap.size 9 1 v (raw++rT outs ((nm k).take j)).length ((raw++rT outs ((nm k).take j)).map .string)) (fun v i _=>(nm k).length-(intOf i).toNat)
   case atStart=>exact⟨0,aQ _,rfl,gv.alloc aa _,eR,by simpa[rT] using oP b6 _⟩
   case round =>
    clear gv hz b6;obtain⟨j,hj,rfl,gv,hz,b6⟩:=hrel;by_cases sf:j<(nm k).length
    ·obtain⟨rfl,EK⟩:=abt (fun e=>by rw[e] at sf;simp at sf);have d0:=htx.below EK gv j sf;rw[bh] at d0;have sd:=wZ ob oc outs (nm k)[j] wr h2 (ho.below fD gv);have V2:=KG outs (nm k) j sf;generalize hx:(nm k)[j]=x at *;have Cy:(rT outs ((nm k).take j)).length<=j:=aR (eC _ _) eR;cases NZ:Lib.containsS outs x
     ·rw[NZ] at sd V2;simp only[Bool.false_eq_true,if_false] at V2;obtain⟨v',W',e1,e2,e3⟩:=pz (wr.alloc (.cells #[.string x] 9)) w.heap.size _ _ x wr.heap.size (oP b6 _) eR eR (vw _ _ _ 0);have vE:=Below.grown (gv.alloc aa _) e3 eR (yh b6);go_wp2_with (first|(go_at_call 80;refine sd.mono ?_;rintro e w' ⟨rfl,rfl⟩)|(at_builtin;refine fM rfl _ _ 40 rfl rfl rfl e1 ?_));exact⟨⟨j+1,aa,by go_num,vE,vE.size,by rw[V2,<- List.append_assoc];exact e2⟩,by simp[intOf];omega⟩
     ·rw[NZ] at sd V2;simp only[if_true,List.append_nil] at V2;go_wp2_with (go_at_call 80;refine sd.mono ?_;rintro e w' ⟨rfl,rfl⟩);exact⟨⟨j+1,aa,by go_num,gv,hz,by rw[V2];exact b6⟩,by simp[intOf];omega⟩
    ·have e:j=(nm k).length:=aa;subst e;rw[dz] at b6;go_wp2;exact⟨⟨k+1,aa,by go_num,gv,hz,by rw[C5];exact b6⟩,by simp[intOf];omega⟩
  ·have e:k=rs.length:=aa;subst e;have hs:=JY _ _ b6;go_wp2_with (first|(go_at_call 188;refine hs.mono ?_;rintro e w' ⟨rfl,hS⟩;have hc:=hco _ _ _ b6 hS)|(go_at_call 189;refine hc.mono ?_;rintro e w2 ⟨v',rfl,hC⟩));go_ret;exact⟨v',wr,rfl,gv,hz,hC⟩
end
section
open Go.RowKit Go.Sort Go.Lib
def bytesOf(x:ah):List UInt8:=x.data.toList
def jD(raw:List ah):List (List UInt8):=(raw.map bytesOf).mergeSort fun x y=>decide (x<=y)
def ju(raw:List ah):List ah:=(Lib.compact (jD raw)).map fun l=>⟨l.toArray⟩
theorem Q3(w:ae):Calls ar 188 #[.slice none 0 0] w fun e w'=>e=.returned (.tuple #[])/\w'.heap=w.heap:=by
 have hl:=E7 0 w aa;have h2:∀W,Calls ar 225 #[.slice none 0 0,.int .i64 0,.int .i64 0] W fun e w'=>e=.returned (.tuple #[])/\w'.heap=W.heap:=fun W=>by
  go_enter func225,ntmps225;go_wp2;refine wp_loop_rounds 1 ?_;rw[rounds_succ];go_wp2
  go_end0
  exact⟨rfl,rfl⟩
 have h3:∀W lim,Calls ar 207 #[.slice none 0 0,.int .i64 0,.int .i64 0,.int .i64 lim] W fun e w'=>e=.returned (.tuple #[])/\w'.heap=W.heap:=fun W lim=>by
  go_enter func207,ntmps207;go_wp2;refine wp_loop_rounds 1 ?_;rw[rounds_succ];go_wp2_with (go_at_call 225;refine(h2 _).mono ?_;rintro e w' ⟨rfl,hw⟩)
  (try simp only[Exit.inBlock,Exit.then])
  refine bodyPost_ret (results_none af _ _).1 rfl ?_;exact⟨rfl,hw⟩
 go_enter func188,ntmps188;go_wp2_with (first|(go_at_call 205;refine hl.mono ?_;rintro e w' ⟨⟨l,rfl⟩,rfl⟩)|(go_at_call 207;refine(h3 _ _).mono ?_;rintro e w' ⟨rfl,hw⟩))
 go_end0
 exact⟨rfl,hw⟩
def Q4(lo:Nat)(raw:List ah)(W:ae)(v:Value)(W1:ae):Prop :=
 (v=.slice none 0 0/\raw=[]/\W1.heap=W.heap)\/∃g cap,v=.slice (some ⟨g,0,none⟩) raw.length cap/\raw.length<=cap/\lo<=g/\g<W.heap.size/\W.heap.size<=W1.heap.size/\(∀b,b<W.heap.size->b≠g->W1.heap[b]?=W.heap[b]?)/\Holds encStr W1 g 0 (jD raw).toArray
theorem qz(raw:List ah):(jD raw).length=raw.length:=by simp[jD,List.length_mergeSort]
theorem Q5(lo:Nat)(raw:List ah)(W:ae)(v:Value)(h:W.ownsRow lo 9 1 v raw.length (raw.map .string))(hn:raw.length<=100000):
  Calls ar 188 #[v] W fun e w'=>e=.returned (.tuple #[])/\Q4 lo raw W v w':=by
 obtain⟨_,hc⟩:=h;rcases hc with⟨rfl,h0⟩|⟨g,cap,cur,rfl,h1,h2,h3,h4,h5,h6⟩
 ·exact(Q3 W).mono fun e w' ⟨h1,h2⟩=>⟨h1,.inl ⟨rfl,List.length_eq_zero_iff.1 h0,h2⟩⟩
 ·have hg:g<W.heap.size:=(Array.getElem?_eq_some_iff.1 h2).1;have hH:Holds encStr W g 0 (raw.map bytesOf).toArray:=fun j hj=>by
   have rY:j<raw.length:=by simpa using hj
   rw[bh];refine⟨?_,by simp[World.frozen?,h2]⟩;have e:(raw.map Value.string)[j]?=cur[j]?:=by
    rw[<- h6,eU aa,Array.getElem?_toList]
   simp only[World.cell?,h2];simp only[Option.isSome_none,Bool.false_eq_true,if_false];rw[<- e];simp[rY,encStr,bytesOf]
  have hs:=Tryz.slices_Sort_string g 0 cap (raw.map bytesOf) W hH hg eR;rw[bG] at hs;refine hs.mono fun e w' hq=>?_;obtain⟨rfl,n,os,rfl⟩:=hq;have pE:g<(putRow encStr (Go.Sort.ahead W n) g 0 (jD raw).toArray).heap.size:=by simp[putRow,mapBlock,Go.Sort.ahead];exact hg
  refine⟨rfl,.inr ⟨g,cap,rfl,h3,h1,hg,?_,fun b hb cV=>?_,?_⟩⟩
  ·simp[Go.Sort.grow,putRow,mapBlock,Go.Sort.ahead]
  ·rw[heap_grow_old _ _ (by simp[putRow,mapBlock,Go.Sort.ahead];exact hb)];simp only[putRow,mapBlock,Go.Sort.ahead];rw[er,if_neg (fun e=>cV e.symm)]
  ·exact holds_grow encStr _ os g 0 _ pE (holds_putRow encStr _ g 0 _ _ hH (by simp[List.length_mergeSort]))
end
section
open Go.RowKit Go.Sort Go.Lib
def Yb(lo:Nat)(raw:List ah)(W:ae)(v:Value)(W1:ae):Prop :=
 (v=.slice none 0 0/\ju raw=[]/\W1.heap=W.heap)\/∃g cap,v=.slice (some ⟨g,0,none⟩) (ju raw).length cap/\(ju raw).length<=cap/\lo<=g/\g<W.heap.size/\W.heap.size<=W1.heap.size/\(∀b,b<W.heap.size->b≠g->W1.heap[b]?=W.heap[b]?)/\dP W1 g 0 (ju raw)
theorem BM{α:Type}[Inhabited α][DecidableEq α](zs:List α):(Lib.compact zs).length<=zs.length:=by
 unfold Lib.compact Lib.compactUpTo;rw[bG];exact aR (eC _ _) an
theorem H6(lo:Nat)(raw:List ah)(W:ae)(v:Value)(W1:ae)(hn:raw.length<=100000)(hS:Q4 lo raw W v W1):
  Calls ar 189 #[v] W1 fun e w'=>∃v',e=.returned v'/\Yb lo raw W v' w':=by
 rcases hS with⟨rfl,rfl,h0⟩|⟨g,cap,rfl,h1,h2,h3,h4,h5,h6⟩
 ·refine(Tryz.slices_Compact_string_empty none 0 W1).mono fun e w' hq=>?_;obtain⟨rfl,rfl⟩:=hq;exact⟨_,rfl,.inl ⟨rfl,by simp[ju,jD,Lib.compact,Lib.compactUpTo],h0⟩⟩
 ·have hc:=Tryz.slices_Compact_string g 0 cap (jD raw) W1 h6 (by rw[qz];omega) (by rw[qz];exact h1);rw[qz] at hc;refine hc.mono fun e w' hq=>?_;obtain⟨rfl,q,rfl⟩:=hq;have hle:(Lib.compact (jD raw)).length<=raw.length:=by rw[<- qz raw];exact BM _
  have hl:(ju raw).length=(Lib.compact (jD raw)).length:=by simp[ju]
  refine⟨_,rfl,.inr ⟨g,cap,by rw[hl],aa,h2,h3,?_,fun b hb cV=>?_,fun k hk=>?_⟩⟩
  ·simp[putRow,mapBlock,Go.Sort.ahead];exact h4
  ·simp only[putRow,mapBlock,Go.Sort.ahead];rw[er,if_neg (fun e=>cV e.symm)];exact h5 b hb cV
  ·have kY:k<(Lib.compact (jD raw)).length:=aa;have:=(holds_putRow encStr (Go.Sort.ahead W1 q) g 0 _ (Lib.compact (jD raw)++List.replicate (raw.length-(Lib.compact (jD raw)).length) []).toArray h6 (by simp[qz];omega) k eR).1;rw[this];rw[dT _ k eR];simp only[List.getElem_toArray];rw[eW kY];simp[ju,encStr]
theorem C6(b c ob oc:Nat)(p:Option Addr)(rs:List aL)(nm:Nat->List ah)(nb:Nat->Nat)(outs:List ah)(w:ae)(h1:rs.length<=1000)(h2:outs.length<=100000)(hp:rs≠[]->p=some ⟨b,0,none⟩/\b<w.heap.size)(fD:ob<w.heap.size)(hr:wY w b rs nm nb)(ho:dP w ob 0 outs):
  Calls ar 148 #[.slice p rs.length c,.slice (some ⟨ob,0,none⟩) outs.length oc] w fun e w'=>∃v' W,e=.returned v'/\Go.RowKit.Below w.heap.size w W/\w.heap.size<=W.heap.size/\Yb w.heap.size (ll outs nm rs.length) W v' w':=by
 have hl:=py outs nm rs.length hr.four rs.length (ag _);exact Fe b c ob oc p rs nm nb outs w h1 h2 hp fD hr ho (S:=Q4 w.heap.size (ll outs nm rs.length)) (C:=Yb w.heap.size (ll outs nm rs.length)) (fun W v h=>Q5 _ _ W v h aa) (fun W v W1 _ hS=>H6 _ _ W v W1 aa hS)
end
section
open Go.Lib
theorem Yc(a b:List UInt8):a<b↔compareBytes a b<0:=by
 have h1:=tn a b;rw[bytesLess_eq] at h1;exact decide_eq_decide.1 h1
theorem KH(a b:List UInt8):a<=b↔compareBytes a b<=0:=by
 have h:=qw a b;rw[show a<=b↔¬b<a from cG,Yc];omega
theorem Ff(a b c:List UInt8)(h1:compareBytes a b<=0)(h2:compareBytes b c<=0):compareBytes a c<=0:=by
 rcases gn h1 with h3|h3
 ·rcases gn h2 with h4|h4
  ·exact Int.le_of_lt (mN a b c h3 h4)
  ·rw[<- rA b c h4];omega
 ·rw[rA a b h3];exact h2
theorem N6(a b c:List UInt8)(h1:compareBytes a b<=0)(h2:compareBytes b c<0):compareBytes a c<0:=by
 rcases gn h1 with h3|h3
 ·exact mN a b c h3 h2
 ·rw[rA a b h3];exact h2
theorem Fg(raw:List ah):(jD raw).Pairwise fun x y=>compareBytes x y<=0:=by
 have h:=List.pairwise_mergeSort (le:=fun x y:List UInt8=>decide (x<=y)) (fun a b c h1 h2=>by
  simp only[decide_eq_true_eq,KH] at *;exact Ff a b c h1 h2) (fun a b=>by
  have:=qw a b;simp only[Bool.or_eq_true,decide_eq_true_eq,KH];omega) (raw.map bytesOf)
 exact h.imp fun h=>(KH _ _).1 (by simpa using h)
theorem tq(d:Array (List UInt8))(hs:∀i j,i<j->j<d.size->compareBytes d[i]! d[j]!<=0):∀m,m<=d.size->(compactUpTo d m).Pairwise (fun x y=>compareBytes x y<0)/\(∀x,x∈compactUpTo d m↔∃j,j<m/\x=d[j]!)
 |0,_=>by simp[compactUpTo]
 |m+1,hm=>by
  obtain⟨k1,k2⟩:=tq d hs m aa;rw[compactUpTo_succ];cases hk:keeps d m
  ·simp only[keeps,decide_eq_false_iff_not,not_or] at hk;have e:d[m]! = d[m-1]!:=Classical.not_not.1 hk.2;simp only[Bool.false_eq_true,if_false,List.append_nil];refine⟨k1,fun x=>⟨fun h=>?_,fun⟨j,hj,hx⟩=>?_⟩⟩
   ·obtain⟨j,hj,hx⟩:=(k2 x).1 h;exact⟨j,aa,hx⟩
   ·by_cases ej:j=m
    ·subst ej;rw[e] at hx;exact(k2 x).2 ⟨j-1,aa,hx⟩
    ·exact(k2 x).2 ⟨j,aa,hx⟩
  ·simp only[if_true];refine⟨?_,fun x=>⟨fun h=>?_,fun⟨j,hj,hx⟩=>?_⟩⟩
   ·rw[List.pairwise_append];refine⟨k1,an,fun x hx y hy=>?_⟩;simp at hy;subst hy;obtain⟨j,hj,rfl⟩:=(k2 x).1 hx;simp only[keeps,decide_eq_true_eq] at hk;have kY:d[m]!≠d[m-1]!:=hk.resolve_left aa;have h1:compareBytes d[m-1]! d[m]!<0:=by
     have:=hs (m-1) m aa aa;rcases gn this with h|h
     ·exact h
     ·exact absurd (rA _ _ h).symm kY
    by_cases ej:j=m-1
    ·subst ej;exact h1
    ·exact N6 _ _ _ (hs j (m-1) aa aa) h1
   ·rw[dZ] at h;rcases h with h|h
    ·obtain⟨j,hj,hx⟩:=(k2 x).1 h;exact⟨j,aa,hx⟩
    ·simp at h;exact⟨m,aa,h⟩
   ·rw[dZ];by_cases ej:j=m
    ·subst ej;exact .inr (by simp[hx])
    ·exact .inl ((k2 x).2 ⟨j,aa,hx⟩)
theorem pA(raw:List ah):nY (ju raw)/\∀x,x∈ju raw↔x∈raw:=by
 have hs:=Fg raw;obtain⟨k1,k2⟩:=tq (jD raw).toArray (fun i j DU hj=>by
  have rY:j<(jD raw).length:=by simpa using hj
  rw[dT _ i eR,dT _ j hj];exact List.pairwise_iff_getElem.1 hs i j aa rY DU) (jD raw).length an
 refine⟨fun i j hi hj DU=>?_,fun x=>?_⟩
 ·have lQ:i<(Lib.compact (jD raw)).length:=by simpa[ju] using hi
  have rY:j<(Lib.compact (jD raw)).length:=by simpa[ju] using hj
  have:=List.pairwise_iff_getElem.1 k1 i j lQ rY DU;simp only[ju,List.getElem_map,ByteArray.toList_mk];exact this
 ·have hb:∀l:List UInt8,l∈Lib.compact (jD raw)↔l∈raw.map bytesOf:=fun l=>by
   have h1:l∈Lib.compact (jD raw)↔l∈jD raw:=by
    rw[show Lib.compact (jD raw)=compactUpTo (jD raw).toArray (jD raw).length from rfl,k2];constructor
    ·rintro⟨j,hj,rfl⟩;rw[dT _ j (by simpa using hj)];simp
    ·intro h;obtain⟨j,hj,rfl⟩:=a8 h;exact⟨j,hj,by rw[dT _ j (by simpa using hj)];simp⟩
   rw[h1];simp[jD,List.mem_mergeSort]
  simp only[ju,List.mem_map];constructor
  ·rintro⟨l,hl,rfl⟩;have:=(hb l).1 hl;rw[List.mem_map] at this;obtain⟨y,hy,rfl⟩:=this;exact hy
  ·intro hx;exact⟨bytesOf x,(hb _).2 (List.mem_map.2 ⟨x,hx,rfl⟩),rfl⟩
end
open Go.Ren Go.Conc Go.ConcN
section
variable {Fin:bH} {o:aM} {w:ae}
structure fw(o:aM)(w:ae)(v:Value)(o':aM)(w':ae):Prop where
 own:o'=grow o w w'
 ay:bE ar L0 o' w'
 size:w.heap.size<=w'.heap.size
 old:∀b,b<w.heap.size->w'.heap[b]?=w.heap[b]?
 cl:Cl ar L0 o' v
theorem Ma{P:Program}{L:Nat->Bool}{o:aM}{vs:Array Value}(h:∀x∈vs,Cl P L o x):∀g,(lR P L o).has g->vs.map (val g)=vs:=fun g hg=>by
 apply iR;intro i;rw[br];cases e:vs[i]? with
 |none=>rfl
 |some x=>rw[cR,h x (ew e) g hg]
theorem dS{f:FuncId}{vs:Array Value}(hL:L0 f=true)(hF:bE ar L0 o w)(sS:∀x∈vs,Cl ar L0 o x){Q:ae->Value->ae->Prop}(hQ:∀wl Ai v w1 w2,Ai.heap=wl.heap->w2.heap=w1.heap->Q wl v w1->Q Ai v w2)(hC:∀wl,wl.heap.size=w.heap.size->(∀b,o b->wl.heap[b]?=w.heap[b]?)->Calls ar f vs wl fun e w'=>∃v,e=.returned v/\wl.heap.size<=w'.heap.size/\(∀b,b<wl.heap.size->w'.heap[b]?=wl.heap[b]?)/\Q wl v w'):
  bp ar (XB ar Fin 0) f vs o w fun v o' w'=>fw o w v o' w'/\∃wl aI,wl.heap.size=w.heap.size/\aI.heap.size=w'.heap.size/\(∀b,w.heap.size<=b->b<w'.heap.size->w'.heap[b]?=aI.heap[b]?)/\Q wl v aI:=by
 refine re aX hL hF (Ma sS) (R:=fun wl v aI=>wl.heap.size<=aI.heap.size/\(∀b,b<wl.heap.size->aI.heap[b]?=wl.heap[b]?)/\Q wl v aI) (fun wl v w1 τ d h=>⟨h.1,h.2.1,hQ wl wl v w1 (WT w1 τ d) rfl rfl h.2.2⟩) (fun wl τ d v w' h=>⟨h.1,h.2.1,hQ (WT wl τ d) wl v w' w' rfl rfl h.2.2⟩) (fun wl hz aE=>hC wl hz aE) ?_;rintro wl v aI w' hz aE ⟨h1,h2,h3⟩ B;refine⟨⟨rfl,B.ay,B.gO,fun b hb=>?_,B.val⟩,wl,aI,hz,B.size.symm,fun b hb mo=>B.same b (.inr ⟨hb,mo⟩),h3⟩;by_cases ho:o b
 ·rw[B.same b (.inl ho),h2 b aa,aE b ho]
 ·exact B.rest b hb ho
theorem gp{w w':ae}{b:Nat}{rs:List aL}(h:dX w b rs)(e:w'.heap[b]?=w.heap[b]?):dX w' b rs:=fun i hi=>by
 obtain⟨c0,c1,c2⟩:=h i hi;exact⟨(cell_of e).trans c0,(cell_of e).trans c1,(cell_of e).trans c2⟩
theorem cI{w w':ae}{b off:Nat}{ts:List ah}(h:dP w b off ts)(e:w'.heap[b]?=w.heap[b]?):dP w' b off ts:=fun i hi=>(cell_of e).trans (h i hi)
theorem Q6(hF:bE ar L0 o w)(b c:Nat)(p:Option Addr)(rs:List aL)(hn:rs.length<=100000)(hp:rs≠[]->p=some ⟨b,0,none⟩/\o b)(hv:dX w b rs)(hc:Cl ar L0 o (.slice p rs.length c)):
  bp ar (XB ar Fin 0) 147 #[.slice p rs.length c] o w fun v o' w'=>fw o w v o' w'/\v=.slice (some ⟨w.heap.size,0,none⟩) rs.length rs.length/\w.heap.size<w'.heap.size/\dP w' w.heap.size 0 (rs.map (·.out)):=by
 have eY:∀x∈#[Value.slice p rs.length c],Cl ar L0 o x:=fun x hx=>by
  simp at hx;subst hx;exact hc
 refine bp.mono (dS af hF eY (Q:=fun wl v w'=>v=.slice (some ⟨wl.heap.size,0,none⟩) rs.length rs.length/\wl.heap.size<w'.heap.size/\w'.rowIs wl.heap.size 9 rs.length (fun j=>.string ((rs.map (·.out)).getD j aN))) (fun wl Ai v w1 w2 e1 e2 h=>?_) (fun wl hz aE=>?_)) (fun v o' w' hq=>?_)
 ·rw[e1,e2];exact⟨h.1,h.2.1,h.2.2.of_block (by rw[e2])⟩
 ·refine(KC b c p rs wl hn (fun h=>⟨(hp h).1,by rw[hz];exact hF.lt (hp h).2⟩) ?_).mono fun e w' hq=>?_
  ·intro i hi;exact gp hv (aE b (hp (fun e=>by rw[e] at hi;simp at hi)).2) i hi
  ·obtain⟨rfl,h1,h2,h3⟩:=hq;exact⟨_,rfl,h1.size,fun b hb=>h1.block b hb,rfl,h2,h3⟩
 ·obtain⟨hN,wl,aI,z1,z2,hs,rfl,h2,h3⟩:=hq;rw[z1] at h2 h3 hN |-;refine⟨hN,rfl,aa,fun k hk=>?_⟩;have kY:k<rs.length:=by simpa using hk
  have:=(h3.of_block (hs _ (ag _) aa)).cell kY;rw[bh,this];simp[kY]
theorem iW{w w':ae}{St n:Nat}{out:Nat->ah}{eD:Nat->Int}{ins:Nat->List (Bool×Nat)}{cw:Nat->Nat}(h:oE w St n out eD ins cw)(e:w'.heap[St]?=w.heap[St]?)(ei:∀s,s<n->w'.heap[cw s]?=w.heap[cw s]?)(hz:w.heap.size<=w'.heap.size):oE w' St n out eD ins cw where
 out s hs:=(cell_of e).trans (h.out s hs)
 eD s hs:=(cell_of e).trans (h.eD s hs)
 zJ s hs:=(cell_of e).trans (h.zJ s hs)
 Bw s hs j hj:=⟨(cell_of (ei s hs)).trans (h.Bw s hs j hj).1,(cell_of (ei s hs)).trans (h.Bw s hs j hj).2⟩
 lt s hs:=bm (h.lt s hs) hz
 short:=h.short
theorem N9(hF:bE ar L0 o w)(St n sc:Nat)(out:Nat->ah)(eD:Nat->Int)(ins:Nat->List (Bool×Nat))(cw:Nat->Nat)(hn:n<=1000)(X8:o St)(dW:oE w St n out eD ins cw)(hio:∀s,s<n->o (cw s)):
  bp ar (XB ar Fin 0) 150 #[.slice (some ⟨St,0,none⟩) n sc] o w fun v o' w'=>fw o w v o' w'/\v=.slice (some ⟨w.heap.size,0,none⟩) (dK ins n n).length n/\w.heap.size<w'.heap.size/\kI w' w.heap.size n (dK ins n n):=by
 have eY:∀x∈#[Value.slice (some ⟨St,0,none⟩) n sc],Cl ar L0 o x:=fun x hx=>by
  simp at hx;subst hx;exact di X8
 refine bp.mono (dS af hF eY (Q:=fun wl v w'=>v=.slice (some ⟨wl.heap.size,0,none⟩) (dK ins n n).length n/\wl.heap.size<w'.heap.size/\kI w' wl.heap.size n (dK ins n n)) (fun wl Ai v w1 w2 e1 e2 h=>?_) (fun wl hz aE=>?_)) (fun v o' w' hq=>?_)
 ·rw[e1,e2];exact⟨h.1,h.2.1,World.rowIs.of_block h.2.2 (by rw[e2])⟩
 ·refine(H5 St n sc out eD ins cw wl hn (by rw[hz];exact hF.lt X8) (iW dW (aE St X8) (fun s hs=>aE _ (hio s hs)) aa)).mono fun e w' hq=>?_;obtain⟨rfl,h1,h2,h3⟩:=hq;exact⟨_,rfl,h1.size,fun b hb=>h1.block b hb,rfl,h2,h3⟩
 ·obtain⟨hN,wl,aI,z1,z2,hs,rfl,h2,h3⟩:=hq;rw[z1] at h2 h3 hN |-;exact⟨hN,rfl,aa,World.rowIs.of_block h3 (hs _ (ag _) aa)⟩
theorem Q7(hF:bE ar L0 o w)(nb nc ob oc sb sc:Nat)(np sp:Option Addr)(names outs sources:List ah)(h1:names.length<=100000)(h2:outs.length<=100000)(h3:sources.length<=100000)(ug:names≠[]->np=some ⟨nb,0,none⟩/\o nb)(xB:sources≠[]->sp=some ⟨sb,0,none⟩/\o sb)(fD:o ob)(hn:dP w nb 0 names)(ho:dP w ob 0 outs)(hs:dP w sb 0 sources)(Zf:Cl ar L0 o (.slice np names.length nc))(Vq:Cl ar L0 o (.slice sp sources.length sc)):
  bp ar (XB ar Fin 0) 149 #[.slice np names.length nc,.slice (some ⟨ob,0,none⟩) outs.length oc,.slice sp sources.length sc] o w fun v o' w'=>fw o w v o' w'/\v=.slice (some ⟨w.heap.size,0,none⟩) names.length names.length/\w.heap.size<w'.heap.size /\
   w'.rowIs w.heap.size 280 (names.length*2) (jZ (names.map (pS outs sources))):=by
 have eY:∀x∈#[Value.slice np names.length nc,.slice (some ⟨ob,0,none⟩) outs.length oc,.slice sp sources.length sc],Cl ar L0 o x:=fun x hx=>by
  simp at hx;rcases hx with rfl|rfl|rfl
  ·exact Zf
  ·exact di fD
  ·exact Vq
 refine bp.mono (dS af hF eY (Q:=fun wl v w'=>v=.slice (some ⟨wl.heap.size,0,none⟩) names.length names.length/\wl.heap.size<w'.heap.size/\w'.rowIs wl.heap.size 280 (names.length*2) (jZ (names.map (pS outs sources)))) (fun wl Ai v w1 w2 e1 e2 h=>?_) (fun wl hz aE=>?_)) (fun v o' w' hq=>?_)
 ·rw[e1,e2];exact⟨h.1,h.2.1,World.rowIs.of_block h.2.2 (by rw[e2])⟩
 ·refine(KF nb nc ob oc sb sc np sp names outs sources wl h1 h2 h3 (fun h=>⟨(ug h).1,by rw[hz];exact hF.lt (ug h).2⟩) (fun h=>⟨(xB h).1,by rw[hz];exact hF.lt (xB h).2⟩) (by rw[hz];exact hF.lt fD) ?_ (cI ho (aE _ fD)) ?_).mono fun e w' hq=>?_
  ·intro i hi;exact cI hn (aE nb (ug (fun e=>by rw[e] at hi;simp at hi)).2) i hi
  ·intro i hi;exact cI hs (aE sb (xB (fun e=>by rw[e] at hi;simp at hi)).2) i hi
  obtain⟨rfl,h1,h2,h3⟩:=hq;exact⟨_,rfl,h1.size,fun b hb=>h1.block b hb,rfl,h2,h3⟩
 ·obtain⟨hN,wl,aI,z1,z2,hs,rfl,h2,h3⟩:=hq;rw[z1] at h2 h3 hN |-;exact⟨hN,rfl,aa,World.rowIs.of_block h3 (hs _ (ag _) aa)⟩
end
theorem KI(v:Value)(p:Option Addr)(n c:Nat)(w:ae):Calls ar 145 #[.slice p n c] w fun e w'=>e=.returned (.func (.func 186) #[] #[.pointer (some ⟨w.heap.size,0,none⟩)])/\w'=w.alloc (.cells #[.slice p n c] 35):=by
 go_enter func145,ntmps145;go_wp2;go_ret;exact⟨rfl,rfl⟩
section
variable {Fin:bH} {o:aM} {w:ae}
theorem Q8(hF:bE ar L0 o w)(p:Option Addr)(n c:Nat)(hc:Cl ar L0 o (.slice p n c)):
  bp ar (XB ar Fin 0) 145 #[.slice p n c] o w fun v o' w'=>fw o w v o' w'/\v=.func (.func 186) #[] #[.pointer (some ⟨w.heap.size,0,none⟩)]/\w.heap.size<w'.heap.size/\w'.heap[w.heap.size]?=some (.cells #[.slice p n c] 35):=by
 have eY:∀x∈#[Value.slice p n c],Cl ar L0 o x:=fun x hx=>by
  simp at hx;subst hx;exact hc
 refine bp.mono (dS af hF eY (Q:=fun wl v w'=>v=.func (.func 186) #[] #[.pointer (some ⟨wl.heap.size,0,none⟩)]/\wl.heap.size<w'.heap.size/\w'.heap[wl.heap.size]?=some (.cells #[.slice p n c] 35)) (fun wl Ai v w1 w2 e1 e2 h=>?_) (fun wl hz aE=>?_)) (fun v o' w' hq=>?_)
 ·rw[e1,e2];exact h
 ·refine(KI undef p n c wl).mono fun e w' hq=>?_;obtain⟨rfl,rfl⟩:=hq;exact⟨_,rfl,an,fun b hb=>Go.RowKit.Below.heap_alloc _ _ b hb,rfl,an,jR _ _⟩
 ·obtain⟨hN,wl,aI,z1,z2,hs,rfl,h2,h3⟩:=hq;rw[z1] at h2 h3 hN |-;exact⟨hN,rfl,aa,(hs _ (ag _) aa).trans h3⟩
def ga(lo:Nat)(ts:List ah)(v:Value)(w':ae):Prop:=(v=.slice none 0 0/\ts=[])\/∃g cap,v=.slice (some ⟨g,0,none⟩) ts.length cap/\ts.length<=cap/\lo<=g/\g<w'.heap.size/\dP w' g 0 ts
theorem H7(hF:bE ar L0 o w)(b c ob oc:Nat)(p:Option Addr)(rs:List aL)(nm:Nat->List ah)(nb:Nat->Nat)(outs:List ah)(h1:rs.length<=1000)(h2:outs.length<=100000)(hp:rs≠[]->p=some ⟨b,0,none⟩/\o b)(fD:o ob)(hr:wY w b rs nm nb)(KJ:∀i,i<rs.length->nm i≠[]->o (nb i))(ho:dP w ob 0 outs)(hc:Cl ar L0 o (.slice p rs.length c)):
  bp ar (XB ar Fin 0) 148 #[.slice p rs.length c,.slice (some ⟨ob,0,none⟩) outs.length oc] o w fun v o' w'=>fw o w v o' w'/\ga w.heap.size (ju (ll outs nm rs.length)) v w':=by
 have eY:∀x∈#[Value.slice p rs.length c,.slice (some ⟨ob,0,none⟩) outs.length oc],Cl ar L0 o x:=fun x hx=>by
  simp at hx;rcases hx with rfl|rfl
  ·exact hc
  ·exact di fD
 refine bp.mono (dS af hF eY (Q:=fun wl v w'=>ga wl.heap.size (ju (ll outs nm rs.length)) v w') (fun wl Ai v w1 w2 e1 e2 h=>?_) (fun wl hz aE=>?_)) (fun v o' w' hq=>?_)
 ·rcases h with h|⟨g,cap,k1,k2,k3,k4,k5⟩
  ·exact .inl h
  ·exact .inr ⟨g,cap,k1,k2,by rw[e1];exact k3,by rw[e2];exact k4,cI k5 (by rw[e2])⟩
 ·have SJ:wY wl b rs nm nb:=by
   refine⟨fun i hi=>gp hr.at_ (aE b (hp (fun e=>by rw[e] at hi;simp at hi)).2) i hi,hr.len,fun i hi cV=>⟨(hr.ptr i hi cV).1,by rw[hz];exact(hr.ptr i hi cV).2⟩,fun i hi j hj=>?_,hr.four⟩;exact cI (hr.txt i hi) (aE _ (KJ i hi (fun e=>by rw[e] at hj;simp at hj))) j hj
  refine(C6 b c ob oc p rs nm nb outs wl h1 h2 (fun h=>⟨(hp h).1,by rw[hz];exact hF.lt (hp h).2⟩) (by rw[hz];exact hF.lt fD) SJ (cI ho (aE _ fD))).mono fun e w' hq=>?_;obtain⟨v',W,rfl,hB,hW,hC⟩:=hq;rcases hC with⟨rfl,k1,k2⟩|⟨g,cap,k1,k2,k3,k4,k5,k6,k7⟩
  ·exact⟨_,rfl,by rw[k2];exact hW,fun b hb=>by rw[k2];exact hB.block b hb,.inl ⟨rfl,k1⟩⟩
  ·exact⟨_,rfl,aa,fun b hb=>(k6 b aa aa).trans (hB.block b hb),.inr ⟨g,cap,k1,k2,k3,aa,k7⟩⟩
 ·obtain⟨hN,wl,aI,z1,z2,hs,hq⟩:=hq;refine⟨hN,?_⟩;rw[z1] at hq;rcases hq with h|⟨g,cap,k1,k2,k3,k4,k5⟩
  ·exact .inl h
  ·exact .inr ⟨g,cap,k1,k2,k3,aa,cI k5 (hs g k3 aa)⟩
end
section
open Go.RowKit
theorem H8:(ar.info? 65).map (fun i=>(i.zero,i.size,i.bytes))=some (some (.agg #[.string aN,.string aN,.bool false]),3,40):=af
theorem yi(w:ae)(n:Nat)(hn:n<=100000):(Instr.makeSlice 46 (.int .i64 (n:Int)) (.int .i64 (n:Int))).run ar w=.ok (.slice (some ⟨w.heap.size,0,none⟩) n n) (w.alloc (.cells (madeCells #[.string aN,.string aN,.bool false] (n*3)) 65)):=by
 obtain⟨i,hi,hz⟩:=Option.map_eq_some_iff.1 H8;simp only[Prod.mk.injEq] at hz;obtain⟨hz,hs,hb⟩:=hz;have:=run_make (P:=ar) w 46 65 i _ underlying46 hi hz .i64 .i64 n n aa (fh _) (by rw[hb];omega) aa;rw[this,hs];simp[Value.cells]
def gq(out:Nat->ah)(res:Nat->V)(k j:Nat):Value :=
 if j<k*3 then(if j%3=0 then .string (out (j/3)) else if j%3=1 then .string (res (j/3)).2 else .bool (!(res (j/3)).1))
 else(if j%3=0 then .string aN else if j%3=1 then .string aN else .bool false)
theorem Uq{w:ae}{B t n k:Nat}{out:Nat->ah}{res:Nat->V}(h:w.rowIs B t (n*3) (gq out res k)):
  (((w.setCell ⟨B,k*3,none⟩ (.string (out k))).setCell ⟨B,k*3+1,none⟩ (.string (res k).2)).setCell ⟨B,k*3+2,none⟩ (.bool (!(res k).1))).rowIs B t (n*3) (gq out res (k+1)):=by
 refine(((h.set (k*3) _).set (k*3+1) _).set (k*3+2) _).congr fun j hj=>?_;by_cases e2:j=k*3+2
 ·subst e2;have h1:(k*3+2)%3=2:=aa;have h2:(k*3+2)/3=k:=aa;simp[gq,h1,h2,show k*3+2<(k+1)*3 by omega]
 ·by_cases e1:j=k*3+1
  ·subst e1;have h1:(k*3+1)%3=1:=aa;have h2:(k*3+1)/3=k:=aa;simp[gq,h1,h2,show k*3+1<(k+1)*3 by omega]
  ·by_cases e0:j=k*3
   ·subst e0;have h1:(k*3)%3=0:=aa;have h2:(k*3)/3=k:=aa;simp[gq,h1,h2,show k*3<(k+1)*3 by omega]
   ·rw[if_neg e2,if_neg e1,if_neg e0];by_cases e3:j<k*3
    ·simp only[gq,if_pos e3,if_pos (show j<(k+1)*3 by omega)]
    ·simp only[gq,if_neg e3,if_neg (show ¬j<(k+1)*3 by omega)]
structure oG(w:ae)(bn Lb Lo St Rb Nb n:Nat)(out:Nat->ah)(eD:Nat->Int)(ins:Nat->List (Bool×Nat))(cw:Nat->Nat)(res:Nat->V)(ku:Nat->Bool):Prop where
 b0:w.cell? ⟨bn,0,none⟩=some (.pointer (some ⟨Lb,Lo,none⟩))
 b2:w.cell? ⟨bn,2,none⟩=some (.slice (some ⟨Rb,0,none⟩) n n)
 b3:w.cell? ⟨bn,3,none⟩=some (.slice (some ⟨Nb,0,none⟩) n n)
 st:w.cell? ⟨Lb,Lo,none⟩=some (.slice (some ⟨St,0,none⟩) n n)
 steps:oE w St n out eD ins cw
 r2:∀s,s<n->w.cell? ⟨Rb,s*4+2,none⟩=some (.bool (res s).1)
 r3:∀s,s<n->w.cell? ⟨Rb,s*4+3,none⟩=some (.string (res s).2)
 ku:∀s,s<n->w.cell? ⟨Nb,s,none⟩=some (.bool (ku s))
 lbn:bn<w.heap.size
 lLb:Lb<w.heap.size
 lSt:St<w.heap.size
 lRb:Rb<w.heap.size
 lNb:Nb<w.heap.size
theorem H9(bn Lb Lo St Rb Nb n:Nat)(out:Nat->ah)(eD:Nat->Int)(ins:Nat->List (Bool×Nat))(cw:Nat->Nat)(res:Nat->V)(ku:Nat->Bool)(w:ae)(hn:n<=1000)(h:oG w bn Lb Lo St Rb Nb n out eD ins cw res ku):
  Calls ar 75 #[.pointer (some ⟨bn,0,none⟩)] w fun e w'=>e=.returned (.slice (some ⟨w.heap.size,0,none⟩) n n)/\Below w.heap.size w w'/\w.heap.size<w'.heap.size/\w'.rowIs w.heap.size 65 (n*3) (gq out res n):=by
 have LV:=fun w=>yi w n aa;obtain⟨b0,b2,b3,st,dW,r2,r3,rr,l1,l2,l3,l4,l5⟩:=h;have cA:∀(w':ae),Below w.heap.size w w'->∀b off,b<w.heap.size->w'.cell? ⟨b,off,none⟩=w.cell? ⟨b,off,none⟩:=fun w' hb b off hl=>(uM hb).1 _ _ hl;have a0:∀x,(w.alloc x).cell? ⟨bn,0,none⟩=some (.pointer (some ⟨Lb,Lo,none⟩)):=fun x=>by rw[cA _ ((Below.refl _ _).alloc (ag _) _) _ _ l1];exact b0
 have a1:∀x,(w.alloc x).cell? ⟨Lb,Lo,none⟩=some (.slice (some ⟨St,0,none⟩) n n):=fun x=>by rw[cA _ ((Below.refl _ _).alloc (ag _) _) _ _ l2];exact st
 go_enter func75,ntmps75;go_wp2;go_loopw [24] (fun i w'=>∃k:Nat,k<=n/\i=.int .i64 k/\Below w.heap.size w w'/\w.heap.size<w'.heap.size/\w'.rowIs w.heap.size 65 (n*3) (gq out res k)) (fun i _=>n-(intOf i).toNat)
 case atStart =>
  refine⟨0,aQ _,rfl,(Below.refl _ _).alloc (ag _) _,an,_,jR _ _,by simp[size_madeCells],fun j hj=>?_⟩;simp only[madeCells,Array.getElem?_map,Array.getElem?_range,hj,if_true,Option.map_some,gq,Nat.zero_mul,Nat.not_lt_zero,if_false];have hm:j%3=0\/j%3=1\/j%3=2:=aa;rcases hm with e|e|e<;>simp[e]
 case round =>
  obtain⟨k,hk,rfl,gv,hz,b6⟩:=hrel;by_cases bZ:k<n
  ·have c0:=(cA _ gv St (k*3) l3).trans (dW.out k bZ);have c1:=(cA _ gv St (k*3+1) l3).trans (dW.eD k bZ);have c2:=(cA _ gv St (k*3+2) l3).trans (dW.zJ k bZ);have c3:=(cA _ gv bn 2 l1).trans b2;have c4:=(cA _ gv Rb (k*4+2) l4).trans (r2 k bZ);have c5:=(cA _ gv Rb (k*4+3) l4).trans (r3 k bZ);have d0:wr.cell? ⟨w.heap.size,k*3,none⟩=some (.string aN):=by rw[b6.cell aa];simp[gq]
   have d1:wr.cell? ⟨w.heap.size,k*3+1,none⟩=some (.string aN):=by
    have h1:(k*3+1)%3=1:=aa;rw[b6.cell aa];simp[gq,h1,show ¬k*3+1<k*3 by omega]
   have d2:wr.cell? ⟨w.heap.size,k*3+2,none⟩=some (.bool false):=by
    have h1:(k*3+2)%3=2:=aa;rw[b6.cell aa];simp[gq,h1,show ¬k*3+2<k*3 by omega]
   have f0:=b6.frozen;have g1:bn<wr.heap.size:=aa;have g4:Rb<wr.heap.size:=aa;have p3:∀x y,((wr.alloc x).alloc y).cell? ⟨bn,2,none⟩=some (.slice (some ⟨Rb,0,none⟩) n n):=fun x y=>by rw[cA _ ((gv.alloc aa _).alloc eR _) _ _ l1];exact b2
   have q3:∀x,(wr.alloc x).cell? ⟨bn,2,none⟩=some (.slice (some ⟨Rb,0,none⟩) n n):=fun x=>by rw[cA _ (gv.alloc aa _) _ _ l1];exact b2
   have q4:∀x,(wr.alloc x).cell? ⟨Rb,k*4+2,none⟩=some (.bool (res k).1):=fun x=>by rw[cA _ (gv.alloc aa _) _ _ l4];exact r2 k bZ
   have q5:∀x,(wr.alloc x).cell? ⟨Rb,k*4+3,none⟩=some (.string (res k).2):=fun x=>by rw[cA _ (gv.alloc aa _) _ _ l4];exact r3 k bZ
   clear dW r2 r3 rr cA a0 a1;go_wp2;refine⟨⟨k+1,aa,by go_num,((((gv.setCell (ag _) _).setCell (ag _) _).setCell (ag _) _).alloc (by simp[World.setCell];omega) _).alloc (by simp[World.setCell];omega) _,by simp[World.setCell];omega,?_⟩,by simp[intOf];omega⟩;exact((Uq b6).alloc _).alloc _
  ·go_wp2;go_ret;have:k=n:=aa;subst this;exact⟨rfl,gv,hz,b6⟩
def qA(out:Nat->ah)(ku:Nat->Bool):Nat->List ah
 |0=>[]
 |k+1=>qA out ku k++(if ku k then[out k] else[])
theorem BN(out:Nat->ah)(ku:Nat->Bool):∀k,(qA out ku k).length<=k
 |0=>by simp[qA]
 |k+1=>by
  have:=BN out ku k;simp only[qA,List.length_append];split<;>simp<;>omega
theorem Ia(bn Lb Lo St Rb Nb n:Nat)(out:Nat->ah)(eD:Nat->Int)(ins:Nat->List (Bool×Nat))(cw:Nat->Nat)(res:Nat->V)(ku:Nat->Bool)(w:ae)(hn:n<=1000)(h:oG w bn Lb Lo St Rb Nb n out eD ins cw res ku):
  Calls ar 76 #[.pointer (some ⟨bn,0,none⟩)] w fun e w'=>∃v,e=.returned v/\Below w.heap.size w w'/\w.heap.size<=w'.heap.size/\w'.ownsRow w.heap.size 9 1 v (qA out ku n).length ((qA out ku n).map .string):=by
 obtain⟨b0,b2,b3,st,dW,r2,r3,rr,l1,l2,l3,l4,l5⟩:=h;have cA:∀(w':ae),Below w.heap.size w w'->∀b off,b<w.heap.size->w'.cell? ⟨b,off,none⟩=w.cell? ⟨b,off,none⟩:=fun w' hb b off hl=>(uM hb).1 _ _ hl;go_enter func76,ntmps76;clear cA;go_wp2;have cA:∀(w':ae),Below w.heap.size w w'->∀b off,b<w.heap.size->w'.cell? ⟨b,off,none⟩=w.cell? ⟨b,off,none⟩:=fun w' hb b off hl=>(uM hb).1 _ _ hl;go_loopw [3,14] (fun v i w'=>∃k:Nat,k<=n/\i=.int .i64 k/\Below w.heap.size w w'/\w.heap.size<=w'.heap.size/\w'.ownsRow w.heap.size 9 1 v (qA out ku k).length ((qA out ku k).map .string)) (fun v i _=>n-(intOf i).toNat)
 case atStart=>exact⟨0,aQ _,rfl,Below.refl _ _,ag _,by simp[qA],.inl ⟨rfl,rfl⟩⟩
 case round =>
  obtain⟨k,hk,rfl,gv,hz,b6⟩:=hrel;by_cases bZ:k<n
  ·have c0:=(cA _ gv St (k*3) l3).trans (dW.out k bZ);have c1:=(cA _ gv St (k*3+1) l3).trans (dW.eD k bZ);have c2:=(cA _ gv St (k*3+2) l3).trans (dW.zJ k bZ);have q3:∀x,(wr.alloc x).cell? ⟨bn,3,none⟩=some (.slice (some ⟨Nb,0,none⟩) n n):=fun x=>by rw[cA _ (gv.alloc aa _) _ _ l1];exact b3
   have q4:∀x,(wr.alloc x).cell? ⟨Nb,k,none⟩=some (.bool (ku k)):=fun x=>by rw[cA _ (gv.alloc aa _) _ _ l5];exact rr k bZ
   have g1:bn<wr.heap.size:=aa;have g5:Nb<wr.heap.size:=aa;have hl:=BN out ku k;have C5:qA out ku (k+1)=qA out ku k++(if ku k then[out k] else[]):=rfl;generalize qA out ku k=raw at *;generalize ja:out k=x at *;generalize Un:ku k=rk at *;clear dW r2 r3 rr cA;have e0:=oP b6 (.cells #[.string x,.int .i64 (eD k),.slice (some ⟨cw k,0,none⟩) (ins k).length (ins k).length] 220);cases rk
   ·go_wp2;refine⟨⟨k+1,aa,by go_num,gv.alloc aa _,eR,?_⟩,by simp[intOf];omega⟩;rw[C5];simpa using e0
   ·obtain⟨v',W',e1,e2,e3⟩:=pz ((wr.alloc (.cells #[.string x,.int .i64 (eD k),.slice (some ⟨cw k,0,none⟩) (ins k).length (ins k).length] 220)).alloc (.cells #[.string x] 9)) w.heap.size _ _ x (wr.heap.size+1) (oP e0 _) aa eR an;have vE:=Below.grown ((gv.alloc aa _).alloc eR _) e3 eR (yh b6);go_wp2_with (at_builtin;refine fM rfl _ _ 40 rfl rfl rfl e1 ?_);exact⟨⟨k+1,aa,by go_num,vE,vE.size,by rw[C5];exact e2⟩,by simp[intOf];omega⟩
  ·go_wp2;go_ret;have:k=n:=aa;subst this;exact⟨_,rfl,gv,hz,b6⟩
end
theorem Oa:(ar.info? 220).map (fun i=>(i.zero,i.size,i.bytes))=some (some (.agg #[.string aN,.int .i64 0,.slice none 0 0]),3,48):=af
theorem BO(w:ae)(n:Nat)(hn:n<=100000):(Instr.makeSlice 143 (.int .i64 (n:Int)) (.int .i64 (n:Int))).run ar w=.ok (.slice (some ⟨w.heap.size,0,none⟩) n n) (w.alloc (.cells (madeCells #[.string aN,.int .i64 0,.slice none 0 0] (n*3)) 220)):=by
 obtain⟨i,hi,hz⟩:=Option.map_eq_some_iff.1 Oa;simp only[Prod.mk.injEq] at hz;obtain⟨hz,hs,hb⟩:=hz;have:=run_make (P:=ar) w 143 220 i _ underlying143 hi hz .i64 .i64 n n aa (fh _) (by rw[hb];omega) aa;rw[this,hs];simp[Value.cells]
def fN(out:Nat->ah)(eD:Nat->Int)(ins:Nat->List (Bool×Nat))(cw:Nat->Nat)(k j:Nat):Value :=
 if j<k*3 then(if j%3=0 then .string (out (j/3)) else if j%3=1 then .int .i64 (eD (j/3)) else .slice (some ⟨cw (j/3),0,none⟩) (ins (j/3)).length (ins (j/3)).length)
 else(if j%3=0 then .string aN else if j%3=1 then .int .i64 0 else .slice none 0 0)
theorem Oc(w:ae)(n:Nat)(out:Nat->ah)(eD:Nat->Int)(ins:Nat->List (Bool×Nat))(cw:Nat->Nat)(St:Nat)(h:w.heap[St]?=some (.cells (madeCells #[.string aN,.int .i64 0,.slice none 0 0] (n*3)) 220)):w.rowIs St 220 (n*3) (fN out eD ins cw 0):=by
 refine⟨_,h,by simp[size_madeCells],fun j hj=>?_⟩;simp only[madeCells,Array.getElem?_map,Array.getElem?_range,hj,if_true,Option.map_some,fN,Nat.zero_mul,Nat.not_lt_zero,if_false];have hm:j%3=0\/j%3=1\/j%3=2:=aa;rcases hm with e|e|e<;>simp[e]
theorem Q9{w:ae}{St n k:Nat}{out:Nat->ah}{eD:Nat->Int}{ins:Nat->List (Bool×Nat)}{cw:Nat->Nat}(h:w.rowIs St 220 (n*3) (fN out eD ins cw k)):
  (((w.setCell ⟨St,k*3,none⟩ (.string (out k))).setCell ⟨St,k*3+1,none⟩ (.int .i64 (eD k))).setCell ⟨St,k*3+2,none⟩ (.slice (some ⟨cw k,0,none⟩) (ins k).length (ins k).length)).rowIs St 220 (n*3) (fN out eD ins cw (k+1)):=by
 refine(((h.set (k*3) _).set (k*3+1) _).set (k*3+2) _).congr fun j hj=>?_;by_cases e2:j=k*3+2
 ·subst e2;have h1:(k*3+2)%3=2:=aa;have h2:(k*3+2)/3=k:=aa;simp[fN,h1,h2,show k*3+2<(k+1)*3 by omega]
 ·by_cases e1:j=k*3+1
  ·subst e1;have h1:(k*3+1)%3=1:=aa;have h2:(k*3+1)/3=k:=aa;simp[fN,h1,h2,show k*3+1<(k+1)*3 by omega]
  ·by_cases e0:j=k*3
   ·subst e0;have h1:(k*3)%3=0:=aa;have h2:(k*3)/3=k:=aa;simp[fN,h1,h2,show k*3<(k+1)*3 by omega]
   ·rw[if_neg e2,if_neg e1,if_neg e0];by_cases e3:j<k*3
    ·simp only[fN,if_pos e3,if_pos (show j<(k+1)*3 by omega)]
    ·simp only[fN,if_neg e3,if_neg (show ¬j<(k+1)*3 by omega)]
theorem Od{w:ae}{b t n:Nat}{l:List (Bool×Nat)}(hn:n=l.length)(h:w.rowIs b t (n*2) (jZ l)):rS w b l:=fun j hj=>by
 have h0:(j*2)%2=0:=aa;have h1:(j*2+1)%2=1:=aa;have d0:(j*2)/2=j:=aa;have d1:(j*2+1)/2=j:=aa;refine⟨?_,?_⟩
 ·rw[h.cell aa];simp only[jZ,h0,d0];simp[hj]
 ·rw[h.cell aa];simp only[jZ,h1,d1];simp[hj]
theorem Oe{w:ae}{St n:Nat}{out:Nat->ah}{eD:Nat->Int}{ins:Nat->List (Bool×Nat)}{cw:Nat->Nat}(h:w.rowIs St 220 (n*3) (fN out eD ins cw n))(hi:∀s,s<n->rS w (cw s) (ins s))(hl:∀s,s<n->cw s<w.heap.size)(hs:∀s,s<n->(ins s).length<=100000):oE w St n out eD ins cw where
 out s hs:=by
  have h1:(s*3)%3=0:=aa;have h2:(s*3)/3=s:=aa;rw[h.cell aa];simp[fN,h1,h2,show s*3<n*3 by omega]
 eD s hs:=by
  have h1:(s*3+1)%3=1:=aa;have h2:(s*3+1)/3=s:=aa;rw[h.cell aa];simp[fN,h1,h2,show s*3+1<n*3 by omega]
 zJ s hs:=by
  have h1:(s*3+2)%3=2:=aa;have h2:(s*3+2)/3=s:=aa;rw[h.cell aa];simp[fN,h1,h2,show s*3+2<n*3 by omega]
 Bw:=hi
 lt:=hl
 short:=hs
end Go.Proofs.Kz
namespace Go.Ren
open Go.Conc Go.ConcN
section
variable {w w':ae} {b:Nat} {t:TypeId} {x y z u v x' y' z' u' v':Value}
theorem BP(h:w.heap[b]?=some (.cells #[x] t)):w.cell? ⟨b,0,none⟩=some x/\w.frozen? ⟨b,0,none⟩=false:=by simp[World.cell?,World.frozen?,h]
theorem bT(h:w.heap[b]?=some (.cells #[x,y] t)):w.cell? ⟨b,0,none⟩=some x/\w.cell? ⟨b,1,none⟩=some y/\w.frozen? ⟨b,0,none⟩=false/\w.frozen? ⟨b,1,none⟩=false:=by simp[World.cell?,World.frozen?,h]
theorem eE(h:w.heap[b]?=some (.cells #[x,y,z] t)):w.cell? ⟨b,0,none⟩=some x/\w.cell? ⟨b,1,none⟩=some y/\w.cell? ⟨b,2,none⟩=some z/\w.frozen? ⟨b,0,none⟩=false/\w.frozen? ⟨b,1,none⟩=false/\w.frozen? ⟨b,2,none⟩=false:=by simp[World.cell?,World.frozen?,h]
theorem nG(h:w.heap[b]?=some (.cells #[x,y] t)):((w.setCell ⟨b,0,none⟩ x').setCell ⟨b,1,none⟩ y').heap[b]?=some (.cells #[x',y'] t):=by simp[World.setCell,Array.getElem?_modify,h]
theorem KL(h:w.heap[b]?=some (.cells #[x,y,z] t)):(((w.setCell ⟨b,0,none⟩ x').setCell ⟨b,1,none⟩ y').setCell ⟨b,2,none⟩ z').heap[b]?=some (.cells #[x',y',z'] t):=by simp[World.setCell,Array.getElem?_modify,h]
def cN(b:Nat)(w w':ae):Prop:=w'.heap.size=w.heap.size/\∀c,c≠b->w'.heap[c]?=w.heap[c]?
theorem cN.refl:cN b w w:=⟨rfl,fun _ _=>rfl⟩
theorem cN.set{a:Addr}(h:cN b w w')(ha:a.block=b):cN b w (w'.setCell a v):=by
 refine⟨by simp[World.setCell,h.1],fun c hc=>?_⟩;rw[<- h.2 c hc];obtain⟨ab,ao,az⟩:=a;simp only at ha;subst ha;simp[World.setCell,Array.getElem?_modify];exact fun e=>absurd e.symm hc
theorem cN.at(h:cN b w w')(off:Nat)(v:Value):cN b w (w'.setCell ⟨b,off,none⟩ v):=h.set rfl
theorem fW(w:ae)(b i:Nat)(x:Value):cN b w (w.setCell ⟨b,i,none⟩ x):=cN.refl.at i x
theorem iB(w:ae)(b i j:Nat)(x y:Value):cN b w ((w.setCell ⟨b,i,none⟩ x).setCell ⟨b,j,none⟩ y):=(fW w b i x).at j y
theorem uR(w:ae)(b i j k:Nat)(x y z:Value):cN b w (((w.setCell ⟨b,i,none⟩ x).setCell ⟨b,j,none⟩ y).setCell ⟨b,k,none⟩ z):=(iB w b i j x y).at k z
end
section
variable {P:Program} {L:Nat->Bool} {o:aM} {w w' wl aI:ae} {v:Value}
theorem kS.only(h:kS P L o w w' aI v)(ha:im o w wl){A:Nat}(hA:o A)(hs:cN A wl aI):cN A w w'/\w'.heap[A]?=aI.heap[A]?/\grow o w w'=o:=by
 obtain⟨h1,h2,h3,h4⟩:=h.store ha hA hs.1 hs.2;exact⟨⟨h1,h2⟩,h3,h4⟩
end
end Go.Ren
namespace Go.Proofs.Kz
open Go.Proofs.Tryz
open Go.Proofs.Tryz renaming prog → ar
open _root_.ByteArray renaming empty → aN
open Go.Ren Go.Conc Go.Proofs Go.ConcN
section
variable {Fin:bH} {o:aM} {w:ae}
theorem tQ.view{rs:List aL}{v:Value}{o':aM}{w':ae}(S:tQ o w rs v o' w')(hF:bE ar L0 o w)(WO:∃b,o b):∃g p cap b5,v=.slice p b5.length cap/\(b5≠[]->p=some ⟨g,0,none⟩/\w.heap.size<=g)/\o' g/\dX w' g b5/\b5.Perm rs/\(∀i j (hi:i<b5.length) (hj:j<b5.length),i<j->¬qx b5[j] b5[i]<0)/\Cl ar L0 o' (.slice p b5.length cap):=by
 rcases S.row with⟨rfl,rfl⟩|⟨g,cap,b5,h1,h2,h3,h4,h5,h6,h7⟩
 ·obtain⟨b,hb⟩:=WO;exact⟨b,none,0,[],rfl,fun h=>absurd rfl h,by rw[S.own];exact .inl hb,fun i hi=>by simp at hi,List.Perm.refl _,fun i j hi=>by simp at hi,gS⟩
 ·have hg:o' g:=by rw[S.own];exact .inr ⟨h3,h4⟩
  exact⟨g,_,cap,b5,by rw[h1,h5.length_eq],fun _=>⟨rfl,h3⟩,hg,h7,h5,h6,di hg⟩
def qC(rs:List aL)(i:Nat):ah:=((rs[i]?).map (·.out)).getD aN
def yj(rs:List aL)(i:Nat):Int:=((rs[i]?).map (·.eD)).getD 0
def Fh(NM:aL->List ah)(rs:List aL)(i:Nat):List ah:=((rs[i]?).map NM).getD []
def nbF(NB:aL->Nat)(rs:List aL)(i:Nat):Nat:=((rs[i]?).map NB).getD 0
def iq(NM:aL->List ah)(rs:List aL):List ah:=ju (ll (rs.map (·.out)) (Fh NM rs) rs.length)
def lH(NM:aL->List ah)(rs:List aL)(i:Nat):List (Bool×Nat):=(Fh NM rs i).map (pS (rs.map (·.out)) (iq NM rs))
theorem xa(raw:List ah):(ju raw).length<=raw.length:=by
 unfold ju;rw[bG];refine aR (BM _) ?_;simp[jD]
structure uS(lo:Nat)(NM:aL->List ah)(b5:List aL)(St Or:Nat)(cw:Nat->Nat)(sv v:Value)(w':ae):Prop where
 val:v=.agg #[.slice (some ⟨St,0,none⟩) b5.length b5.length,.slice (some ⟨Or,0,none⟩) (dK (lH NM b5) b5.length b5.length).length b5.length,sv]
 steps:oE w' St b5.length (qC b5) (yj b5) (lH NM b5) cw
 ord:kI w' Or b5.length (dK (lH NM b5) b5.length b5.length)
 src:ga lo (iq NM b5) sv w'
 st:lo<=St/\St<w'.heap.size
 or:lo<=Or/\Or<w'.heap.size
 ib:∀s,s<b5.length->lo<=cw s
theorem zb{w w':ae}{b:Nat}{l:List (Bool×Nat)}(h:rS w b l)(e:w'.heap[b]?=w.heap[b]?):rS w' b l:=fun j hj=>⟨(cell_of e).trans (h j hj).1,(cell_of e).trans (h j hj).2⟩
theorem C7{out:Nat->ah}{eD:Nat->Int}{ins:Nat->List (Bool×Nat)}{cw xc:Nat->Nat}{k:Nat}(h:∀s,s<k->cw s=xc s)(j:Nat):fN out eD ins cw k j=fN out eD ins xc k j:=by
 unfold fN;by_cases hj:j<k*3
 ·rw[if_pos hj,if_pos hj,h (j/3) aa]
 ·rw[if_neg hj,if_neg hj]
theorem Fi{o:aM}{w w1 w2:ae}(h:w1.heap.size=w2.heap.size):grow o w w1=grow o w w2:=by unfold grow;rw[h]
theorem kJ{lo Ra:Nat}{ts:List ah}{v:Value}{w w':ae}(h:ga lo ts v w)(uL:Ra<=lo)(hz:w.heap.size<=w'.heap.size)(e:∀b,lo<=b->b<w.heap.size->w'.heap[b]?=w.heap[b]?):ga Ra ts v w':=by
 rcases h with h|⟨g,cap,h1,h2,h3,h4,h5⟩
 ·exact .inl h
 ·exact .inr ⟨g,cap,h1,h2,aa,aa,cI h5 (e g h3 h4)⟩
structure afu(o6:aM)(w6:ae)(R St ob n:Nat)(q:Option Addr)(cap:Nat)(sv:Value)(out:Nat->ah)(eD:Nat->Int)(ins:Nat->List (Bool×Nat))(k:Nat)(a:Act)(o':aM)(w':ae):Prop where
 size:a.tmps.size=46
 df:a.defers=[]
 t2:a.eval (.tmp 2)=.pointer (some ⟨R,0,none⟩)
 t4:a.eval (.tmp 4)=.slice (some ⟨ob,0,none⟩) n n
 t5:a.eval (.tmp 5)=sv
 t6:a.eval (.tmp 6)=.slice (some ⟨St,0,none⟩) n n
 t20:a.eval (.tmp 20)=.slice q n cap
 t21:a.eval (.tmp 21)=.int .i64 n
 t22:a.eval (.tmp 22)=.int .i64 k
 own:o'=grow o6 w6 w'
 ay:bE ar L0 o' w'
 gO:w6.heap.size<=w'.heap.size
 old:∀b,b<w6.heap.size->b≠St->w'.heap[b]?=w6.heap[b]?
 row:∃cw:Nat->Nat,w'.rowIs St 220 (n*3) (fN out eD ins cw k)/\∀s,s<k->rS w' (cw s) (ins s)/\w6.heap.size<=cw s/\cw s<w'.heap.size
theorem Fj(hF:bE ar L0 o w)(Ru c:Nat)(p:Option Addr)(rs:List aL)(hn:rs.length<=8)(hp:rs≠[]->p=some ⟨Ru,0,none⟩)(xz:o Ru)(xU:dX w Ru rs)(eY:∀r∈rs,Cl ar L0 o (.slice r.sa r.sl r.sc))(hc:Cl ar L0 o (.slice p rs.length c))(NM:aL->List ah)(NB:aL->Nat)(xV:∀r∈rs,r.sl=(NM r).length/\(NM r≠[]->r.sa=some ⟨NB r,0,none⟩/\o (NB r))/\dP w (NB r) 0 (NM r)/\(NM r).length<=4):
  bp ar (XB ar Fin 0) 112 #[.slice p rs.length c] o w fun v o' w'=>fw o w v o' w'/\∃b5 St Or cw sv,b5.Perm rs/\(∀i j (hi:i<b5.length) (hj:j<b5.length),i<j->¬qx b5[j] b5[i]<0)/\uS w.heap.size NM b5 St Or cw sv v w':=by
 have W:=bJ (P:=ar) (Fin:=Fin) (d:=0);refine dJ W func112 ai ?_;refine aA ?_;refine cq aX hF rfl ai ai kp rfl (R:=fun wl v aI=>v=.pointer (some ⟨wl.heap.size,0,none⟩)/\aI=wl.alloc (Obj.cells #[.slice none 0 0,.slice none 0 0,.slice none 0 0] 145)) (fun wl aE=>⟨_,_,fa,rfl,rfl⟩) fun wl v1 aI w1 aE hR ba=>?_;obtain⟨rfl,hR⟩:=hR;obtain⟨z1,k1,k2⟩:=ba.alloc hF aE hR;have mw:=ba.ay;rw[aE.size];clear hR ba aE wl aI;refine aA ?_;refine aF W rfl ai rfl func145 af rfl aC rfl ((Q8 mw p rs.length c (hc.up iK)).mono fun v2 o2 w2 hq=>?_);obtain⟨N2,rfl,z2,kb⟩:=hq;walk_nrm;have u2:∀b,o b->o2 b:=fun b hb=>by rw[N2.own];exact .inl (.inl hb)
 have abu:∀b,b<w.heap.size->w2.heap[b]?=w.heap[b]?:=fun b hb=>(N2.old b aa).trans (k1 b hb);have QL:o2 w1.heap.size:=by rw[N2.own];exact .inr ⟨ag _,z2⟩
 refine aF W rfl ai rfl func144 af rfl aC rfl ((E9 N2.ay w1.heap.size Ru c p rs hn QL (by simp[World.cell?,kb]) hp (u2 _ xz) (gp xU (abu Ru (hF.lt xz))) (fun r hr=>(eY r hr).up u2)).mono fun v3 o3 w3 S=>?_);refine aA ?_;obtain⟨g,q,cap,b5,rfl,hq,SU,C2,hpm,JY,hcq⟩:=S.view N2.ay ⟨_,QL⟩;have hl':b5.length<=8:=by rw[hpm.length_eq];exact hn
 refine aF W rfl ai rfl func147 af rfl aC rfl ((Q6 S.ay g cap q b5 aa (fun h=>⟨(hq h).1,SU⟩) C2 hcq).mono fun v4 o4 w4 hq4=>?_);obtain⟨N4,rfl,z4,t4⟩:=hq4;refine aA ?_;have zz2:=N2.size;have zz3:=S.size;have zz4:=N4.size;have u4:∀b,o2 b->o4 b:=fun b hb=>by rw[N4.own,S.own];exact .inl (.inl hb)
 have u34:∀b,o3 b->o4 b:=fun b hb=>by rw[N4.own];exact .inl hb
 have QU:∀b,b<w.heap.size->w4.heap[b]?=w.heap[b]?:=fun b hb=>(N4.old b aa).trans ((S.old b aa).trans (abu b hb));have ho4:o4 w3.heap.size:=by rw[N4.own];exact .inr ⟨ag _,z4⟩
 have pd:∀i (h:i<b5.length),b5[i]∈rs:=fun i h=>hpm.subset (aD h);obtain⟨nm,Rc⟩:∃nm,Fh NM b5=nm:=⟨_,rfl⟩;obtain⟨nb,afw⟩:∃nb,nbF NB b5=nb:=⟨_,rfl⟩;have enm:∀i (h:i<b5.length),nm i=NM b5[i]:=fun i h=>by simp[<- Rc,Fh,h]
 have enb:∀i (h:i<b5.length),nb i=NB b5[i]:=fun i h=>by simp[<- afw,nbF,h]
 have Ur:wY w4 g b5 nm nb:=by
  refine⟨gp C2 (N4.old g (S.ay.lt SU)),fun i h=>?_,fun i h cV=>?_,fun i h=>?_,fun i h=>?_⟩
  ·rw[enm i h];exact(xV _ (pd i h)).1
  ·rw[enm i h] at cV;rw[enb i h];have:=(xV _ (pd i h)).2.1 cV;exact⟨this.1,by have:=hF.lt this.2;omega⟩
  ·rw[enm i h,enb i h];intro k hk;have h3:=(xV _ (pd i h)).2.1 (fun e=>by rw[e] at hk;simp at hk);exact cI (xV _ (pd i h)).2.2.1 (QU _ (hF.lt h3.2)) k hk
  ·rw[enm i h];exact(xV _ (pd i h)).2.2.2
 have KJ:∀i,i<b5.length->nm i≠[]->o4 (nb i):=fun i h cV=>by
  rw[enm i h] at cV;rw[enb i h];exact u4 _ (u2 _ ((xV _ (pd i h)).2.1 cV).2)
 have abw:=H7 (Fin:=Fin) N4.ay g cap w3.heap.size b5.length q b5 nm nb (b5.map (·.out)) aa eR (fun h=>⟨(hq h).1,u34 _ SU⟩) ho4 Ur KJ t4 (hcq.up u34);rw[bG] at abw;refine aF W rfl ai rfl func148 af rfl aC rfl (abw.mono fun v5 o5 w5 hq5=>?_);obtain⟨N5,t5⟩:=hq5;refine aA ?_;refine cq aX N5.ay rfl ai ai ?_ rfl (R:=fun wl v aI=>v=.slice (some ⟨wl.heap.size,0,none⟩) b5.length b5.length/\aI=wl.alloc (.cells (madeCells #[.string aN,.int .i64 0,.slice none 0 0] (b5.length*3)) 220)) (fun wl aE=>⟨_,_,by simp[go_sem,BO wl b5.length aa],rfl,rfl⟩) fun wl v6 aI w6 aE hR ba=>?_
 ·exact cj bN
 obtain⟨rfl,hR⟩:=hR;obtain⟨z6,k6,Us⟩:=ba.alloc N5.ay aE hR;have C3:=ba.ay;rw[aE.size];clear hR ba aE wl aI;refine aA ?_;have al7:=C3;have ho6:grow o5 w5 w6 w5.heap.size:=.inr ⟨ag _,aa⟩;obtain⟨out,V3⟩:∃f,qC b5=f:=⟨_,rfl⟩;obtain⟨eD,V4⟩:∃f,yj b5=f:=⟨_,rfl⟩;obtain⟨ins,Ic⟩:∃f,lH NM b5=f:=⟨_,rfl⟩;rw[<- Rc,show ju (ll (b5.map (·.out)) (Fh NM b5) b5.length)=iq NM b5 from rfl] at t5;have abx:(iq NM b5).length<=100000:=by
  have h1:=xa (ll (b5.map (·.out)) (Fh NM b5) b5.length);have h2:=py (b5.map (·.out)) nm b5.length Ur.four b5.length (ag _);rw[<- Rc] at h2;have:(iq NM b5).length<=(ll (b5.map (·.out)) (Fh NM b5) b5.length).length:=h1;omega
 obtain⟨SR,Yd⟩:∃f,iq NM b5=f:=⟨_,rfl⟩;rw[Yd] at t5 abx;have hv5:∃sp sb sc,v5=.slice sp SR.length sc/\(SR≠[]->sp=some ⟨sb,0,none⟩/\o5 sb)/\dP w5 sb 0 SR:=by
  rcases t5 with⟨h1,h2⟩|⟨g2,c2,h1,h2,h3,h4,h5⟩
  ·exact⟨none,0,0,by rw[h1,h2];rfl,fun h=>absurd h2 h,fun i hi=>by rw[h2] at hi;simp at hi⟩
  ·exact⟨_,g2,c2,h1,fun _=>⟨rfl,by rw[N5.own];exact .inr ⟨h3,h4⟩⟩,h5⟩
 obtain⟨sp,sb,sc,rfl,xB,aby⟩:=hv5;refine nu W (fun m a o' w'=>∃k,m+k=b5.length/\afu (grow o5 w5 w6) w6 w.heap.size w5.heap.size w3.heap.size b5.length q cap (.slice sp SR.length sc) out eD ins k a o' w') (N:=b5.length) ⟨0,an,?_⟩ ?_
 ·refine⟨rfl,rfl,aC,aC,aC,aC,aC,aC,aC,(bS _ _).symm,C3,ag _,fun _ _ _=>rfl,fun _=>0,Oc _ _ _ _ _ _ _ Us,fun s hs=>aa⟩
 have hgw:g<w5.heap.size:=by have:=S.ay.lt SU;have:=N5.size;omega
 have u5:∀b,o4 b->o5 b:=fun b hb=>by rw[N5.own];exact .inl hb
 have zz5:=N5.size;rintro m a o1 w7 ⟨k,LV,ft,pF,i2,i4,i5,i6,i20,i21,i22,rfl,Ie,V5,abz,cw,abA,KM⟩;obtain⟨tm,df⟩:=a;simp only at ft pF;subst pF;obtain⟨gs,rfl⟩:=fA ft;clear ft;simp only[List.range,List.range.loop,List.map_cons,List.map_nil] at i2 i4 i5 i6 i20 i21 i22 |-;simp[Act.eval] at i2 i4 i5 i6 i20 i21 i22;simp only[i2,i4,i5,i6,i20,i21,i22];clear i2 i4 i5 i6 i20 i21 i22;have u7:∀b,o5 b->grow (grow o5 w5 w6) w6 w7 b:=fun b hb=>.inl (.inl hb);have Re:∀b,b<w5.heap.size->w7.heap[b]?=w5.heap[b]?:=fun b hb=>(abz b aa aa).trans (k6 b hb);have hr7:dX w7 g b5:=gp Ur.at_ ((Re g hgw).trans (N5.old g (by have:=S.ay.lt SU;omega)));have Ut:grow (grow o5 w5 w6) w6 w7 g:=u7 _ (u5 _ (u34 _ SU));generalize XP:grow (grow o5 w5 w6) w6 w7=o7 at *;rcases aZ m with hm|hm
 ·have hk:k=b5.length:=aa;subst hk;have abB:o7 w5.heap.size:=by rw[<- XP];exact .inl ho6
  have hio:∀s,s<b5.length->o7 (cw s):=fun s hs=>by rw[<- XP];exact .inr ⟨(KM s hs).2.1,(KM s hs).2.2⟩
  have abC:oE w7 w5.heap.size b5.length out eD ins cw:=Oe abA (fun s hs=>(KM s hs).1) (fun s hs=>(KM s hs).2.2) (fun s hs=>by
   have h4:=Ur.four s hs;rw[<- Ic];simp only[lH,List.length_map,Rc];omega)
  have Jh:grow o w w1 w.heap.size:=.inr ⟨ag _,aa⟩;have hR2:o2 w.heap.size:=by rw[N2.own];exact .inl Jh
  have Of:o7 w.heap.size:=u7 _ (u5 _ (u4 _ hR2));have kR7:w7.heap[w.heap.size]?=some (Obj.cells #[.slice none 0 0,.slice none 0 0,.slice none 0 0] 145):=by
   rw[Re _ aa,N5.old _ aa,N4.old _ aa,S.old _ aa,N2.old _ aa];exact k2
  refine aA ?_;refine aF W rfl ai rfl func150 af rfl aC rfl ((N9 Ie w5.heap.size b5.length b5.length out eD ins cw aa abB abC hio).mono fun v8 o8 w8 hq8=>?_);obtain⟨N8,rfl,z8,abp⟩:=hq8;refine aA ?_;have u8:∀b,o7 b->o8 b:=fun b hb=>by rw[N8.own];exact .inl hb
  have hOr:o8 w7.heap.size:=by rw[N8.own];exact .inr ⟨ag _,z8⟩
  have kR8:=(N8.old w.heap.size (Ie.lt Of)).trans kR7;generalize hol:(dK ins b5.length b5.length).length=ol;have Ue:Cl ar L0 o8 (.agg #[.slice (some ⟨w5.heap.size,0,none⟩) b5.length b5.length,.slice (some ⟨w7.heap.size,0,none⟩) ol b5.length,.slice sp SR.length sc]):=cJ (vs:=[_,_,_]) (fun x hx=>by
   simp at hx;rcases hx with rfl|rfl|rfl
   ·exact di (u8 _ abB)
   ·exact di hOr
   ·exact N5.cl.up fun b hb=>u8 _ (u7 _ hb))
  refine bD aX N8.ay rfl ai ai ?_ rfl (R:=fun wl aI=>aI=((wl.setCell ⟨w.heap.size,0,none⟩ (.slice (some ⟨w5.heap.size,0,none⟩) b5.length b5.length)).setCell ⟨w.heap.size,1,none⟩ (.slice (some ⟨w7.heap.size,0,none⟩) ol b5.length)).setCell ⟨w.heap.size,2,none⟩ (.slice sp SR.length sc)) (fun wl aE=>⟨_,?_,rfl⟩) fun wl aI w9 aE hR ba=>?_
  ·refine dU ?_ ?_
   ·exact aH (u8 _ Of)
   ·exact Ue
  ·obtain⟨e0,e1,e2,f0,f1,f2⟩:=eE ((aE.heap _ (u8 _ Of)).trans kR8);simp[go_sem,e0,e1,e2,f0,f1,f2]
  have hO:cN w.heap.size wl aI:=by rw[hR];exact uR _ _ _ _ _ _ _ _
  obtain⟨kK,kr,e9⟩:=ba.only aE (u8 _ Of) hO;rw[hR,KL ((aE.heap _ (u8 _ Of)).trans kR8)] at kr;have gw:=ba.ay;rw[e9] at gw |-;clear hR ba aE hO wl aI kR8 e9;refine aA ?_;have c9:∀n,(w9.at n).cell? ⟨w.heap.size,0,none⟩=some (.slice (some ⟨w5.heap.size,0,none⟩) b5.length b5.length)/\(w9.at n).cell? ⟨w.heap.size,1,none⟩=some (.slice (some ⟨w7.heap.size,0,none⟩) ol b5.length)/\(w9.at n).cell? ⟨w.heap.size,2,none⟩=some (.slice sp SR.length sc):=fun n=>⟨(eE kr).1,(eE kr).2.1,(eE kr).2.2.1⟩;have zz8:=N8.size;have z9:=kK.1;refine⟨.inr trivial,trivial,.agg #[.slice (some ⟨w5.heap.size,0,none⟩) b5.length b5.length,.slice (some ⟨w7.heap.size,0,none⟩) ol b5.length,.slice sp SR.length sc],p7 (fun n=>?_) (fun n e he=>?_),⟨?_,gw,aa,fun b hb=>?_,Ue⟩,b5,w5.heap.size,w7.heap.size,cw,.slice sp SR.length sc,hpm,JY,?_⟩
  ·obtain⟨c0,c1,c2⟩:=c9 n;simp[results,results112,go_sem,c0,c1,c2]
  ·obtain⟨c0,c1,c2⟩:=c9 n;simp[results,results112,go_sem,c0,c1,c2] at he;rcases he with rfl|rfl|rfl;all_goals exact⟨_,_,_,rfl,u8 _ Of⟩
  ·rw[N8.own,<- XP,grow_grow V5 rfl zz8,grow_grow (w:=w5) aa rfl aa,N5.own,grow_grow zz5 rfl aa,N4.own,grow_grow zz4 rfl aa,S.own,grow_grow zz3 rfl aa,N2.own,grow_grow zz2 rfl aa,grow_grow (w:=w) aa rfl aa];exact Fi z9.symm
  ·rw[kK.2 b aa,N8.old b aa,Re b aa,N5.old b aa];exact QU b hb
  ·have Ye:∀b,b<w7.heap.size->b≠w.heap.size->w9.heap[b]?=w7.heap[b]?:=fun b hb cV=>(kK.2 b cV).trans (N8.old b hb);refine⟨by rw[Ic,hol],?_,?_,?_,⟨aa,aa⟩,⟨aa,aa⟩,fun s hs=>by have:=(KM s hs).2.1;omega⟩
   ·rw[V3,V4,Ic];exact iW abC (Ye _ aa aa) (fun s hs=>by obtain⟨-,h1,h2⟩:=KM s hs;exact Ye _ h2 aa) aa
   ·rw[Ic];exact World.rowIs.of_block abp (kK.2 _ aa)
   ·rw[Yd];exact kJ t5 aa aa fun b h1 h2=>(Ye b aa aa).trans (Re b h2)
 ·have hk:k<b5.length:=aa;have Yf:(k:Int)<(b5.length:Int):=aa;obtain⟨rfl,QV⟩:=hq (fun e=>by rw[e] at hk;simp at hk);refine aA ?_;obtain⟨c0,c1,c2⟩:=hr7 k hk;generalize uG:b5[k].out=ro at c0;generalize Y4:b5[k].eD=rr at c1;generalize Um:b5[k].sa=ra at c2;generalize VW:b5[k].sl=rl at c2;generalize DH:b5[k].sc=rc at c2;refine aP aX Ie rfl ai ai ?_ rfl (v:=.agg #[.string ro,.int .i64 rr,.slice ra rl rc]) (fun wl aE=>?_) fun Ui=>?_
  ·exact cj (aH Ut)
  ·simp[go_sem,(aE.cell Ut).trans c0,(aE.cell Ut).trans c1,(aE.cell Ut).trans c2]
  refine aA ?_;refine cq aX Ie rfl ai ai kp rfl (R:=fun wl v aI=>v=.pointer (some ⟨wl.heap.size,0,none⟩)/\aI=wl.alloc (Obj.cells #[.string aN,.int .i64 0,.slice none 0 0] 42)) (fun wl aE=>⟨_,_,by simp[go_sem];rfl,rfl,rfl⟩) fun wl v8 aI w8 aE hR ba=>?_;obtain⟨rfl,hR⟩:=hR;obtain⟨z8,k8,Zt⟩:=ba.alloc Ie aE hR;have C8:=ba.ay;rw[aE.size];clear hR ba aE wl aI;refine aA ?_;have KN:grow o7 w7 w8 w7.heap.size:=.inr ⟨ag _,aa⟩;refine bD aX C8 rfl ai ai ?_ rfl (R:=fun wl aI=>aI=((wl.setCell ⟨w7.heap.size,0,none⟩ (.string ro)).setCell ⟨w7.heap.size,1,none⟩ (.int .i64 rr)).setCell ⟨w7.heap.size,2,none⟩ (.slice ra rl rc)) (fun wl aE=>⟨_,?_,rfl⟩) fun wl aI w9 aE hR ba=>?_
  ·refine dU ?_ ?_
   ·exact aH KN
   ·exact Ui.up iK
  ·obtain⟨e0,e1,e2,f0,f1,f2⟩:=eE ((aE.heap _ KN).trans Zt);simp[go_sem,e0,e1,e2,f0,f1,f2]
  have hO:cN w7.heap.size wl aI:=by rw[hR];exact uR _ _ _ _ _ _ _ _
  obtain⟨kK,kr,e9⟩:=ba.only aE KN hO;rw[hR,KL ((aE.heap _ KN).trans Zt)] at kr;have gw:=ba.ay;rw[e9] at gw |-;clear hR ba aE hO wl aI Zt e9;have Uu:∀b,b<w7.heap.size->w9.heap[b]?=w7.heap[b]?:=fun b hb=>(kK.2 b aa).trans (k8 b hb);have z9:w9.heap.size=w7.heap.size+1:=by rw[kK.1,z8]
  have e89:grow o7 w7 w8=grow o7 w7 w9:=by unfold grow;rw[kK.1]
  rw[e89] at gw KN |-;clear kK k8 z8 C8 e89;clear w8;walk_nrm;refine sR W ?_;simp only[gN,cZ,if_true,if_false,reduceIte,Nat.reduceEqDiff];have Fl:ins k=(nm k).map (pS (b5.map (·.out)) SR):=by rw[<- Ic,<- Rc,<- Yd];rfl
  have afz:out k=ro:=by rw[<- V3,<- uG];simp[qC,hk]
  have afA:eD k=rr:=by rw[<- V4,<- Y4];simp[yj,hk]
  have Yg:(nm k).length=rl:=by rw[<- VW];exact(Ur.len k hk).symm
  have Rf:∀b,b<w5.heap.size->w9.heap[b]?=w5.heap[b]?:=fun b hb=>(Uu b aa).trans (Re b hb);have u9:∀b,o5 b->grow o7 w7 w9 b:=fun b hb=>.inl (u7 b hb);obtain⟨a0,a1,a2,-⟩:=eE kr;have abD:Cl ar L0 (grow o7 w7 w9) (.slice ra rl rc):=by rw[<- Um,<- VW,<- DH];exact(eY _ (pd k hk)).up (fun b hb=>u9 b (u5 b (u4 b (u2 b hb))))
  have afB:nm k≠[]->ra=some ⟨nb k,0,none⟩:=fun h=>by rw[<- Um];exact(Ur.ptr k hk h).1
  clear uG Y4 Um VW DH c0 c1 c2;obtain⟨o9,ho9⟩:∃x,x=grow o7 w7 w9:=⟨_,rfl⟩;rw[<- ho9] at gw KN u9 abD |-;have hAw:w7.heap.size<w9.heap.size:=aa;refine dq mixed af [some none,some none,some none,some (some (.string ro)),some none,some (some (.int .i64 rr)),some none,some (some (.slice ra rl rc)),some none,some none,none,some none,some none,none]
   (S:=fun σ o' w'=>(σ 13=none/\(o'=grow o9 w9 w'/\bE ar L0 o' w'/\w9.heap.size<=w'.heap.size/\(∀b,b<w9.heap.size->w'.heap[b]?=w9.heap[b]?))/\(σ 10=none->o'=o9/\w'=w9)/\(∀y,σ 10=some y->y=.slice (some ⟨w9.heap.size,0,none⟩) rl rl/\w9.heap.size<w'.heap.size/\w'.rowIs w9.heap.size 280 (rl*2) (jZ (ins k)))) \/
    (σ 13≠none/\o'=grow (grow o5 w5 w6) w6 w'/\bE ar L0 o' w'/\w6.heap.size<=w'.heap.size/\(∀b,b<w6.heap.size->b≠w5.heap.size->w'.heap[b]?=w6.heap[b]?)/\∃cw:Nat->Nat,w'.rowIs w5.heap.size 220 (b5.length*3) (fN out eD ins cw (k+1))/\∀s,s<k+1->rS w' (cw s) (ins s)/\w6.heap.size<=cw s/\cw s<w'.heap.size)) ?_ fun v=>?_
  ·exact .inl ⟨rfl,⟨(bS _ _).symm,gw,ag _,fun _ _=>rfl⟩,fun _=>⟨rfl,rfl⟩,fun y hy=>by cases hy⟩
  refine dp ?_;refine bO ?_;refine bK aX rfl rfl rfl ai ai (fun σ o' w' H hS=>?_) ?_
  ·rcases hS with⟨zK,⟨e1,e2,e3,e4⟩,-,-⟩|⟨zK,-⟩
   ·have V6:o' w7.heap.size:=by rw[e1];exact .inl KN
    refine⟨e2,fun y hy=>?_,fun wl aE=>?_⟩
    ·simp[Op.operands] at hy;subst hy;simp[Act.eval];exact aH V6
    ·simp[go_sem,(aE.cell V6).trans ((cell_of (e4 _ hAw)).trans a0)]
   ·exact absurd (H.sg 13 af) zK
  refine bO ?_;refine bK aX rfl rfl rfl ai ai (fun σ o' w' H hS=>?_) ?_
  ·rcases hS with⟨zK,⟨e1,e2,e3,e4⟩,-,-⟩|⟨zK,-⟩
   ·have V6:o' w7.heap.size:=by rw[e1];exact .inl KN
    refine⟨e2,fun y hy=>?_,fun wl aE=>?_⟩
    ·simp[Op.operands] at hy;subst hy;simp[Act.eval];exact aH V6
    ·simp[go_sem,(aE.cell V6).trans ((cell_of (e4 _ hAw)).trans a1)]
   ·exact absurd (H.sg 13 af) zK
  refine bO ?_;refine bK aX rfl rfl rfl ai ai (fun σ o' w' H hS=>?_) ?_
  ·rcases hS with⟨zK,⟨e1,e2,e3,e4⟩,-,-⟩|⟨zK,-⟩
   ·have V6:o' w7.heap.size:=by rw[e1];exact .inl KN
    refine⟨e2,fun y hy=>?_,fun wl aE=>?_⟩
    ·simp[Op.operands] at hy;subst hy;simp[Act.eval];exact aH V6
    ·simp[go_sem,(aE.cell V6).trans ((cell_of (e4 _ hAw)).trans a2)]
   ·exact absurd (H.sg 13 af) zK
  refine bO ?_;refine rj rfl rfl ai rfl func149 af rfl (av:=#[.slice ra rl rc,.slice (some ⟨w3.heap.size,0,none⟩) b5.length b5.length,.slice sp SR.length sc]) aC (fun σ o' w' H oq hS=>?_) ?_
  ·rcases hS with⟨zK,-,h5,-⟩|⟨zK,-⟩
   ·obtain⟨rfl,rfl⟩:=h5 oq;have abE:nm k≠[]->nb k<w4.heap.size:=fun h=>(Ur.ptr k hk h).2;have hL:=Q7 (Fin:=Fin) gw (nb k) rc w3.heap.size b5.length sb sc ra sp (nm k) (b5.map (·.out)) SR (by have:=Ur.four k hk;omega) eR abx (fun h=>⟨afB h,u9 _ (u5 _ (KJ k hk h))⟩) (fun h=>⟨(xB h).1,u9 _ (xB h).2⟩) (u9 _ (u5 _ ho4)) (fun i hi=>?_) (cI t4 ((Rf _ aa).trans (N5.old _ aa))) (fun i hi=>?_) (Yg.symm▸abD) ?_
    ·rw[bG,Yg,<- Fl] at hL;refine hL.mono ?_;rintro y o2 w2 ⟨N,rfl,h1,h2⟩;refine .inl ⟨by simpa[dB] using zK,⟨N.own,N.ay,N.size,N.old⟩,fun h=>by simp[dB] at h,fun y hy=>?_⟩;simp only[dB,if_true,Option.some.injEq] at hy;subst hy;exact⟨rfl,h1,h2⟩
    ·have cV:nm k≠[]:=fun e=>by rw[e] at hi;simp at hi
     have:=abE cV;exact cI (Ur.txt k hk) ((Rf _ aa).trans (N5.old _ (abE cV))) i hi
    ·have cV:SR≠[]:=fun e=>by rw[e] at hi;simp at hi
     have:=N5.ay.lt (xB cV).2;exact cI aby (Rf _ this) i hi
    ·exact N5.cl.up u9
   ·exact absurd (H.sg 13 af) zK
  walk_nrm;refine wM (v 10=.slice (some ⟨w9.heap.size,0,none⟩) rl rl) (.agg #[.string ro,.int .i64 rr,.slice (some ⟨w9.heap.size,0,none⟩) rl rl]) rfl rfl rfl ai (fun σ o' w' H hS=>?_) (fun hv w1=>?_) (fun hv w1=>?_) fun y38 afE=>?_
  ·rcases hS with⟨-,-,-,h6⟩|⟨zK,-⟩
   ·exact(h6 _ (H.done 10 af rfl)).1
   ·exact absurd (H.sg 13 af) zK
  ·simp[go_sem,Act.eval,hv]
  ·simp[go_sem,Act.eval,hv]
  refine bO ?_;have hlen:(ins k).length=rl:=by rw[Fl,bG,Yg]
  have afF:w5.heap.size<w7.heap.size:=aa;have afG:o9 w5.heap.size:=by rw[ho9,<- XP];exact .inl (.inl ho6)
  refine jg aX rfl rfl rfl ai ai (fun σ o' w' H zK hS=>?_) ?_
  ·rcases hS with⟨-,⟨e1,e2,e3,e4⟩,-,h6⟩|⟨afH,-⟩
   ·obtain⟨hy,hz,b6⟩:=h6 _ (H.done 10 af rfl);have Uv:o' w5.heap.size:=by rw[e1];exact .inl afG
    have hn':o' w9.heap.size:=by rw[e1];exact .inr ⟨ag _,hz⟩
    have abF:=afE hy;subst abF;obtain⟨xc,V7⟩:∃f:Nat->Nat,f=fun s=>if s=k then w9.heap.size else cw s:=⟨_,rfl⟩
    have hib:xc k=w9.heap.size:=by rw[V7];simp
    have abH:∀s,s<k->cw s=xc s:=fun s hs=>by rw[V7];simp[show ¬s=k by omega]
    have abI:w'.rowIs w5.heap.size 220 (b5.length*3) (fN out eD ins xc k):=(World.rowIs.of_block abA ((e4 _ aa).trans (Uu _ afF))).congr fun j _=>C7 abH j;refine⟨e2,fun y Fo=>?_,fun wl aI=>aI=((wl.setCell ⟨w5.heap.size,k*3,none⟩ (.string ro)).setCell ⟨w5.heap.size,k*3+1,none⟩ (.int .i64 rr)).setCell ⟨w5.heap.size,k*3+2,none⟩ (.slice (some ⟨w9.heap.size,0,none⟩) rl rl),fun wl aE=>⟨_,?_,rfl⟩,fun wl aI w2 aE hR ba=>?_⟩
    ·simp[Op.operands] at Fo;rcases Fo with rfl|rfl
     ·simp[Act.eval];exact aH Uv
     ·simp[Act.eval];exact cJ (vs:=[_,_,_]) (fun x hx=>by
       simp at hx;rcases hx with rfl|rfl|rfl
       ·exact bf
       ·exact bN
       ·exact di hn')
    ·have Yh:=World.rowIs.of_block abI (aE.heap _ Uv);have q0:=Yh.cell (i:=k*3) aa;have q1:=Yh.cell (i:=k*3+1) aa;have q2:=Yh.cell (i:=k*3+2) aa;have f:=Yh.frozen;simp[go_sem,q0,q1,q2,f]
    ·have hO:cN w5.heap.size wl aI:=by rw[hR];exact uR _ _ _ _ _ _ _ _
     obtain⟨on,kbS,eg⟩:=ba.only aE Uv hO;have rh:=ba.ay;have abJ:=Q9 (World.rowIs.of_block abI (aE.heap _ Uv));rw[afz,afA,hib,hlen,<- hR] at abJ;have afI:=World.rowIs.of_block abJ kbS;refine .inr ⟨by simp[dB],?_,rh,by have:=on.1;omega,fun b hb cV=>?_,xc,afI,fun s hs=>?_⟩
     ·rw[eg,e1,ho9,<- XP,grow_grow (w:=w7) (w1:=w9) aa rfl e3,grow_grow V5 rfl aa];exact Fi on.1.symm
     ·rw[on.2 b cV,e4 b aa,Uu b aa];exact abz b hb cV
     ·by_cases hsk:s=k
      ·subst hsk;rw[hib];exact⟨zb (Od hlen.symm b6) (on.2 _ aa),aa,by rw[on.1];exact hz⟩
      ·obtain⟨p1,p2,p3⟩:=KM s aa;rw[<- abH s aa];exact⟨zb p1 (by rw[on.2 _ aa,e4 _ aa,Uu _ p3]),p2,by rw[on.1];omega⟩
   ·exact absurd zK afH
  walk_nrm;refine cd fun σ o' w' kP hS=>?_;rcases hS with⟨zK,-⟩|⟨-,e1,e2,e3,e4,xc,e5,e6⟩
  ·rw[kP 13 dh rfl] at zK;cases zK
  clear xB aby xV eY;simp only[gN,cZ,if_true,if_false,reduceIte,Nat.reduceEqDiff];refine aA ?_;have CP:IntKind.i64.wrap ((k:Int)+1)=((k+1:Nat):Int):=by rw[IntKind.wrap_i64]<;>omega
  refine⟨m-1,aa,k+1,aa,rfl,rfl,rfl,rfl,rfl,rfl,rfl,rfl,by simp[Act.eval,CP],e1,e2,e3,e4,xc,e5,e6⟩
end
end Go.Proofs.Kz
namespace Go.Ren
open Go.Conc Go.ConcN
section
variable {P:Program} {Fin:bH} {d:Nat} {o:aM} {w:ae} {fn:FuncId} {Q:Exit->Act->aM->ae->Prop} {a:Act} {ops:Array Oper} {i:Nat} {rest:List Nat} {op:Oper}
theorem pT{f:FuncId}{fc:Func}{args:Array Operand}{rR:Array TypeId}{e:Array Value->Sem Value}(ho:ops[i]?=some op)(hw:Region.wanted op (yielded ops a.tmps)=true)(eu:op.op=.call {callee:=.value (.func f),args,argTypes:=rR})(hf:P.funcs[f]?=some fc)(gF:(fc.name == "runtime.NumGoroutine")=false)(hb:fc.body.isNone=true)(hn:Extern.findNext fc=none)(he:Extern.find fc=some e){vs:Array Value}(Nk:args.map a.eval=vs){v:Value}{t:ae->ae}{evs:Array Event}{dd:Option Tmp}(hd:op.dst=dd)(nT:∀n,t (w.at n)=(t w).at n)(ft:(t w).heap.size=w.heap.size)(cm:∀n,(e vs).run P (w.at n)=.ok v (t (w.at n)))(iH:∀n,(e vs).events P (w.at n) #[⟨.mark (.extern f),false,true⟩]=#[⟨.mark (.extern f),false,true⟩]++evs)(hs:∀x∈evs,x.sync=true/\(∀g,x.loc≠.mark (.extern g))/\x.loc≠.mark .disable/\x.loc≠.mark .enable)(h:fu (XB P Fin d) fn ops rest Q (a.put dd v) o (t w))(Py:(t w).os=w.os/\(t w).output=w.output:=by exact⟨rfl,rfl⟩):fu (XB P Fin d) fn ops (i::rest) Q a o w:=fun b k cs mo hk hc =>
 xX ho hw hk eu hf gF hb hn he hd nT ft (fun n=>by rw[Nk];exact cm n) (fun n=>by rw[Nk];exact iH n) hs (h b k cs mo hk hc) Py
theorem KO(ho:ops[i]?=some op)(hw:Region.wanted op (yielded ops a.tmps)=true){v:Value}{dd:Option Tmp}(hd:op.dst=dd)(hr:∀n,(execOp a.eval op).run P (w.at n)=.ok (.value v) (w.at n))(iH:∀n,∀x∈(execOp a.eval op).events P (w.at n) #[],Xu Fin o x/\x.loc≠.mark .disable/\x.loc≠.mark .enable)(h:fu (XB P Fin d) fn ops rest Q (a.put dd v) o w):fu (XB P Fin d) fn ops (i::rest) Q a o w:=fun b k cs mo hk hc=>Hj ho hw hk hd hr iH (h b k cs mo hk hc)
theorem BQ(ho:ops[i]?=some op)(hw:Region.wanted op (yielded ops a.tmps)=true){v:Value}{dd:Option Tmp}(hd:op.dst=dd)(hr:∀n,(execOp a.eval op).run P (w.at n)=.ok (.value v) (w.at n))(iH:∀n,∀x∈(execOp a.eval op).events P (w.at n) #[],TB o x/\x.loc≠.mark .disable/\x.loc≠.mark .enable)(h:fu (XB P Fin d) fn ops rest Q (a.put dd v) o w):fu (XB P Fin d) fn ops (i::rest) Q a o w:=fun b k cs mo hk hc=>wE ho hw hk hd hr iH (h b k cs mo hk hc)
end
section
variable {P:Program} {L:Nat->Bool} {Fin:bH} {d:Nat} {fn:FuncId} {Q:Exit->Act->aM->ae->Prop} {a:Act} {ops:Array Oper} {S:(Nat->Option Value)->aM->ae->Prop} {kds:List Kd} {v:Nat->Value} {K:Act->Prop} {j:Nat} {l:List Nat} {xs:List Kd} {op:Oper} {dd:Option Tmp}
theorem Rg{f:FuncId}{fc:Func}{args:Array Operand}{rR:Array TypeId}{e:Array Value->Sem Value}(ho:ops[j]?=some op)(hd:op.dst=dd)(hw:Region.wanted op (yielded ops a.tmps)=true)(eu:op.op=.call {callee:=.value (.func f),args,argTypes:=rR})(hf:P.funcs[f]?=some fc)(gF:(fc.name == "runtime.NumGoroutine")=false)(hb:fc.body.isNone=true)(hn:Extern.findNext fc=none)(he:Extern.find fc=some e){av:Array Value}(has:args.map a.eval=av)(cm:∀σ o w,x7 ops kds v j σ->σ j=none->S σ o w->∃(y:Value) (t:ae->ae) (evs:Array Event),(∀n,t (w.at n)=(t w).at n)/\((t w).heap.size=w.heap.size/\(t w).os=w.os/\(t w).output=w.output)/\(∀n,(e av).run P (w.at n)=.ok y (t (w.at n)))/\(∀n,(e av).events P (w.at n) #[⟨.mark (.extern f),false,true⟩]=#[⟨.mark (.extern f),false,true⟩]++evs)/\(∀x∈evs,x.sync=true/\(∀g,x.loc≠.mark (.extern g))/\x.loc≠.mark .disable/\x.loc≠.mark .enable)/\S (dB σ j y) o (t w))(h:da P (Ad P (XB P Fin d) fn ops Q S kds v) ops K v l xs (a.put dd (v j))):da P (Ad P (XB P Fin d) fn ops Q S kds v) ops K v (j::l) (none::xs) a:=by
 refine fG ho hd (fun A rest σ o w h1 h2 h3 h4 hS hc=>?_) rfl h;obtain⟨y,t,evs,k1,k2,k3,k4,k5,k6⟩:=cm σ o w h3 (h4 rfl) hS;exact pT ho (h2.trans hw) eu hf gF hb hn he ((oz eu h1).trans has) rfl k1 k2.1 k3 k4 k5 (hc y o (t w) k6) k2.2
end
section
variable {P:Program} {w:ae} {ad:Addr}
theorem C9{k:IntKind}{x:Int}(hc:w.cell? ad=some (.int k x)):(Extern.Atomic.loadT (.int k) #[.pointer (some ad)]).run P w=.ok (.int k x) w:=by
 change Sem.run P (do Extern.Atomic.read (.int k) (<- asAddr (.pointer (some ad)))) w=_;simp[Extern.Atomic.read,asAddr,hc]
theorem yk{k:IntKind}{x:Int}(hc:w.cell? ad=some (.int k x))(es:Array Event):(Extern.Atomic.loadT (.int k) #[.pointer (some ad)]).events P w es=es.push ⟨.cell ad,false,true⟩:=by
 change Sem.events P (do Extern.Atomic.read (.int k) (<- asAddr (.pointer (some ad)))) w _=_;simp[Extern.Atomic.read,asAddr,hc,events_load]
theorem Da{p:Option Addr}(hc:w.cell? ad=some (.pointer p)):(Extern.Atomic.loadT .ptr #[.pointer (some ad)]).run P w=.ok (.pointer p) w:=by
 change Sem.run P (do Extern.Atomic.read .ptr (<- asAddr (.pointer (some ad)))) w=_;simp[Extern.Atomic.read,asAddr,hc]
theorem yl{p:Option Addr}(hc:w.cell? ad=some (.pointer p))(es:Array Event):(Extern.Atomic.loadT .ptr #[.pointer (some ad)]).events P w es=es.push ⟨.cell ad,false,true⟩:=by
 change Sem.events P (do Extern.Atomic.read .ptr (<- asAddr (.pointer (some ad)))) w _=_;simp[Extern.Atomic.read,asAddr,hc,events_load]
theorem BR{v u:Value}(hc:w.cell? ad=some u)(hz:w.frozen? ad=false)(hv:v.oneCell'=true):(Extern.Atomic.storeT #[.pointer (some ad),v]).run P w=.ok (.tuple #[]) (w.setCell ad v):=by
 change Sem.run P (do
  store (<- asAddr (.pointer (some ad))) v .atomic
  pure Extern.Atomic.none_) w=_
 simp[asAddr,Extern.Atomic.none_,run_store P w ad v .atomic hv,hc,hz]
theorem uT{v u:Value}(hc:w.cell? ad=some u)(hz:w.frozen? ad=false)(hv:v.oneCell'=true)(es:Array Event):(Extern.Atomic.storeT #[.pointer (some ad),v]).events P w es=es.push ⟨.cell ad,true,true⟩:=by
 change Sem.events P (do
  store (<- asAddr (.pointer (some ad))) v .atomic
  pure Extern.Atomic.none_) w _=_
 simp[asAddr,hc,hz,events_store P w _ ad v .atomic hv]
end
section
variable {P:Program} {m:Bool} {R:aM->ae->ae->Prop} {Gu:aM->ae->ae->Array Event->Prop} {X:aM->aS->ae->Prop} {o:aM} {w:ae} {f:FuncId} {Post:Value->aM->ae->Prop}
theorem Fp(W:fg P m R Gu X){g:FuncId}{gc:Func}{c:Code}{args tm:Array Value}{ds:List Deferred}(hg:P.funcs[g]?=some gc)(gF:(gc.name == "runtime.NumGoroutine")=false)(fo:gc.body=some c)(h:uJ X g c (fun e a' o' w'=>(e=.normal\/e=.ret)/\a'.defers=[]/\(∃v,ResultsC P gc a'.tmps v)/\jf X f Post ⟨tm,ds⟩ o' w') {tmps:=args++Array.replicate (gc.ntmps-args.size) undef,defers:=[]} o w):
  jf X f Post ⟨tm,{target:=.fn (.func g) #[],args}::ds⟩ o w:=by
 intro cf cs todo hc;refine W.go rfl (fun w1=>stepG_unwind_enter rfl hg gF fo) ?_;have leave:∀(a':Act) (o':aM) (w':ae) (td:List Item),a'.defers=[]->(∃v,ResultsC P gc a'.tmps v)->jf X f Post ⟨tm,ds⟩ o' w'->X o' (G {(baseD g).at a' td with mode:=.returning} ({(base f).at ⟨tm,ds⟩ todo with mode:=.returning}::cf::cs)) w':=by
  rintro a' o' w' td hd ⟨v,hr⟩ hl;exact W.go rfl (fun w1=>stepG_leave_deferred (b:=baseD g) rfl hd hg (hr w1).1 (hr w1).2 rfl) (hl cf cs todo hc)
 refine h (baseD g) [] _ rfl (by simp[baseD]) fun e a' o' w' q=>?_;obtain⟨he,hd,hr,hl⟩:=q;rcases he with rfl|rfl
 ·exact W.go rfl (fun _=>dG) (leave a' o' w' [] hd hr hl)
 ·exact fun td=>leave a' o' w' td hd hr hl
end
end Go.Ren
namespace Go.Proofs.Kz
open Go.Proofs.Tryz
open Go.Proofs.Tryz renaming prog → ar
open _root_.ByteArray renaming empty → aN
open Go.Ren Go.Conc Go.Proofs Go.ConcN
section
variable {Fin:bH} {o:aM} {w:ae}
theorem vx(K off:Nat)(x:Int)(hc:w.cell? ⟨K,off,none⟩=some (.int .u32 x)):
  bp ar (XB ar Fin 0) 142 #[.pointer (some ⟨K,off,none⟩)] o w fun v o' w'=>v=.bool (x != 0)/\o'=o/\w'=w:=by
 have W:=bJ (P:=ar) (Fin:=Fin) (d:=0);refine bA W func142 rfl ?_;walk_nrmf Tryz.f142;refine aA ?_;refine pT rfl ai rfl func182 af af af (e:=Extern.Atomic.loadT (.int .u32)) af (vs:=#[.pointer (some ⟨K,off,none⟩)]) aC (t:=id) rfl (fun n=>rfl) rfl (fun n=>C9 hc) (fun n=>by rw[yk (w:=w.at n) hc];rfl) (wV _ _) ?_;refine aA ?_;exact⟨.inr trivial,trivial,_,resultsC_tmp (t:=2) ai _,aC⟩
theorem abK:bp ar (XB ar Fin 0) 202 #[.bool true] o w fun v o' w'=>v=.int .u32 1/\o'=o/\w'=w:=by
 have W:=bJ (P:=ar) (Fin:=Fin) (d:=0);refine bA W func202 rfl ?_;walk_nrmf Tryz.f202;refine aA ?_;exact⟨.inr trivial,trivial,_,resultsC_tmp (t:=2) ai _,aC⟩
theorem KP{f:FuncId}{Post:Value->aM->ae->Prop}(K off:Nat)(x:Int)(hc:w.cell? ⟨K,off,none⟩=some (.int .u32 x))(hz:w.frozen? ⟨K,off,none⟩=false)(hF:bE ar L0 o w)(tm:Array Value)(ds:List Deferred)(h:jf (XB ar Fin 0) f Post ⟨tm,ds⟩ o (w.setCell ⟨K,off,none⟩ (.int .u32 1))):jf (XB ar Fin 0) f Post ⟨tm,{target:=.fn (.func 183) #[],args:=#[.pointer (some ⟨K,off,none⟩),.bool true]}::ds⟩ o w:=by
 have W:=bJ (P:=ar) (Fin:=Fin) (d:=0);refine Fp W func183 af rfl ?_;walk_nrmf Tryz.f183;refine dq mixed af [some none,some none,some none,some none,some (some (.int .u32 1)),none] (S:=fun σ o' w'=>o'=o/\(σ 5=none->w'=w)/\∀y,σ 5=some y->w'=w.setCell ⟨K,off,none⟩ (.int .u32 1)) ⟨rfl,fun _=>rfl,fun y hy=>by cases hy⟩ fun v=>?_;refine dp ?_;refine bO ?_;refine iL rfl rfl ai rfl func202 af rfl (av:=#[.bool true]) aC (fun σ o' w' H hS=>abK.mono ?_) ?_
 ·rintro v o2 w2 ⟨rfl,rfl,rfl⟩;exact⟨rfl,hS⟩
 walk_nrm;refine Rg rfl rfl ai rfl func201 af af af (e:=Extern.Atomic.storeT) af (av:=#[.pointer (some ⟨K,off,none⟩),.int .u32 1]) aC (fun σ o' w' H h5 hS=>?_) ?_
 ·obtain⟨rfl,h1,-⟩:=hS;obtain rfl:=h1 h5;exact⟨.tuple #[],fun w=>w.setCell ⟨K,off,none⟩ (.int .u32 1),#[⟨.cell ⟨K,off,none⟩,true,true⟩],fun n=>rfl,⟨wU _ _ _,rfl,rfl⟩,fun n=>BR hc hz rfl,fun n=>by rw[uT (w:=World.at _ n) hc hz rfl];rfl,wV _ _,rfl,fun h=>by simp[dB] at h,fun y _=>rfl⟩
 walk_nrm;refine cd fun σ o' w' kP hS=>?_;obtain⟨rfl,-,h2⟩:=hS;obtain rfl:=h2 _ (kP 5 dh rfl);exact⟨.inl trivial,rfl,⟨.tuple #[],fun w1=>results_none af _ _⟩,h⟩
theorem uU{f:FuncId}{Post:Value->aM->ae->Prop}(K off:Nat)(VV:o K)(hc:w.cell? ⟨K,off,none⟩=some (.int .i32 1))(hz:w.frozen? ⟨K,off,none⟩=false)(tm:Array Value)(ds:List Deferred)(h:jf (XB ar Fin 0) f Post ⟨tm,ds⟩ o (w.setCell ⟨K,off,none⟩ (.int .i32 0))):jf (XB ar Fin 0) f Post ⟨tm,{target:=.fn (.func 46) #[],args:=#[.pointer (some ⟨K,off,none⟩)]}::ds⟩ o w :=
 fun cf cs todo Js=>HW K off VV hc hz (base f) tm ds todo (cf::cs) (h cf cs todo Js)
theorem vy{P:Program}{src dst u e:TypeId}{j:TypeInfo}{cells:Nat}(a:Addr)(hs:P.underlying src=some .unsafePointer)(hd:P.underlying dst=some (.pointer u))(hu:P.info? u=some j)(se:w.shape? a.block=some (e,cells))(abL:liesAt P P.depth e (cells/P.cellsOf e) a.off u 1=true)(es:Array Event):
  (convert src dst (.pointer (some a))).events P w es=es:=by
 simp[convert,run_underlying hs,run_underlying hd,Conv.unsafePointer,Conv.seenAt,viewAt,se,variablesAt,abL,sizeOf,typeInfo,hu,Result.evThen]
theorem setInfo:∃j,ar.info? 59=some j/\j.size≠0:=by
 have:(ar.info? 59).map (fun i=>decide (i.size≠0))=some true:=af;obtain⟨j,h1,h2⟩:=Option.map_eq_some_iff.1 this;exact⟨j,h1,by simpa using h2⟩
theorem Eb(K off:Nat)(A:Nat)(x y z:Value)(hc:w.cell? ⟨K,off,none⟩=some (.pointer (some ⟨A,0,none⟩)))(hA:w.heap[A]?=some (.cells #[x,y,z] 59)):
  bp ar (XB ar Fin 0) 49 #[.pointer (some ⟨K,off,none⟩)] o w fun v o' w'=>v=.pointer (some ⟨A,0,none⟩)/\o'=o/\w'=w:=by
 have W:=bJ (P:=ar) (Fin:=Fin) (d:=0);refine bA W func49 rfl ?_;walk_nrmf Tryz.f49;refine aA ?_;refine pT rfl ai rfl func81 af af af (e:=Extern.Atomic.loadT .ptr) af (vs:=#[.pointer (some ⟨K,off,none⟩)]) aC (t:=id) rfl (fun n=>rfl) rfl (fun n=>Da hc) (fun n=>by rw[yl (w:=w.at n) hc];rfl) (wV _ _) ?_;walk_nrm;refine BQ rfl ai (v:=.pointer (some ⟨A,0,none⟩)) rfl (fun n=>?_) (fun n x hx=>?_) ?_
 ·obtain⟨j,hj,-⟩:=setInfo;have:=Lib.run_from_unsafe (P:=ar) (w:=w.at n) (src:=116) (dst:=113) (e:=59) (cells:=3) ⟨A,0,none⟩ underlying116 underlying113 hj (by simp[World.shape?,World.at,hA]) af;simp[go_sem,this]
 ·obtain⟨j,hj,-⟩:=setInfo;have:=vy (P:=ar) (w:=w.at n) (src:=116) (dst:=113) (e:=59) (cells:=3) ⟨A,0,none⟩ underlying116 underlying113 hj (by simp[World.shape?,World.at,hA]) af #[];simp[go_sem,this] at hx
 refine aA ?_;exact⟨.inr trivial,trivial,_,resultsC_tmp (t:=2) ai _,aC⟩
theorem BS(K off:Nat)(A:Nat)(x y z u:Value)(hc:w.cell? ⟨K,off,none⟩=some u)(hz:w.frozen? ⟨K,off,none⟩=false)(hA:w.heap[A]?=some (.cells #[x,y,z] 59)):
  bp ar (XB ar Fin 0) 61 #[.pointer (some ⟨K,off,none⟩),.pointer (some ⟨A,0,none⟩)] o w fun v o' w'=>v=.tuple #[]/\o'=o/\w'=w.setCell ⟨K,off,none⟩ (.pointer (some ⟨A,0,none⟩)):=by
 have W:=bJ (P:=ar) (Fin:=Fin) (d:=0);refine bA W func61 rfl ?_;walk_nrmf Tryz.f61;refine aA ?_;obtain⟨Xp,-⟩:=eE hA;have hcv:=fun n=>run_convert_to_unsafe (P:=ar) (w:=w.at n) underlying113 underlying116 af Xp;have hce:=fun n es=>events_convert_to_unsafe (P:=ar) (w:=w.at n) underlying113 underlying116 af Xp es;refine BQ rfl ai (v:=.pointer (some ⟨A,0,none⟩)) rfl (fun n=>by simp[go_sem,hcv n]) (fun n x hx=>by simp[go_sem,hce n] at hx) ?_;walk_nrm;refine pT rfl ai rfl func99 af af af (e:=Extern.Atomic.storeT) af (vs:=#[.pointer (some ⟨K,off,none⟩),.pointer (some ⟨A,0,none⟩)]) aC (t:=fun w=>w.setCell ⟨K,off,none⟩ (.pointer (some ⟨A,0,none⟩))) rfl (fun n=>rfl) (wU _ _ _) (fun n=>BR hc hz rfl) (fun n=>by rw[uT (w:=w.at n) hc hz rfl];rfl) (wV _ _) ?_;refine aA ?_;exact⟨.inl trivial,trivial,.tuple #[],fun w1=>results_none af _ _,an⟩
theorem uS.keep{lo:Nat}{NM:aL->List ah}{b5:List aL}{St Or:Nat}{cw:Nat->Nat}{sv v:Value}{w w':ae}(h:uS lo NM b5 St Or cw sv v w)(hz:w.heap.size<=w'.heap.size)(e:∀b,lo<=b->b<w.heap.size->w'.heap[b]?=w.heap[b]?):uS lo NM b5 St Or cw sv v w' where
 val:=h.val
 steps:=iW h.steps (e St h.st.1 h.st.2) (fun s hs=>e _ (h.ib s hs) (h.steps.lt s hs)) hz
 ord:=World.rowIs.of_block h.ord (e Or h.or.1 h.or.2)
 src:=kJ h.src (ag _) hz e
 st:=⟨h.st.1,by have:=h.st.2;omega⟩
 or:=⟨h.or.1,by have:=h.or.2;omega⟩
 ib:=h.ib
structure kQ(o:aM)(w:ae)(p:Option Addr)(Ru c:Nat)(rs:List aL)(NM:aL->List ah)(NB:aL->Nat):Prop where
 gT:rs.length<=8
 ptr:rs≠[]->p=some ⟨Ru,0,none⟩
 own:o Ru
 at_:dX w Ru rs
 clr:∀r∈rs,Cl ar L0 o (.slice r.sa r.sl r.sc)
 cl:Cl ar L0 o (.slice p rs.length c)
 nm:∀r∈rs,r.sl=(NM r).length/\(NM r≠[]->r.sa=some ⟨NB r,0,none⟩/\o (NB r))/\dP w (NB r) 0 (NM r)/\(NM r).length<=4
theorem kQ.keep{p:Option Addr}{Ru c:Nat}{rs:List aL}{NM:aL->List ah}{NB:aL->Nat}{o':aM}{w':ae}(h:kQ o w p Ru c rs NM NB)(mW:∀b,o b->o' b)(e0:w'.heap[Ru]?=w.heap[Ru]?)(e:∀r∈rs,NM r≠[]->w'.heap[NB r]?=w.heap[NB r]?):kQ o' w' p Ru c rs NM NB where
 gT:=h.gT
 ptr:=h.ptr
 own:=mW _ h.own
 at_:=gp h.at_ e0
 clr r hr:=(h.clr r hr).up mW
 cl:=h.cl.up mW
 nm r hr:=by
  obtain⟨h1,h2,h3,h4⟩:=h.nm r hr;refine⟨h1,fun hn=>⟨(h2 hn).1,mW _ (h2 hn).2⟩,fun k hk=>?_,h4⟩;have cV:NM r≠[]:=fun e=>by rw[e] at hk;simp at hk
  exact cI h3 (e r hr cV) k hk
def KQ(o:aM)(w:ae)(rs:List aL)(NM:aL->List ah)(v:Value)(o':aM)(w':ae):Prop :=
 fw o w v o' w'/\∃b5 St Or cw sv,b5.Perm rs/\(∀i j (hi:i<b5.length) (hj:j<b5.length),i<j->¬qx b5[j] b5[i]<0)/\uS w.heap.size NM b5 St Or cw sv v w'
theorem mP{w:ae}{b:Nat}{t:TypeId}{c0 c1 c2 c3 c4 c5 c6 c7:Value}(h:w.heap[b]?=some (.cells #[c0,c1,c2,c3,c4,c5,c6,c7] t)):w.cell? ⟨b,0,none⟩=some c0/\w.cell? ⟨b,1,none⟩=some c1/\w.cell? ⟨b,2,none⟩=some c2/\w.cell? ⟨b,3,none⟩=some c3/\w.cell? ⟨b,4,none⟩=some c4/\w.cell? ⟨b,5,none⟩=some c5/\w.cell? ⟨b,6,none⟩=some c6/\w.cell? ⟨b,7,none⟩=some c7/\∀k,w.frozen? ⟨b,k,none⟩=false:=by
 simp[World.cell?,World.frozen?,h]
abbrev Ji(c0 c1 c2 c3 c4 c5 c6 c7:Value):Obj:=.cells #[c0,c1,c2,c3,c4,c5,c6,c7] 150
theorem Uw(hF:bE ar L0 o w)(bb bx Ru c:Nat)(p:Option Addr)(rs:List aL)(NM:aL->List ah)(NB:aL->Nat)(hR:kQ o w p Ru c rs NM NB)(tt:o bb)(HQ:o bx)(c1 c2 c3 c4 c5 c6 c7:Value)(hb:w.heap[bb]?=some (Ji (.slice p rs.length c) c1 c2 c3 c4 c5 c6 c7))(hx:w.cell? ⟨bx,0,none⟩=some (.pointer (some ⟨bb,0,none⟩))):
  bp ar (XB ar Fin 0) 111 #[.pointer (some ⟨bx,0,none⟩)] o w fun v o' w'=>v=.tuple #[]/\bE ar L0 o' w'/\∃y0 y1 y2 w2,KQ o w rs NM (.agg #[y0,y1,y2]) o' w2/\cN bb w2 w'/\w'.heap[bb]?=some (Ji (.slice p rs.length c) c1 c2 c3 y0 y1 y2 c7):=by
 have W:=bJ (P:=ar) (Fin:=Fin) (d:=0);refine bA W func111 ai ?_;walk_nrmf Tryz.f111;have gv:=hF.lt tt;have hxw:=hF.lt HQ;refine dq mixed af [some (some (.pointer (some ⟨bb,0,none⟩))),some (some (.pointer (some ⟨bb,0,none⟩))),some none,some none,some (some (.slice p rs.length c)),none,some none,some none,none]
  (S:=fun σ o' w'=>(σ 8=none/\(o'=grow o w w'/\bE ar L0 o' w'/\w.heap.size<=w'.heap.size/\(∀b,b<w.heap.size->w'.heap[b]?=w.heap[b]?))/\(σ 5=none->o'=o/\w'=w)/\∀y,σ 5=some y->KQ o w rs NM y o' w') \/
   (σ 8≠none/\bE ar L0 o' w'/\∃y0 y1 y2 w2,KQ o w rs NM (.agg #[y0,y1,y2]) o' w2/\cN bb w2 w'/\w'.heap[bb]?=some (Ji (.slice p rs.length c) c1 c2 c3 y0 y1 y2 c7))) ?_ fun v=>?_
 ·exact .inl ⟨rfl,⟨(bS _ _).symm,hF,ag _,fun _ _=>rfl⟩,fun _=>⟨rfl,rfl⟩,fun y hy=>by cases hy⟩
 refine dp ?_
 iterate 2
  refine bK aX rfl rfl rfl ai ai (fun σ o' w' H hS=>?_) ?_
  ·rcases hS with⟨h8,⟨e1,e2,e3,e4⟩,-,-⟩|⟨h8,-⟩
   ·have kB:o' bx:=by rw[e1];exact .inl HQ
    refine⟨e2,cj (aH kB),fun wl aE=>?_⟩;simp[go_sem,(aE.cell kB).trans ((cell_of (e4 _ hxw)).trans hx)]
   ·exact absurd (H.sg 8 af) h8
 refine bO ?_;refine bK aX rfl rfl rfl ai ai (fun σ o' w' H hS=>?_) ?_
 ·rcases hS with⟨h8,⟨e1,e2,e3,e4⟩,-,-⟩|⟨h8,-⟩
  ·have kB:o' bb:=by rw[e1];exact .inl tt
   refine⟨e2,fun y hy=>?_,fun wl aE=>?_⟩
   ·simp[Op.operands] at hy;subst hy;simp[Act.eval];exact aH kB
   ·simp[go_sem,(aE.cell kB).trans ((cell_of (e4 _ gv)).trans (mP hb).1)]
  ·exact absurd (H.sg 8 af) h8
 walk_nrm;refine rj rfl rfl ai rfl func112 af rfl (av:=#[.slice p rs.length c]) aC (fun σ o' w' H h5 hS=>?_) ?_
 ·rcases hS with⟨h8,-,hS,-⟩|⟨h8,-⟩
  ·obtain⟨rfl,rfl⟩:=hS h5;refine(Fj hF Ru c p rs hR.gT hR.ptr hR.own hR.at_ hR.clr hR.cl NM NB hR.nm).mono fun y o2 w2 hq=>?_;refine .inl ⟨by simpa[dB] using h8,⟨hq.1.own,hq.1.ay,hq.1.size,hq.1.old⟩,fun h=>by simp[dB] at h,fun z hz=>?_⟩;simp only[dB,if_true,Option.some.injEq] at hz;subst hz;exact hq
  ·exact absurd (H.sg 8 af) h8
 refine bO ?_;refine jg aX rfl rfl rfl ai ai (fun σ o' w' H h8 hS=>?_) ?_
 ·rcases hS with⟨-,⟨e1,e2,e3,e4⟩,-,h6⟩|⟨h8',-⟩
  ·have hq:=h6 _ (H.done 5 af rfl);have EN:=hq;obtain⟨N,b5,St,Or,cw,sv,-,-,hL⟩:=EN;have ow:=hL.val;generalize hol:(dK (lH NM b5) b5.length b5.length).length=ol at ow;have kB:o' bb:=by rw[e1];exact .inl tt
   have mo:=(e4 bb gv).trans hb;refine⟨e2,fun y hy=>?_,fun wl aI=>aI=((wl.setCell ⟨bb,4,none⟩ (.slice (some ⟨St,0,none⟩) b5.length b5.length)).setCell ⟨bb,5,none⟩ (.slice (some ⟨Or,0,none⟩) ol b5.length)).setCell ⟨bb,6,none⟩ sv,fun wl aE=>⟨_,?_,rfl⟩,fun wl aI w2 aE Yi ba=>?_⟩
   ·simp[Op.operands] at hy;rcases hy with rfl|rfl
    ·simp[Act.eval];exact aH kB
    ·simp[Act.eval];exact N.cl
   ·obtain⟨-,-,-,-,d4,d5,d6,-,f⟩:=mP ((aE.heap _ kB).trans mo);have hs:=hL.src;rcases hs with⟨rfl,-⟩|⟨g,cap,rfl,-⟩
    ·simp[go_sem,ow,d4,d5,d6,f]
    ·simp[go_sem,ow,d4,d5,d6,f]
   ·have hO:cN bb wl aI:=by rw[Yi];exact uR _ _ _ _ _ _ _ _
    obtain⟨on,kb,eg⟩:=ba.only aE kB hO;have rh:=ba.ay;rw[eg] at rh |-;refine .inr ⟨by simp[dB],rh,_,_,_,w',ow▸hq,on,?_⟩;rw[kb,Yi];simp[World.setCell,Array.getElem?_modify,(aE.heap _ kB).trans mo]
  ·exact absurd h8 h8'
 walk_nrm;refine cd fun σ o' w' kP hS=>?_;rcases hS with⟨h8,-⟩|⟨-,e1,e2⟩
 ·rw[kP 8 dh rfl] at h8;cases h8
 exact⟨.inl trivial,rfl,.tuple #[],fun w1=>results_none af _ _,rfl,e1,e2⟩
end
end Go.Proofs.Kz
