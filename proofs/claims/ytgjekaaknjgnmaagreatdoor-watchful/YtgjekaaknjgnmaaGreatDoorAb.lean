import Derived.Test.YtgjekaaknjgnmaaGreatDoorAa
set_option linter.all false
set_option maxHeartbeats 40000000
set_option maxRecDepth 200000
namespace Go.Ren
section
variable {P:Program} {f:Rn} {α β γ δ:Type} {A:α->β->Prop} {B:γ->δ->Prop}
def Ju:Value->Value->Bool
 | .int ..,.int .. | .float ..,.float .. | .complex ..,.complex .. | .string ..,.string ..=>true
 |_,_=>false
theorem binOp_eql(t:TypeId)(x y:Value)(h:Ju x y=false):binOp .eql t x y=(do pure (.bool (<- Op.equal t x y))):=by
 cases x<;>cases y<;>first|rfl|exact Bool.noConfusion h
theorem binOp_neq(t:TypeId)(x y:Value)(h:Ju x y=false):binOp .neq t x y=(do pure (.bool (!(<- Op.equal t x y)))):=by
 cases x<;>cases y<;>first|rfl|exact Bool.noConfusion h
theorem Gq(x y:Value):Ju (val f x) (val f y)=Ju x y:=by
 cases x<;>simp only[cg,cy,bQ,bw,bC,aW,bt,cC,b7,b8,bB,bI,bj,cz,bL]<;>cases y<;>simp only[cg,cy,bQ,bw,bC,aW,bt,cC,b7,b8,bB,bI,bj,cz,bL]<;>rfl
def ED{α:Type}:Sem α->Bool
 | .halt h=>nN h
 |_=>false
def Lu{α:Type}(s:Sem α):Prop:=ED s=true
theorem xH{s:Sem α}{s':Sem β}(h:Lu s):Rel P f A s s':=by
 cases s with
 |halt hh=>exact sn h
 |_=>exact Bool.noConfusion h
def Dw:Value->Bool
 | .pointer _=>true
 |_=>false
theorem Gr(op:BinOp)(t:TypeId)(x y:Value)(hb:Ju x y=false)(hp:Dw x=false)(hq:Dw y=false)(h1:op≠.eql)(h2:op≠.neq):Lu (binOp op t x y):=by
 cases op<;>first|exact absurd rfl h1|exact absurd rfl h2|skip
 all_goals (cases x<;>first|exact Bool.noConfusion hp|skip)
 all_goals (cases y<;>first|(show ED _=true;rfl)|exact Bool.noConfusion hb|exact Bool.noConfusion hq)
theorem xI{Q R:α->Prop}{s:Sem α}(h:Calm P Q s)(hq:∀a,Q a->R a):Calm P R s:=by
 have:=dR (R:=R) (k:=fun a=>Sem.pure a) h (fun a ha=>hq a ha);have e:(s>>=fun a=>Sem.pure a)=s:=bind_pure s;rwa[e] at this
theorem AD(op:BinOp)(t:TypeId)(a:Option Addr)(y:Value)(hq:Dw y=false)(hi:∀k n,y≠.int k n)(h1:op≠.eql)(h2:op≠.neq):Lu (binOp op t (.pointer a) y)/\Lu (binOp op t y (.pointer a)):=by
 cases op<;>first|exact absurd rfl h1|exact absurd rfl h2|skip
 all_goals (cases a<;>cases y<;>first|exact Bool.noConfusion hq|exact absurd rfl (hi _ _)|exact⟨by show ED _=true;rfl,by show ED _=true;rfl⟩)
theorem Jv(hf:mC P f)(op:BinOp)(t:TypeId)(a:Option Addr)(k:IntKind)(n:Int)(h1:op≠.eql)(h2:op≠.neq):Rel P f (V f) (binOp op t (.pointer a) (.int k n)) (binOp op t (.pointer (a.map (addr f))) (.int k n)):=by
 cases op<;>first|exact absurd rfl h1|exact absurd rfl h2|exact aT|skip
 ·refine aj (aY t) ?_;rintro d _ ⟨rfl,_⟩;split
  ·have:=xG (P:=P) (f:=f) t (.pointer a) (.int k n);simpa using this
  ·have:=nP (P:=P) (f:=f) t (.pointer a) (.int k n);simpa using this
 ·show Rel P f (V f) (movedNumber t (.pointer a) (.int k (-n))) (movedNumber t (.pointer (a.map (addr f))) (.int k (-n)));have:=nP (P:=P) (f:=f) t (.pointer a) (.int k (-n));simpa using this
 ·cases a with
  |none=>exact aT
  |some a =>
   refine aj (dY a) ?_;rintro⟨c,l⟩ _ rfl;exact sA _ _ _
 ·cases a with
  |none=>exact aT
  |some a =>
   refine aj (dY a) ?_;rintro⟨c,l⟩ _ rfl;exact sA _ _ _
 all_goals (cases a<;>exact aT)
theorem Jw(hf:mC P f)(op:BinOp)(t:TypeId)(a:Option Addr)(k:IntKind)(n:Int)(h1:op≠.eql)(h2:op≠.neq):Rel P f (V f) (binOp op t (.int k n) (.pointer a)) (binOp op t (.int k n) (.pointer (a.map (addr f)))):=by
 cases op<;>first|exact absurd rfl h1|exact absurd rfl h2|exact aT|skip
 ·show Rel P f (V f) (movedNumber t (.pointer a) (.int k n)) (movedNumber t (.pointer (a.map (addr f))) (.int k n));have:=nP (P:=P) (f:=f) t (.pointer a) (.int k n);simpa using this
 ·cases a with
  |none=>exact aT
  |some a =>
   refine aj (dY a) ?_;rintro⟨c,l⟩ _ rfl;exact sA _ _ _
theorem Gs(hf:mC P f)(op:BinOp)(a b:Addr):Rel P f (V f) (Op.addrCmp op a b) (Op.addrCmp op (addr f a) (addr f b)):=by
 refine aj (uA hf a b) ?_;rintro⟨x,y⟩ _ rfl;cases op<;>first|exact aT|exact au (by simp[V])
theorem Jx(hf:mC P f)(op:BinOp)(t:TypeId)(a b:Option Addr)(h1:op≠.eql)(h2:op≠.neq):Rel P f (V f) (binOp op t (.pointer a) (.pointer b)) (binOp op t (.pointer (a.map (addr f))) (.pointer (b.map (addr f)))):=by
 cases a with
 |none=>cases b<;>cases op<;>first|exact absurd rfl h1|exact absurd rfl h2|exact aT
 |some a =>
  cases b with
  |none=>cases op<;>first|exact absurd rfl h1|exact absurd rfl h2|exact aT
  |some b =>
   cases op<;>first|exact absurd rfl h1|exact absurd rfl h2|exact aT|skip
   ·refine aj (dY a) ?_;rintro⟨c,l⟩ _ rfl;refine aj (dY b) ?_;rintro⟨d,m⟩ _ rfl;refine aj (uA hf c d) ?_;rintro⟨x,y⟩ _ rfl;exact au (by simp[V])
   all_goals
    refine aj (dY a) ?_;rintro⟨c,l⟩ _ rfl;refine aj (dY b) ?_;rintro⟨d,m⟩ _ rfl;exact Gs hf _ _ _
theorem MP(hf:mC P f)(op:BinOp)(t:TypeId)(x y:Value):Rel P f (V f) (binOp op t x y) (binOp op t (val f x) (val f y)):=by
 by_cases hb:Ju x y=true
 ·cases x<;>cases y<;>first|exact Bool.noConfusion hb|skip
  ·simp only[cy];exact MO hf _ _ _ _ _ _
  ·rename_i k a k' b;simp only[bQ];refine oO ?_;have q1:∀op,Calm P Plain (Op.floatArith op k a b):=fun op=>xI (rO op k a b) (by rintro _ ⟨k,r,rfl⟩ g;simp);have q2:∀op,Calm P Plain (Op.floatCmp op k a b):=fun op=>xI (uB op k a b) (by rintro _ ⟨r,rfl⟩ g;simp);by_cases hk:k=k'
   ·subst hk;cases op<;>simp only[binOp,ne_eq,not_true_eq_false,if_false]<;>first|exact q1 _|exact q2 _
   ·cases op<;>simp only[binOp,ne_eq,hk,not_false_eq_true,if_true]<;>trivial
  ·rename_i k a b k' c d;simp only[bw];refine oO ?_;by_cases hk:k=k'
   ·subst hk;cases op<;>simp only[binOp,ne_eq,not_true_eq_false,if_false]<;>exact AB _ _ _ _ _ _
   ·cases op<;>simp only[binOp,ne_eq,hk,not_false_eq_true,if_true]<;>trivial
  ·rename_i a b;simp only[bC];have e:binOp op t (.string a) (.string b)=Op.stringOp op a b:=by cases op<;>rfl
   rw[e];exact vQ _ _ _
 ·have hb:Ju x y=false:=by simpa using hb
  by_cases h1:op=.eql
  ·subst h1;rw[binOp_eql _ _ _ hb,binOp_eql _ _ _ (by rw[Gq];exact hb)];exact aj (xF hf t x y) (by rintro b _ rfl;exact au (by simp[V]))
  ·by_cases h2:op=.neq
   ·subst h2;rw[binOp_neq _ _ _ hb,binOp_neq _ _ _ (by rw[Gq];exact hb)];exact aj (xF hf t x y) (by rintro b _ rfl;exact au (by simp[V]))
   ·by_cases hp:Dw x=true
    ·cases x<;>first|exact Bool.noConfusion hp|skip
     rw[aW];by_cases hi:∃k n,y=.int k n
     ·obtain⟨k,n,rfl⟩:=hi;rw[cy];exact Jv hf op t _ k n h1 h2
     ·by_cases hq:Dw y=true
      ·cases y<;>first|exact Bool.noConfusion hq|skip
       rw[aW];exact Jx hf op t _ _ h1 h2
      ·exact xH (AD op t _ y (by simpa using hq) (fun k n e=>hi ⟨k,n,e⟩) h1 h2).1
    ·by_cases hq:Dw y=true
     ·cases y<;>first|exact Bool.noConfusion hq|skip
      rw[aW];by_cases hi:∃k n,x=.int k n
      ·obtain⟨k,n,rfl⟩:=hi;rw[cy];exact Jw hf op t _ k n h1 h2
      ·exact xH (AD op t _ x (by simpa using hp) (fun k n e=>hi ⟨k,n,e⟩) h1 h2).2
     ·exact xH (Gr op t x y hb (by simpa using hp) (by simpa using hq) h1 h2)
theorem oh(hf:mC P f)(e:Bool):∀(n:Nat) (t:TypeId) (v:Value),Rel P f Eq (Instr.checkKey e n t v) (Instr.checkKey e n t (val f v)):=by
 intro n
 induction n with
 |zero=>intro t v;exact aT
 |succ n ih =>
  intro t v;obtain⟨v',hv⟩:∃v',v'=val f v:=⟨_,rfl⟩;rw[<- hv];unfold Instr.checkKey;refine aj (aY t) ?_;rintro u _ ⟨rfl,_⟩;cases u
  case interface =>
   cases v<;>first|exact az|skip
   ·rename_i d x;rw[bI] at hv;subst hv;dsimp only;refine aj (eQ d) ?_;rintro i _ ⟨rfl,_⟩;have Y2:∀(x:RuntimeError) (k k':PUnit->Sem PUnit),qP x=true->Rel P f Eq (runtimePanic x>>=k) (runtimePanic x>>=k'):=fun x k k' he=>aj (A:=fun _ _=>False) (bM hf x he) (fun _ _ h=>h.elim);split
    ·split
     ·exact Y2 _ _ _ rfl
     ·refine aj (yG _) ?_;rintro s _ rfl;exact Y2 _ _ _ rfl
    ·exact ih d x
   ·rw[bj] at hv;subst hv;exact au rfl
  case array =>
   cases v<;>first|exact az|skip
   rw[cz] at hv;subst hv;refine aj (A:=Eq) (nO _ _ fun i a=>?_) (by rintro _ _ rfl;exact au rfl);refine aj (dj _) ?_;rintro m _ rfl;refine aj (jQ _ _ _) ?_;rintro x _ rfl;refine aj (ih _ _) ?_;rintro _ _ rfl;exact au rfl
  case struct =>
   cases v<;>first|exact az|skip
   rw[cz] at hv;subst hv;refine aj (A:=Eq) (xE _ _ fun i _ a=>?_) (by rintro _ _ rfl;exact au rfl);split
   ·refine aj (jQ _ _ _) ?_;rintro x _ rfl;refine aj (ih _ _) ?_;rintro _ _ rfl;exact au rfl
   ·exact au rfl
  all_goals exact au rfl
abbrev found(f:Rn):Option (Nat×Value)->Option (Nat×Value)->Prop:=fun a b=>b=a.map fun x=>(x.1,val f x.2)
theorem AE(hf:mC P f)(t:TypeId)(k:Value):∀(es:List MapEntry) (i:Nat),Rel P f (found f) (Instr.findAsking t k es i) (Instr.findAsking t (val f k) (es.map (entry f)) i):=by
 intro es
 induction es with
 |nil=>intro i;exact au rfl
 |cons e es ih =>
  intro i;simp only[List.map_cons,Instr.findAsking];refine aj (xF hf t k e.key) ?_;rintro b _ rfl;cases b
  ·exact ih _
  ·exact au rfl
theorem Gt(d:TypeDesc)(x y:Value):Instr.sameNow d (val f x) (val f y)=Instr.sameNow d x y:=by
 cases d<;>first|rfl|skip
 all_goals (cases x<;>simp only[cg,cy,bQ,bw,bC,aW,bt,cC,b7,b8,bB,bI,bj,cz,bL]<;>first|rfl|skip)
 all_goals (cases y<;>simp only[cg,cy,bQ,bw,bC,aW,bt,cC,b7,b8,bB,bI,bj,cz,bL]<;>rfl)
theorem Gv(d:TypeDesc)(k:Value):∀(es:List MapEntry) (i:Nat),Instr.findNow d (val f k) (es.map (entry f)) i=(Instr.findNow d k es i).map fun r=>r.map fun x=>(x.1,val f x.2):=by
 intro es
 induction es with
 |nil=>intro i;rfl
 |cons e es ih =>
  intro i;simp only[List.map_cons,Instr.findNow];have:Instr.sameNow d (val f k) (entry f e).key=Instr.sameNow d k e.key:=Gt d k e.key;rw[this];cases Instr.sameNow d k e.key with
  |none=>rfl
  |some b =>
   cases b
   ·exact ih _
   ·rfl
theorem sC(hf:mC P f)(t:TypeId)(k:Value)(es:List MapEntry):Rel P f (found f) (Instr.findKey t k es) (Instr.findKey t (val f k) (es.map (entry f))):=by
 refine aj (aY t) ?_;rintro d _ ⟨rfl,_⟩;rw[Gv];cases Instr.findNow d k es 0 with
 |none=>exact AE hf t k es 0
 |some r=>exact au rfl
theorem Jy(hf:mC P f)(t:TypeId)(x i:Value)(ok:Bool):Rel P f (V f) (Instr.lookup t x i ok) (Instr.lookup t (val f x) (val f i) ok):=by
 refine aj (aY t) ?_;rintro d _ ⟨rfl,_⟩;cases d<;>first|exact az|skip
 rename_i key elem _;have tail:∀es:Array MapEntry,Rel P f (V f) (do
   Instr.checkKey es.isEmpty 10000 key i
   let (v,ok') <- match <- Instr.findKey key i es.toList with
    |some (_,v)=>pure (v,true)
    |none=>pure (<- zeroValue elem,false)
   pure (if ok then .tuple #[v,.bool ok'] else v)) (do
   Instr.checkKey (es.map (entry f)).isEmpty 10000 key (val f i)
   let (v,ok') <- match <- Instr.findKey key (val f i) (es.map (entry f)).toList with
    |some (_,v)=>pure (v,true)
    |none=>pure (<- zeroValue elem,false)
   pure (if ok then .tuple #[v,.bool ok'] else v)):=by
  intro es;have e1:(es.map (entry f)).isEmpty=es.isEmpty:=by simp[Array.isEmpty]
  rw[e1];refine aj (oh hf _ _ _ _) ?_;rintro _ _ rfl;rw[bX];refine aj (sC hf key i es.toList) ?_;rintro r _ rfl;cases r with
  |some y =>
   refine au ?_;cases ok<;>simp[V]
  |none =>
   refine aj (gV hf elem) ?_;rintro z _ ⟨rfl,hz⟩;refine au ?_;cases ok<;>simp[V,hz]
 cases x<;>first|exact az|skip
 rename_i r;rw[cC];cases r with
 |none =>
  have h:=tail #[];rw[show(#[]:Array MapEntry).map (entry f)=#[] by simp] at h;exact h
 |some r =>
  refine aj (iP r) ?_;rintro o _ rfl;cases o<;>first|exact az|skip
  exact tail _
theorem yI(hf:mC P f)(a b:Option Addr):(a.map (addr f)==b.map (addr f))=(a==b):=by
 cases a<;>cases b<;>first|rfl|skip
 rename_i a b;have:=vO hf a b;simpa using this
theorem AF(hf:mC P f)(a b:Option Nat):(a.map f.b==b.map f.b)=(a==b):=by
 cases a<;>cases b<;>first|rfl|skip
 rename_i a b;have:=Dv hf a b;simpa using this
theorem EE(hf:mC P f):∀(n:Nat) (x y:Value),Instr.sameBits n (val f x) (val f y)=Instr.sameBits n x y:=by
 intro n
 induction n with
 |zero =>
  intro x y;cases x<;>simp only[cg,cy,bQ,bw,bC,aW,bt,cC,b7,b8,bB,bI,bj,cz,bL]<;>cases y<;>simp only[cg,cy,bQ,bw,bC,aW,bt,cC,b7,b8,bB,bI,bj,cz,bL,Instr.sameBits]
  ·rename_i a b;exact yI hf a b
  ·rename_i a b;exact AF hf a b
 |succ n ih =>
  intro x y;cases x<;>simp only[cg,cy,bQ,bw,bC,aW,bt,cC,b7,b8,bB,bI,bj,cz,bL]<;>cases y<;>simp only[cg,cy,bQ,bw,bC,aW,bt,cC,b7,b8,bB,bI,bj,cz,bL,Instr.sameBits,ih]
  ·rename_i a b;exact yI hf a b
  ·rename_i a b;exact AF hf a b
  ·rename_i a b;simp only[Array.size_map,Array.toList_map]
   congr 1
   generalize a.toList=l;generalize b.toList=m
   induction l generalizing m with
   |nil=>rfl
   |cons x l ZU =>
    cases m with
    |nil=>rfl
    |cons y m=>simp only[List.map_cons,List.zip_cons_cons,List.all_cons,ih,ZU]
theorem xJ(hf:mC P f)(a b:Value):Rel P f (V f) (Instr.keyThatStays a b) (Instr.keyThatStays (val f a) (val f b)):=by
 unfold Instr.keyThatStays;rw[EE hf];split
 ·exact au rfl
 ·refine aj (gZ _) ?_;rintro n _ rfl;refine au ?_;simp only[V];split<;>rfl
theorem uC(hf:mC P f)(t:TypeId)(m k v:Value):Rel P f (fun _ _=>True) (Instr.mapUpdate t m k v) (Instr.mapUpdate t (val f m) (val f k) (val f v)):=by
 refine aj (aY t) ?_;rintro d _ ⟨rfl,_⟩;cases d<;>first|exact az|skip
 cases m<;>first|exact az|skip
 rename_i r;rw[cC];cases r with
 |none=>exact bM hf _
 |some r =>
  refine aj (iP r) ?_;rintro o _ rfl;cases o<;>first|exact az|skip
  rename_i es clock;refine aj (oh hf _ _ _ _) ?_;rintro _ _ rfl;rw[bX];refine aj (sC hf _ k es.toList) ?_;rintro x _ rfl;cases x with
  |some y =>
   obtain⟨i,w⟩:=y;dsimp only[Option.map_some];refine aj (A:=V f) (by
    have:=xJ (P:=P) hf (((es[i]?).map (·.key)).getD k) k;rw[show val f (((es[i]?).map (·.key)).getD k)=((((es.map (entry f))[i]?).map (·.key)).getD (val f k)) by
     simp only[Array.getElem?_map];cases es[i]?<;>rfl] at this
    exact this) ?_
   rintro k2 _ rfl;refine oW r ?_ rfl;simp only[obj]
   congr 1
   apply iR;intro j;simp only[Array.getElem?_modify,Array.getElem?_map];split<;>cases es[j]?<;>rfl
  |none =>
   refine oW r ?_ rfl;simp only[obj,Array.map_push];rfl
theorem kN{c c':Prop}[Decidable c][Decidable c']{a b:Sem α}{a' b':Sem β}(hc:c↔c')(h1:c->Rel P f A a a')(h2:¬c->Rel P f A b b'):Rel P f A (if c then a else b) (if c' then a' else b'):=by
 by_cases h:c
 ·rw[if_pos h,if_pos (hc.1 h)];exact h1 h
 ·rw[if_neg h,if_neg (fun k=>h (hc.2 k))];exact h2 h
theorem uD{g g':Value->β->Sem (ForInStep β)}(xs:Array Value)(init:β)(h:∀x a,Rel P f Eq (g x a) (g' (val f x) a)):Rel P f Eq (forIn xs init g) (forIn (xs.map (val f)) init g'):=by
 rw[<- fj,<- fj,bX];generalize xs.toList=l
 induction l generalizing init with
 |nil=>simp only[List.map_nil,List.forIn_nil];exact au rfl
 |cons x l ih =>
  simp only[List.map_cons,List.forIn_cons];refine aj (h x init) ?_;rintro a _ rfl;cases a
  ·exact au rfl
  ·exact ih _
theorem pL(a:Addr):Rel P f (fun _ _=>True) (markStringish a) (markStringish (addr f a)):=by
 refine aj (A:=Eq) (gC a.block) ?_;rintro x _ rfl;split
 ·exact As _ _
 ·exact au trivial
theorem vT(e:TypeId)(s:ah):Rel P f (V f) (Conv.stringToBytes e s) (Conv.stringToBytes e s):=by
 refine aj (gZ _) ?_;rintro c _ rfl;dsimp only;refine aj (A:=AR f) (jG _ (by simp[Function.comp_def])) ?_;rintro a _ rfl;refine aj (pL a) ?_;rintro _ _ _;exact au (by simp[V])
theorem CJ(s:ah):∀(n i:Nat) (acc:Array Value),acc.map (val f)=acc->(Conv.runesFrom s n i acc).map (val f)=Conv.runesFrom s n i acc:=by
 intro n
 induction n with
 |zero=>intro i acc h;exact h
 |succ n ih =>
  intro i acc h;unfold Conv.runesFrom;split
  ·exact ih _ _ (by simp[Array.map_push,h])
  ·exact h
theorem vU(e:TypeId)(s:ah):Rel P f (V f) (Conv.stringToRunes e s) (Conv.stringToRunes e s):=by
 unfold Conv.stringToRunes;dsimp only;refine aj (gZ _) ?_;rintro c _ rfl;have h:=CJ (f:=f) s s.size 0 #[] an;refine aj (A:=AR f) (jG _ (by rw[fH,h];simp)) ?_;rintro a _ rfl;exact au (by simp[V])
theorem vV(x:Value):Rel P f (V f) (Conv.bytesToString x) (Conv.bytesToString (val f x)):=by
 cases x<;>first|exact az|skip
 rename_i a len cap;rw[bt];cases a with
 |none=>exact au (by simp[V])
 |some a =>
  unfold Conv.bytesToString;dsimp only[Option.map_some];refine aj (mU a len) ?_;rintro cs _ rfl;refine aj (A:=Eq) (uD _ _ fun c acc=>?_) ?_
  ·cases c<;>simp only[cg,cy,bQ,bw,bC,aW,bt,cC,b7,b8,bB,bI,bj,cz,bL]<;>first|exact az|skip
   rename_i k n;cases k<;>first|exact az|exact au rfl
  ·rintro s _ rfl;exact au (by simp[V])
theorem vW(x:Value):Rel P f (V f) (Conv.runesToString x) (Conv.runesToString (val f x)):=by
 cases x<;>first|exact az|skip
 rename_i a len cap;rw[bt];cases a with
 |none=>exact au (by simp[V])
 |some a =>
  unfold Conv.runesToString;dsimp only[Option.map_some];refine aj (mU a len) ?_;rintro cs _ rfl;refine aj (A:=Eq) (uD _ _ fun c acc=>?_) ?_
  ·cases c<;>simp only[cg,cy,bQ,bw,bC,aW,bt,cC,b7,b8,bB,bI,bj,cz,bL]<;>first|exact az|skip
   rename_i k n;cases k<;>first|exact az|exact au rfl
  ·rintro s _ rfl;exact au (by simp[V])
theorem Gw(r:Nat):Rel P f Eq (cellsIn r) (cellsIn (f.b r)):=by
 refine aj (gC r) ?_;rintro x _ rfl;split
 ·exact au rfl
 ·refine aj (iP r) ?_;rintro o _ rfl;cases o<;>exact au (by simp[obj])
theorem rP(a:Addr)(u:TypeId)(n:Nat):Rel P f Eq (variablesAt a u n) (variablesAt (addr f a) u n):=by
 refine aj dt ?_;rintro _ _ ⟨rfl,rfl⟩;refine aj (A:=Eq) (gC a.block) ?_;rintro x _ rfl;split<;>exact au rfl
theorem AG(a:Addr):Rel P f (AR f) (Conv.seenAt a) (Conv.seenAt (addr f a)):=by
 refine aj (qQ a.block) ?_;rintro x _ rfl;cases x with
 |none=>exact au rfl
 |some y =>
  obtain⟨s,u⟩:=y;dsimp only[Option.map_some];refine kN cG (fun _=>au rfl) (fun _=>?_);refine eG aT ?_;refine aj dt ?_;rintro _ _ ⟨rfl,rfl⟩;dsimp only[Am];cases byteOfCell P P.depth u a.off with
  |none=>exact aT
  |some β =>
   refine aj (A:=Eq) (gC s.block) ?_;rintro z _ rfl;rcases z with _|⟨e,cells⟩
   ·exact aT
   ·refine eG aT ?_;cases cellAtBytes P P.depth e (cells/P.cellsOf e) s.off β with
    |none=>exact aT
    |some c=>exact au rfl
theorem AH(src dst:TypeId)(x:Value):Rel P f (V f) (Conv.unsafePointer src dst x) (Conv.unsafePointer src dst (val f x)):=by
 refine aj (aY src) ?_;rintro u _ ⟨rfl,_⟩;refine aj (aY dst) ?_;rintro w _ ⟨rfl,_⟩;obtain⟨x',hx⟩:∃x',x'=val f x:=⟨_,rfl⟩;rw[<- hx];cases u<;>first|exact az|skip
 case pointer t =>
  cases w<;>first|exact az|skip
  cases x<;>first|exact az|skip
  rename_i a;rw[aW] at hx;subst hx;cases a with
  |none=>exact au (by simp[V])
  |some a =>
   dsimp only[Option.map_some];refine aj (AG a) ?_;rintro s _ rfl;refine aj (Gw s.block) ?_;rintro c _ rfl;refine aj (dj _) ?_;rintro n _ rfl;refine kN cG (fun _=>?_) (fun _=>au (by simp[V]));refine aj (A:=fun r r'=>r'=f.b r) (lC rfl rfl) ?_;rintro r _ rfl;exact au (by simp[V])
 case unsafePointer =>
  cases w<;>first|exact az|skip
  case pointer t =>
   cases x<;>first|exact az|skip
   rename_i a;rw[aW] at hx;subst hx;cases a with
   |none=>exact au (by simp[V])
   |some a =>
    dsimp only[Option.map_some];refine aj (AG a) ?_;rintro s _ rfl;refine aj (dj _) ?_;rintro n _ rfl;refine aj (rP s _ 1) ?_;rintro b _ rfl;refine kN cG (fun _=>au (by simp[V])) (fun _=>?_);refine aj (A:=Eq) (gC s.block) ?_;rintro z _ rfl;rcases z with _|⟨e,cells⟩
    ·exact aT
    ·dsimp only;refine aj dt ?_;rintro _ _ ⟨rfl,rfl⟩;refine aj dt ?_;rintro _ _ ⟨rfl,rfl⟩;refine eG aT ?_;refine aj (A:=fun r r'=>r'=f.b r) (lC rfl rfl) ?_;rintro r _ rfl;exact au (by simp[V])
  case unsafePointer =>
   cases x<;>first|exact az|skip
   rw[aW] at hx;subst hx;exact au (by simp[V])
  case int k =>
   cases x<;>first|exact az|skip
   rename_i a;rw[aW] at hx;subst hx;cases a with
   |none=>exact au (by simp[V])
   |some a=>exact vR a false
 case int =>
  cases w<;>first|exact az|skip
  cases x<;>first|exact az|skip
  ·rename_i k n;rcases n with(_|_)|_<;>exact aT
  ·rename_i a;cases a<;>first|exact az|exact aT
theorem zw(k:FloatKind)(b:Nat)(d:IntKind):Calm P Plain (Conv.floatToInt k b d):=by
 unfold Conv.floatToInt;dsimp only;split
 ·split
  ·exact fun g=>an
  ·exact fun n g=>an
 ·exact fun n g=>an
theorem Pm(k:FloatKind)(a b:Nat)(d:FloatKind):Calm P Plain (Conv.complexToComplex k a b d):=by
 refine dR (j0 _ _ _) ?_;rintro _ ⟨k,r,rfl⟩;refine dR (j0 _ _ _) ?_;rintro _ ⟨k,r,rfl⟩;exact fun g=>an
theorem Gx(hf:mC P f)(src dst:TypeId)(x:Value):Rel P f (V f) (convert src dst x) (convert src dst (val f x)):=by
 obtain⟨x',hx⟩:∃x',x'=val f x:=⟨_,rfl⟩;rw[<- hx];unfold convert;refine aj (aY src) ?_;rintro u _ ⟨rfl,_⟩;refine aj (aY dst) ?_;rintro w _ ⟨rfl,_⟩;have conv:Rel P f (V f) (Conv.unsafePointer src dst x) (Conv.unsafePointer src dst x'):=by rw[hx];exact AH src dst x
 have hb:Rel P f (V f) (Conv.bytesToString x) (Conv.bytesToString x'):=by rw[hx];exact vV x
 have hr:Rel P f (V f) (Conv.runesToString x) (Conv.runesToString x'):=by rw[hx];exact vW x
 cases w
 case unsafePointer=>cases u<;>exact conv
 case int =>
  cases x<;>(simp only[cg,cy,bQ,bw,bC,aW,bt,cC,b7,b8,bB,bI,bj,cz,bL] at hx;subst hx)
  case int=>exact au (by simp[V])
  case float=>exact oO (zw _ _ _)
  case pointer a=>cases a<;>cases u<;>first|exact aT|exact conv
  all_goals (cases u<;>first|exact aT|exact conv)
 case float =>
  cases x<;>(simp only[cg,cy,bQ,bw,bC,aW,bt,cC,b7,b8,bB,bI,bj,cz,bL] at hx;subst hx)
  case int=>exact au (by simp[V])
  case float=>exact oO (xI (j0 _ _ _) (by rintro _ ⟨k,r,rfl⟩ g;simp))
  case pointer a=>cases a<;>cases u<;>first|exact aT|exact conv
  all_goals (cases u<;>first|exact aT|exact conv)
 case complex =>
  cases x<;>(simp only[cg,cy,bQ,bw,bC,aW,bt,cC,b7,b8,bB,bI,bj,cz,bL] at hx;subst hx)
  case complex=>exact oO (Pm _ _ _ _)
  case pointer a=>cases a<;>cases u<;>first|exact aT|exact conv
  all_goals (cases u<;>first|exact aT|exact conv)
 case string =>
  cases x<;>(simp only[cg,cy,bQ,bw,bC,aW,bt,cC,b7,b8,bB,bI,bj,cz,bL] at hx;subst hx)
  case int=>exact au (by simp[V])
  case string=>exact au (by simp[V])
  case pointer a =>
   cases a<;>cases u<;>first|exact aT|exact conv|skip
   all_goals
    refine aj (aY _) ?_;rintro d _ ⟨rfl,_⟩;cases d<;>first|exact az|skip
    rename_i k _;cases k<;>first|exact az|exact hb|exact hr
  all_goals
   cases u<;>first|exact aT|exact conv|skip
   refine aj (aY _) ?_;rintro d _ ⟨rfl,_⟩;cases d<;>first|exact az|skip
   rename_i k _;cases k<;>first|exact az|exact hb|exact hr
 case slice e =>
  cases x<;>(simp only[cg,cy,bQ,bw,bC,aW,bt,cC,b7,b8,bB,bI,bj,cz,bL] at hx;subst hx)
  case string s =>
   refine aj (aY _) ?_;rintro d _ ⟨rfl,_⟩;cases d<;>first|exact az|skip
   rename_i k _;cases k<;>first|exact az|exact vT _ s|exact vU _ s
  case slice a len cap =>
   cases a with
   |none=>cases u<;>first|exact aT|exact conv
   |some a =>
    cases u<;>first|exact aT|exact conv|skip
    refine aj (aY _) ?_;rintro d _ ⟨rfl,_⟩;cases hsd:src==dst
    ·exact aT
    ·cases d<;>first|exact aT|skip
     rename_i k _;cases k<;>first|exact aT|skip
     refine aj (pL a) ?_;rintro _ _ _;exact au (by simp[V])
  case pointer a=>cases a<;>cases u<;>first|exact aT|exact conv
  all_goals (cases u<;>first|exact aT|exact conv)
 all_goals
  cases x<;>(simp only[cg,cy,bQ,bw,bC,aW,bt,cC,b7,b8,bB,bI,bj,cz,bL] at hx;subst hx)
  case pointer a=>cases a<;>cases u<;>first|exact aT|exact conv
  all_goals (cases u<;>first|exact aT|exact conv)
theorem Tj(ts:Array TypeId)(t:TypeId)(args:Array Value):Rel P f (V f) (Builtin.len_ ts t args) (Builtin.len_ ts t (args.map (val f))):=by
 unfold Builtin.len_;rw[br];cases ts[0]? with
 |none=>exact az
 |some u =>
  cases args[0]? with
  |none=>exact az
  |some x =>
   obtain⟨x',hx⟩:∃x',x'=val f x:=⟨_,rfl⟩;dsimp only[Option.map_some];rw[<- hx];refine aj (aY u) ?_;rintro d _ ⟨rfl,_⟩;cases d<;>first|exact az|skip
   case string =>
    cases x<;>first|exact az|skip
    rw[bC] at hx;subst hx;exact au (by simp[V,goInt])
   case array=>exact au (by simp[V,goInt])
   case pointer =>
    refine aj (aY _) ?_;rintro d _ ⟨rfl,_⟩;cases d<;>first|exact az|exact au (by simp[V,goInt])
   case slice =>
    cases x<;>first|exact az|skip
    rw[bt] at hx;subst hx;exact au (by simp[V,goInt])
   case map =>
    cases x<;>first|exact az|skip
    rename_i r;rw[cC] at hx;subst hx;cases r with
    |none=>exact au (by simp[V,goInt])
    |some r =>
     refine aj (iP r) ?_;rintro o _ rfl;cases o<;>first|exact az|exact au (by simp[V,goInt])
   case chan =>
    cases x<;>first|exact az|skip
    rename_i r;rw[b7] at hx;subst hx;cases r with
    |none=>exact au (by simp[V,goInt])
    |some r =>
     refine aj (iP r) ?_;rintro o _ rfl;cases o<;>first|exact az|exact au (by simp[V,goInt])
theorem Tk(ts:Array TypeId)(t:TypeId)(args:Array Value):Rel P f (V f) (Builtin.cap_ ts t args) (Builtin.cap_ ts t (args.map (val f))):=by
 unfold Builtin.cap_;rw[br];cases ts[0]? with
 |none=>exact az
 |some u =>
  cases args[0]? with
  |none=>exact az
  |some x =>
   obtain⟨x',hx⟩:∃x',x'=val f x:=⟨_,rfl⟩;dsimp only[Option.map_some];rw[<- hx];refine aj (aY u) ?_;rintro d _ ⟨rfl,_⟩;cases d<;>first|exact az|skip
   case array=>exact au (by simp[V,goInt])
   case pointer =>
    refine aj (aY _) ?_;rintro d _ ⟨rfl,_⟩;cases d<;>first|exact az|exact au (by simp[V,goInt])
   case slice =>
    cases x<;>first|exact az|skip
    rw[bt] at hx;subst hx;exact au (by simp[V,goInt])
   case chan =>
    cases x<;>first|exact az|skip
    rename_i r;rw[b7] at hx;subst hx;cases r with
    |none=>exact au (by simp[V,goInt])
    |some r =>
     refine aj (iP r) ?_;rintro o _ rfl;cases o<;>first|exact az|exact au (by simp[V,goInt])
theorem Dx(x:Value):Rel P f Eq (Builtin.lenOf x) (Builtin.lenOf (val f x)):=by
 cases x<;>simp only[cg,cy,bQ,bw,bC,aW,bt,cC,b7,b8,bB,bI,bj,cz,bL]<;>first|exact az|exact au rfl
theorem oX(s n:Nat)(x:Value):Rel P f (VS f) (Builtin.firstCells s n x) (Builtin.firstCells s n (val f x)):=by
 cases x<;>simp only[cg,cy,bQ,bw,bC,aW,bt,cC,b7,b8,bB,bI,bj,cz,bL]<;>first|exact az|skip
 ·exact au (by simp[VS,Function.comp_def])
 ·rename_i a _ _;cases a with
  |none=>exact au (by simp[VS])
  |some a=>exact mU _ _
theorem Pn(ts:Array TypeId)(t:TypeId)(args:Array Value):Rel P f (V f) (Builtin.copy_ ts t args) (Builtin.copy_ ts t (args.map (val f))):=by
 unfold Builtin.copy_;rw[br,br];cases ts[0]? with
 |none=>exact az
 |some u =>
  cases args[0]? with
  |none=>exact az
  |some x =>
   cases args[1]? with
   |none=>exact az
   |some y =>
    dsimp only[Option.map_some];refine aj (aY u) ?_;rintro d _ ⟨rfl,_⟩;cases d<;>first|exact az|skip
    cases x<;>first|exact az|skip
    rename_i a dl _;rw[bt];refine aj (Dx y) ?_;rintro n _ rfl;refine aj (dj _) ?_;rintro m _ rfl;refine aj (oX _ _ y) ?_;rintro cs _ rfl;cases a with
    |none=>exact au (by simp[V,goInt])
    |some a =>
     dsimp only[Option.map_some];rw[bX];refine aj (kz a _ 0) ?_;rintro _ _ _;exact au (by simp[V,goInt])
theorem sD(a:Addr)(n:Nat):Rel P f Eq (Builtin.holdsCells a n) (Builtin.holdsCells (addr f a) n):=by
 refine aj (A:=Eq) (gC a.block) ?_;rintro x _ rfl;split<;>exact au rfl
theorem pY{z:Array Value}(hz:z.map (val f)=z)(n:Nat):(Builtin.zeroCells z n).map (val f)=Builtin.zeroCells z n:=qk hz _
theorem EF(hf:mC P f)(s l n:Nat)(b:Option Addr)(x:Value):Rel P f Eq (Builtin.mayShare s l n b x) (Builtin.mayShare s l n (b.map (addr f)) (val f x)):=by
 have tail:∀t:Bool,Rel P f Eq (do
   if !t then return true
   match x with
   | .slice (some c) _ _=>do pure (!(<- Builtin.holdsCells c (n*s))||b.any (·.block==c.block))
   |_=>pure false) (do
   if !t then return true
   match val f x with
   | .slice (some c) _ _=>do pure (!(<- Builtin.holdsCells c (n*s))||(b.map (addr f)).any (·.block==c.block))
   |_=>pure false):=by
  intro t;cases t
  ·exact au rfl
  ·cases x<;>simp only[cg,cy,bQ,bw,bC,aW,bt,cC,b7,b8,bB,bI,bj,cz,bL]<;>first|exact au rfl|skip
   rename_i c _ _;cases c with
   |none=>exact au rfl
   |some c =>
    refine aj (sD c _) ?_;rintro h _ rfl;refine au ?_;cases b with
    |none=>rfl
    |some b=>simp[Dv hf]
 unfold Builtin.mayShare;cases b with
 |none=>exact tail true
 |some a =>
  dsimp only[Option.map_some];refine aj (sD a _) ?_;rintro h _ rfl;rw[<- jP];refine aj (oV _) ?_;rintro z _ rfl;exact tail _
def zR(e1:RuntimeError)(u:String)(elem:TypeId)(base:Option Addr)(kU ng size:Nat)(s x:Value)(lU:Bool)(n:Nat):Sem Value:=do
 let Gy:Sem (Array Value) :=
  if !lU then Builtin.firstCells size n x
  else if n*size=0 then pure #[]
  else do pure (Builtin.zeroCells (<- zeroValue elem).cells n)
 let ua:=kU+n
 if ua<=ng then
  let new <- Gy
  if let some a:=base then storeCells (a.add (kU*size)) new.toList
  pure (.slice base ua ng)
 else
  if (ua:Int)>IntKind.i64.max/\(lU\/(<- typeInfo elem).bytes=0) then runtimePanic e1
  if Builtin.nextslicecap ua ng*(<- typeInfo elem).bytes>2^48 then(if lU then runtimePanic e1 else do
   if !(<- Builtin.mayShare size kU n base x) then mark .noRoom
   unsupported (.resourceLimit u))
  let oY <- choose (.appendCap ua ng elem)
  askRoom (oY*(<- typeInfo elem).bytes)
  let old <- Builtin.firstCells size kU s;let new <- Gy;let rest:=Builtin.zeroCells (<- zeroValue elem).cells (oY-ua)
  pure (.slice (some (<- newRow elem (old++new++rest))) ua oY)
def EG(e0 e1:RuntimeError)(q:Question)(e2:Nat->RuntimeError)(u:String)(elem:TypeId)(base:Option Addr)(kU ng size:Nat)(s x:Value)(lU:Bool):Sem Value:=do
 let n <- if lU then do
   let l:=IntKind.i64.wrap (<- asInt x)
   if l<0 then runtimePanic e0
   if l*(<- typeInfo elem).bytes>2^48 then
    let made <- choose q
    runtimePanic (e2 made)
   pure l.toNat
  else Builtin.lenOf x
 zR e1 u elem base kU ng size s x lU n
theorem yJ(hf:mC P f)(e1:RuntimeError)(h1:qP e1=true)(u:String)(elem:TypeId)(base:Option Addr)(kU ng size:Nat)(x:Value)(lU:Bool)(n:Nat):
  Rel P f (V f) (zR e1 u elem base kU ng size (.slice base kU ng) x lU n) (zR e1 u elem (base.map (addr f)) kU ng size (.slice (base.map (addr f)) kU ng) (val f x) lU n):=by
 have app:Rel P f (VS f) (if !lU then Builtin.firstCells size n x else if n*size=0 then pure #[] else do pure (Builtin.zeroCells (<- zeroValue elem).cells n))
   (if !lU then Builtin.firstCells size n (val f x) else if n*size=0 then pure #[] else do pure (Builtin.zeroCells (<- zeroValue elem).cells n)):=by
  cases lU
  ·exact oX _ _ _
  ·refine kN cG (fun h=>(by cases h)) (fun _=>?_);refine kN cG (fun _=>au (by simp[VS])) (fun _=>?_);refine aj (gV hf _) ?_;rintro z _ ⟨rfl,hz⟩;exact au (by simp only[VS];rw[pY (by rw[<- jT,hz])])
 unfold zR;dsimp only;refine kN cG (fun _=>?_) (fun _=>?_)
 ·refine aj app ?_;rintro new _ rfl;cases base with
  |none=>exact au (by simp[V])
  |some a =>
   dsimp only[Option.map_some];rw[bX,<- jP];refine aj (kz _ _ 0) ?_;rintro _ _ _;exact au (by simp[V])
 ·refine aj (eQ _) ?_;rintro i _ ⟨rfl,_⟩;refine eG (bM hf _ h1) ?_;refine aj (eQ _) ?_;rintro i2 _ ⟨rfl,_⟩;have rest:Rel P f (V f) (do
    let oY <- choose (.appendCap (kU+n) ng elem)
    askRoom (oY*(<- typeInfo elem).bytes)
    let old <- Builtin.firstCells size kU (.slice base kU ng);let new <- (if !lU then Builtin.firstCells size n x else if n*size=0 then pure #[] else do pure (Builtin.zeroCells (<- zeroValue elem).cells n));let rest:=Builtin.zeroCells (<- zeroValue elem).cells (oY-(kU+n))
    pure (.slice (some (<- newRow elem (old++new++rest))) (kU+n) oY)) (do
    let oY <- choose (.appendCap (kU+n) ng elem)
    askRoom (oY*(<- typeInfo elem).bytes)
    let old <- Builtin.firstCells size kU (.slice (base.map (addr f)) kU ng);let new <- (if !lU then Builtin.firstCells size n (val f x) else if n*size=0 then pure #[] else do pure (Builtin.zeroCells (<- zeroValue elem).cells n));let rest:=Builtin.zeroCells (<- zeroValue elem).cells (oY-(kU+n))
    pure (.slice (some (<- newRow elem (old++new++rest))) (kU+n) oY)):=by
   refine aj (gZ _) ?_;rintro c _ rfl;refine aj (eQ _) ?_;rintro i _ ⟨rfl,_⟩;refine aj (sw _) ?_;rintro _ _ _;refine aj (A:=VS f) (by have:=oX (P:=P) (f:=f) size kU (.slice base kU ng);rwa[bt] at this) ?_;rintro old _ rfl;refine aj app ?_;rintro new _ rfl;refine aj (gV hf _) ?_;rintro z _ ⟨rfl,hz⟩;refine aj (A:=AR f) (jG _ (by rw[fH,fH,pY (by rw[<- jT,hz])])) ?_;rintro a _ rfl;exact au (by simp[V])
  refine kN cG (fun _=>?_) (fun _=>rest);cases lU
  ·refine aj (A:=fun _ _=>False) ?_ (fun _ _ h=>h.elim);refine aj (EF hf _ _ _ _ _) ?_;rintro b _ rfl;cases b
   ·exact vJ Au aT
   ·exact aT
  ·exact aj (A:=fun _ _=>False) (bM hf _ h1) (fun _ _ h=>h.elim)
theorem yK(hf:mC P f)(e0 e1:RuntimeError)(q:Question)(e2:Nat->RuntimeError)(h0:qP e0=true)(h1:qP e1=true)(h2:∀n,qP (e2 n)=true)(u:String)(elem:TypeId)(base:Option Addr)(kU ng size:Nat)(x:Value)(lU:Bool):
  Rel P f (V f) (EG e0 e1 q e2 u elem base kU ng size (.slice base kU ng) x lU) (EG e0 e1 q e2 u elem (base.map (addr f)) kU ng size (.slice (base.map (addr f)) kU ng) (val f x) lU):=by
 unfold EG;cases lU
 ·refine aj (Dx x) ?_;rintro n _ rfl;exact yJ hf _ h1 _ _ _ _ _ _ _ _ _
 ·dsimp only;refine kN cG (fun _=>?_) (fun h=>absurd rfl h);refine aj (mD x) ?_;rintro n _ rfl;refine eG (bM hf _ h0) ?_;refine aj (eQ _) ?_;rintro i _ ⟨rfl,_⟩;refine kN cG (fun _=>?_) (fun _=>?_)
  ·refine aj (gZ _) ?_;rintro m _ rfl;exact aj (A:=fun _ _=>False) (bM hf _ (h2 _)) (fun _ _ h=>h.elim)
  ·exact yJ hf _ h1 _ _ _ _ _ _ _ _ _
theorem Jz(hf:mC P f)(ts:Array TypeId)(t:TypeId)(args:Array Value):Rel P f (V f) (Builtin.append_ ts t args) (Builtin.append_ ts t (args.map (val f))):=by
 unfold Builtin.append_;rw[br,br];cases ts[0]? with
 |none=>exact az
 |some u =>
  cases args[0]? with
  |none=>exact az
  |some s =>
   cases args[1]? with
   |none=>exact az
   |some x =>
    refine aj (aY u) ?_;rintro d _ ⟨rfl,_⟩;cases d<;>first|exact az|skip
    cases s<;>first|exact az|skip
    rename_i elem _ base kU ng;show Rel P f (V f) _ (match val f (.slice base kU ng) with|.slice base kU ng=>_|_=>_);rw[bt];refine aj (dj _) ?_;rintro size _ rfl;cases ts[1]? with
    |none=>exact yK hf .nilDeref _ .zeroSizeEq (fun _=>.nilDeref) rfl rfl (fun _=>rfl) _ elem base kU ng size x false
    |some xt =>
     refine aj (aY xt) ?_;rintro d _ ⟨rfl,_⟩;refine aj (A:=Eq) (au rfl) ?_;rintro z _ rfl;exact yK hf _ _ _ _ rfl rfl (fun _=>rfl) _ elem base kU ng size x z
theorem Po(x y:Value):Rel P f (V f) (Builtin.min2 x y) (Builtin.min2 (val f x) (val f y)):=by
 cases x
 case int =>
  cases y<;>simp only[cg,cy,bQ,bw,bC,aW,bt,cC,b7,b8,bB,bI,bj,cz,bL]<;>first|exact az|exact au (by simp[V])|skip
  rename_i a;cases a<;>first|exact az|exact aT
 case float =>
  cases y<;>simp only[cg,cy,bQ,bw,bC,aW,bt,cC,b7,b8,bB,bI,bj,cz,bL]<;>first|exact az|skip
  ·refine oO ?_;unfold Builtin.min2;rename_i k a k' b;dsimp only;generalize k.format.order a b=o;rcases o with _|(_|_|_)
   ·exact fun n g=>an
   all_goals exact fun g=>an
  ·rename_i a;cases a<;>first|exact az|exact aT
 case string =>
  cases y<;>simp only[cg,cy,bQ,bw,bC,aW,bt,cC,b7,b8,bB,bI,bj,cz,bL]<;>first|exact az|skip
  ·refine aj (vQ _ _ _) ?_;rintro v _ rfl;refine aj (Av v) ?_;rintro b _ rfl;exact au (by simp[V])
  ·rename_i a;cases a<;>first|exact az|exact aT
 case pointer a =>
  rw[aW];cases a with
  |none =>
   cases y<;>first|exact az|skip
   rename_i b;cases b<;>first|exact az|exact aT
  |some a=>cases y<;>exact aT
 all_goals
  cases y<;>first|exact az|skip
  rename_i b;cases b<;>first|exact az|exact aT
theorem Tl(ts:Array TypeId)(t:TypeId)(args:Array Value):Rel P f (V f) (Builtin.min_ ts t args) (Builtin.min_ ts t (args.map (val f))):=by
 unfold Builtin.min_;rw[bX];cases args.toList with
 |nil=>exact az
 |cons x l =>
  simp only[List.map_cons]
  induction l generalizing x with
  |nil=>exact au rfl
  |cons y l ih =>
   simp only[List.map_cons,List.foldlM_cons];refine aj (Po x y) ?_;rintro z _ rfl;exact ih z
theorem CK:∀(n:Nat) (a:Addr) (acc:ah),Rel P f Eq (loadBytes a acc n) (loadBytes (addr f a) acc n):=by
 intro n
 induction n with
 |zero=>intro a acc;exact au rfl
 |succ n ih =>
  intro a acc;unfold loadBytes;refine aj (vI a) ?_;rintro v _ rfl;cases v<;>simp only[cg,cy,bQ,bw,bC,aW,bt,cC,b7,b8,bB,bI,bj,cz,bL]<;>first|exact az|skip
  rename_i k b;cases k<;>first|exact az|skip
  rw[<- jP];exact ih _ _
theorem ub(ts:Array TypeId)(t:TypeId)(x:Value):Rel P f (V f) (Builtin.unsafeSliceData_ ts t #[x]) (Builtin.unsafeSliceData_ ts t #[val f x]):=by
 cases x<;>first|exact az|skip
 rename_i a len c;rw[bt];cases a with
 |none=>exact au (by simp[V])
 |some a =>
  show Rel P f (V f) (if c≠0 then _ else _) (if c≠0 then _ else _);refine kN cG (fun _=>au (by simp[V])) (fun _=>?_);refine aj (qQ a.block) ?_;rintro v _ rfl;refine kN an (fun _=>au (by simp[V])) (fun _=>?_);refine aj (vc t) ?_;rintro e _ rfl;refine aj (A:=fun r r'=>r'=f.b r) (lC rfl rfl) ?_;rintro r _ rfl;exact au (by simp[V])
theorem xK(hf:mC P f)(ts:Array TypeId)(t:TypeId)(x y:Value):Rel P f (V f) (Builtin.unsafeString_ ts t #[x,y]) (Builtin.unsafeString_ ts t #[val f x,val f y]):=by
 cases x<;>first|exact az|skip
 rename_i a;rw[aW];refine aj (mD y) ?_;rintro n _ rfl;cases ts[0]? with
 |none=>exact az
 |some pt =>
  refine eG (bM hf _) ?_;refine eG aT ?_;cases a with
  |none=>exact kN cG (fun _=>au (by simp[V])) (fun _=>bM hf _)
  |some a =>
   refine kN cG (fun _=>au (by simp[V])) (fun _=>?_);refine aj (vc pt) ?_;rintro e _ rfl;refine aj (rP a e _) ?_;rintro b _ rfl;cases b
   ·exact aT
   ·refine aj (CK _ a _) ?_;rintro s _ rfl;refine aj (As a _) ?_;rintro _ _ _;exact au (by simp[V])
end
def iI(L:Nat->Bool)(f:Rn):Next->Next->Prop
 | .value v,.value v'=>v'=val f v
 | .skip,.skip=>True
 | .enter g args,.enter g' Vs=>g'=g/\L g=true/\Vs=args.map (val f)
 |_,_=>False
def xL(c:Call):Builtin->Bool
 | .append|.cap|.clear|.copy|.delete|.len|.min=>true
 | .unsafeString=>c.args.size==2
 | .unsafeSliceData=>c.args.size==1
 |_=>false
def JA(c:Call):Bool :=
 match c.callee with
 | .builtin b=>xL c b
 | .value _=>true
 | .invoke ..=>false
def sE(L:Nat->Bool):Op->Bool
 | .move _|.assign _|.pick .. | .alloc _|.box .. | .build .. | .buildSlice .. | .load .. | .store .. | .nilCheck _|.binOp .. | .unOp .. | .convert .. | .makeInterface .. | .makeMap .. | .makeChan .. | .makeSlice .. | .slice .. | .fieldAddr .. | .field .. | .indexAddr .. | .index .. | .lookup .. | .mapUpdate .. | .insert .. | .extract .. | .panic ..=>true
 | .makeFunc (.func n) _ _=>L n
 | .call c=>JA c
 |_=>false
section
variable {P:Program} {f:Rn}
theorem sF{s s':Sem Unit}(h:Rel P f (fun _ _=>True) s s'):Rel P f (V f) (do s;pure (.tuple #[])) (do s';pure (.tuple #[])):=aj h (fun _ _ _=>au (by simp[V]))
theorem JB(hf:mC P f)(ts:Array TypeId)(t:TypeId)(args:Array Value):Rel P f (V f) (Builtin.delete_ ts t args) (Builtin.delete_ ts t (args.map (val f))):=by
 unfold Builtin.delete_;simp only[Array.getElem?_map];cases h0:ts[0]? with
 |none=>exact az
 |some mt =>
  cases h1:args[0]? with
  |none=>exact az
  |some m =>
   cases h2:args[1]? with
   |none=>exact az
   |some k =>
    simp only[Option.map_some];refine aj (aY mt) ?_;rintro d _ ⟨rfl,_⟩;cases d<;>first|exact az|skip
    cases m<;>first|exact az|skip
    rename_i r;rw[cC];cases r with
    |none=>exact sF (FZ (oh hf _ _ _ _) (fun _ _ _=>trivial))
    |some r =>
     refine aj (iP r) ?_;rintro o _ rfl;cases o<;>first|exact az|skip
     rename_i es clock;simp only[obj];rw[show(Array.map (entry f) es).isEmpty=es.isEmpty by simp[Array.isEmpty]];refine aj (oh hf _ _ _ _) ?_;rintro _ _ rfl;rw[bX];refine aj (sC hf _ k es.toList) ?_;rintro x _ rfl;cases x with
     |some y =>
      obtain⟨i,w⟩:=y;dsimp only[Option.map_some];refine sF (oW r ?_ rfl);simp only[obj]
      congr 1
      unfold Array.eraseIdxIfInBounds;simp only[Array.size_map];split
      ·rename_i hi;apply Array.ext';simp only[Array.toList_eraseIdx,Array.toList_map];clear hi;generalize es.toList=l
       induction l generalizing i with
       |nil=>rfl
       |cons x l ih=>cases i with
        |zero=>rfl
        |succ i=>simp only[List.map_cons,List.eraseIdx_cons_succ,ih]
      ·rfl
     |none =>
      refine sF (oW r ?_ rfl);rfl
theorem MQ(hf:mC P f)(ts:Array TypeId)(t:TypeId)(args:Array Value):Rel P f (V f) (Builtin.clear_ ts t args) (Builtin.clear_ ts t (args.map (val f))):=by
 unfold Builtin.clear_;simp only[Array.getElem?_map];cases h0:ts[0]? with
 |none=>exact az
 |some mt =>
  cases h1:args[0]? with
  |none=>exact az
  |some m =>
   simp only[Option.map_some];refine aj (aY mt) ?_;rintro d _ ⟨rfl,_⟩;cases m<;>first|(cases d<;>exact az)|skip
   ·rename_i a n c;rw[bt];cases a with
    |none=>cases d<;>exact au (by simp[V])
    |some a =>
     cases n with
     |zero=>cases d<;>exact au (by simp[V])
     |succ n =>
      cases d<;>first|exact az|skip
      simp only[Option.map_some];refine aj (gV hf _) ?_;rintro z _ ⟨rfl,hz⟩;have:=kz (P:=P) (f:=f) a (Builtin.zeroCells z.cells (n+1)).toList 0;rw[<- bX,pY (by rw[<- jT,hz])] at this;exact sF this
   ·rename_i r;rw[cC];cases r with
    |none=>cases d<;>exact au (by simp[V])
    |some r =>
     cases d;all_goals
      refine aj (iP r) ?_;rintro o _ rfl;cases o<;>first|exact az|skip
      exact sF (oW r (by simp[obj]) rfl)
end
section
variable {P:Program} {f:Rn} {L:Nat->Bool} {ρ ρ':Operand->Value}
theorem hJ{s s':Sem Value}(h:Rel P f (V f) s s'):Rel P f (iI L f) (do pure (.value (<- s))) (do pure (.value (<- s'))):=aj h (by rintro v _ rfl;exact au rfl)
theorem Pp{s s':Sem Unit}(h:Rel P f (fun _ _=>True) s s'):Rel P f (iI L f) (do s;pure .skip) (do s';pure .skip):=aj h (fun _ _ _=>au trivial)
theorem AI(hf:mC P f)(hL:∀n,L n=true->f.h n=n)(hC:∀n,L n=true->∀args,Rel P f (iI L f) (callFunc n args) (callFunc n (args.map (val f))))(o:Oper)(ja:sE L o.op=true)(om:∀x∈o.op.operands,ρ' x=val f (ρ x))(pZ:∀x∈o.op.operands,∀g a b,ρ x=.func g a b->∃n,g=.func n/\L n=true):
  Rel P f (iI L f) (execOp ρ o) (execOp ρ' o):=by
 obtain⟨dst,op,ty,pos,after,guard⟩:=o;cases op<;>first|exact Bool.noConfusion ja|skip
 all_goals simp only[Op.operands,Array.mem_append,List.mem_toArray,List.mem_cons,List.not_mem_nil,or_false,Option.mem_toArray,forall_eq_or_imp,forall_eq] at om pZ
 case move x=>simp only[execOp];exact au (by simp only[iI];exact om)
 case assign x=>simp only[execOp];exact au (by simp only[iI];exact om)
 case pick c a b =>
  simp only[execOp,om.1,om.2.1,om.2.2];refine aj (Av _) ?_;rintro t _ rfl;exact au (by simp only[iI];split<;>rfl)
 case alloc e=>exact hJ (MH hf e)
 case box e x=>simp only[execOp,om];exact hJ (Ti e _)
 case load t a=>simp only[execOp,om];exact hJ (Jt t _)
 case store t a x=>simp only[execOp,om.1,om.2];exact Pp (Gg t _ _)
 case binOp op t x y g =>
  simp only[execOp,om.1,om.2];refine hJ ?_;exact vJ (Gp _ _ _ _ _ _) (MP hf _ _ _ _)
 case unOp op t x=>simp only[execOp,om];exact hJ (MN _ _)
 case convert s d x=>simp only[execOp,om];exact hJ (Gx hf _ _ _)
 case makeInterface t x=>simp only[execOp,om];exact hJ (vN _ _)
 case makeChan t x=>simp only[execOp,om];exact hJ (Ez hf _ _)
 case makeSlice t l c=>simp only[execOp,om.1,om.2];exact hJ (CH hf _ _ _)
 case fieldAddr s x i=>simp only[execOp,om];exact hJ (Gh _ _ _)
 case field s x i=>simp only[execOp,om];exact hJ (MK _ _ _)
 case indexAddr t x i=>simp only[execOp,om.1,om.2];exact hJ (Gi hf _ _ _)
 case index t x i=>simp only[execOp,om.1,om.2];exact hJ (ML hf _ _ _)
 case lookup t x i ok=>simp only[execOp,om.1,om.2];exact hJ (Jy hf _ _ _ _)
 case mapUpdate t m k v=>simp only[execOp,om.1,om.2.1,om.2.2];exact Pp (uC hf _ _ _ _)
 case insert t m k v=>simp only[execOp,om.1,om.2.1,om.2.2];exact Pp (uC hf _ _ _ _)
 case extract t i=>simp only[execOp,om];exact hJ (Gl _ _)
 case panic x=>simp only[execOp,om];exact hJ (MM hf _)
 case makeMap t r =>
  simp only[execOp];refine hJ ?_;have e:r.map ρ'=(r.map ρ).map (val f):=by
   cases r with
   |none=>rfl
   |some x=>simp at om |-;exact om
  rw[e];exact Gk _ _
 case build t ps =>
  simp only[execOp];refine hJ ?_;have e:(ps.map fun x=>(x.1,ρ' x.2))=(ps.map fun x=>(x.1,ρ x.2)).map fun x=>(x.1,val f x.2):=by
   rw[gL];apply dH;intro x hx;simp only[Function.comp,om x.2 (List.mem_map.2 ⟨x,by simpa using hx,rfl⟩)]
  rw[e];exact MI hf _ _
 case buildSlice t n ps =>
  simp only[execOp];refine hJ ?_;have e:(ps.map fun x=>(x.1,ρ' x.2))=(ps.map fun x=>(x.1,ρ x.2)).map fun x=>(x.1,val f x.2):=by
   rw[gL];apply dH;intro x hx;simp only[Function.comp,om x.2 (List.mem_map.2 ⟨x,by simpa using hx,rfl⟩)]
  rw[e];exact Ax hf _ _ _
 case slice t x lo hi mx =>
  simp only[execOp];refine hJ ?_;have e:∀r:Option Operand,(∀y,y∈r->ρ' y=val f (ρ y))->r.map ρ'=(r.map ρ).map (val f):=by
   intro r h;cases r with
   |none=>rfl
   |some x=>simp[h x rfl]
  rw[e lo (fun y hy=>om y (.inl (.inl (.inr hy)))),e hi (fun y hy=>om y (.inl (.inr hy))),e mx (fun y hy=>om y (.inr hy)),om x (.inl (.inl (.inl rfl)))];exact Gj hf _ _ _ _ _
 case nilCheck x =>
  simp only[execOp];rw[om];cases hx:ρ x<;>simp only[cg,cy,bQ,bw,bC,aW,bt,cC,b7,b8,bB,bI,bj,cz,bL]
  case pointer a =>
   cases a
   ·exact bM hf _
   ·exact au (by simp[iI])
  case func g a b =>
   obtain⟨n,rfl,hn⟩:=pZ g a b hx;exact au (by simp[iI])
  case nilIface=>exact bM hf _
  case nilFunc=>exact bM hf _
  all_goals exact au (by simp[iI])
 case makeFunc g first captured =>
  cases g<;>first|exact Bool.noConfusion ja|skip
  rename_i n;have hn:L n=true:=ja;simp only[execOp];refine hJ ?_;have e:∀r:Array Operand,(∀y,y∈r->ρ' y=val f (ρ y))->r.map ρ'=(r.map ρ).map (val f):=by
   intro r h;rw[gL];apply dH;intro y hy;exact h y hy
  rw[e first (fun y hy=>om y (by simp[hy])),e captured (fun y hy=>om y (by simp[hy]))];exact au (by simp[V,sk,hL n hn])
 case call c =>
  have e:∀r:Array Operand,(∀y,y∈r->ρ' y=val f (ρ y))->r.map ρ'=(r.map ρ).map (val f):=by
   intro r h;rw[gL];apply dH;intro y hy;exact h y hy
  obtain⟨callee,args,tys⟩:=c;simp only[Call.operands] at om pZ;simp only[execOp,resolve];cases callee with
  |invoke r m=>exact Bool.noConfusion ja
  |builtin b =>
   have ea:=e args (fun y hy=>om y (by simpa using hy));have h:∀s s':Sem Value,Rel P f (V f) s s'->Rel P f (iI L f) (do pure (.value (<- s))) (do pure (.value (<- s'))):=fun _ _ h=>hJ h;show Rel P f (iI L f) (builtin b tys ty _ (args.map ρ)) (builtin b tys ty _ (args.map ρ'));rw[ea];cases b<;>first|exact Bool.noConfusion ja|skip
   ·exact hJ (Jz hf _ _ _)
   ·exact hJ (Tk _ _ _)
   ·exact hJ (MQ hf _ _ _)
   ·exact hJ (Pn _ _ _)
   ·exact hJ (JB hf _ _ _)
   ·exact hJ (Tj _ _ _)
   ·exact hJ (Tl _ _ _)
   ·have ft:args.size=1:=by simpa[sE,JA,xL] using ja
    obtain⟨x,hx⟩:∃x,args.map ρ=#[x]:=by
     match args,ft with
     | ⟨[x]⟩,_=>exact⟨ρ x,an⟩
    rw[hx];have:=ub (P:=P) (f:=f) tys ty x;exact hJ (by simpa using this)
   ·have ft:args.size=2:=by simpa[sE,JA,xL] using ja
    obtain⟨x,y,Vr⟩:∃x y,args.map ρ=#[x,y]:=by
     match args,ft with
     | ⟨[x,y]⟩,_=>exact⟨ρ x,ρ y,an⟩
    rw[Vr];have:=xK (P:=P) hf tys ty x y;exact hJ (by simpa using this)
  |value x =>
   have ea:=e args (fun y hy=>om y (by simp[hy]));have ex:=om x an;show Rel P f (iI L f) (Deferred.ofValue (ρ x) (args.map ρ)>>=fun d=>invoke d.target d.args) (Deferred.ofValue (ρ' x) (args.map ρ')>>=fun d=>invoke d.target d.args);rw[ea,ex];cases hx:ρ x<;>simp only[cg,cy,bQ,bw,bC,aW,bt,cC,b7,b8,bB,bI,bj,cz,bL]<;>first|exact az|skip
   ·rename_i g a b;obtain⟨n,rfl,hn⟩:=pZ x an g a b hx;show Rel P f (iI L f) (callFunc n ((a++args.map ρ)++b)) (callFunc (f.h n) ((a.map (val f)++(args.map ρ).map (val f))++b.map (val f)));rw[hL n hn,<- fH,<- fH];exact hC n hn _
   ·show Rel P f (iI L f) (runtimePanic .nilDeref) (runtimePanic .nilDeref);exact bM hf _
end
def vf:Value->Bool
 | .bool _|.int .. | .float .. | .complex .. | .string _|.pointer none|.slice none _ _|.map none|.chan none|.nilFunc|.nilIface=>true
 |_=>false
def AJ:Value->Bool
 | .agg cs=>cs.all vf
 | .tuple vs=>vs.all vf
 | .iface _ v=>vf v
 |v=>vf v
theorem vg{v:Value}(h:vf v=true)(f:Rn):val f v=v:=by
 cases v<;>first|exact Bool.noConfusion h|skip
 case slice a _ _=>cases a<;>first|exact Bool.noConfusion h|simp
 case pointer a=>cases a<;>first|exact Bool.noConfusion h|simp
 case map a=>cases a<;>first|exact Bool.noConfusion h|simp
 case chan a=>cases a<;>first|exact Bool.noConfusion h|simp
 all_goals simp
theorem vh{v:Value}(h:AJ v=true)(f:Rn):val f v=v:=by
 have arr:∀cs:Array Value,cs.all vf=true->cs.map (val f)=cs:=by
  intro cs hc;rw[gD] at hc;apply iF
  ·simp
  ·intro i h1 h2;simp only[Array.getElem_map];exact vg (hc i h2) f
 cases v
 case iface t v=>rw[bI,vg (show vf v=true from h) f]
 case agg cs=>rw[cz,arr _ h]
 case tuple cs=>rw[bL,arr _ h]
 all_goals (refine vg ?_ f;exact h)
def tF(G:Nat)(L:Nat->Bool):Operand->Bool
 | .tmp _=>true
 | .const v=>AJ v
 | .global g=>decide (g<G)
 | .func n=>L n
def sG(G:Nat)(L:Nat->Bool)(o:Oper):Bool:=sE L o.op&&o.op.operands.all (tF G L)
def jX(G:Nat)(L:Nat->Bool):Code->Bool
 | .skip|.label _|.exit _|.goto _|.ret|.refuse _=>true
 | .region _ ops _=>ops.all (sG G L)
 | .seq a b=>jX G L a&&jX G L b
 | .cond c a b=>tF G L c&&jX G L a&&jX G L b
 | .block _ c|.loop c|.scope c=>jX G L c
 | .rangeFunc ..=>false
def mF(G:Nat)(L:Nat->Bool):Item->Bool
 | .code c|.inLoop c|.inScope c=>jX G L c
 | .inBlock _=>true
 | .inRegion ops _=>ops.all (sG G L)
 |_=>false
structure uf(G:Nat)(L:Nat->Bool)(fr:Frame):Prop where
 defers:fr.defers=[]
 round:fr.roundOf=none
 kind:fr.kind=.normal
 fn:L fr.fn=true
 todo:∀i∈fr.todo,mF G L i=true
 mode:fr.mode=.run\/fr.mode=.returning
def frame(f:Rn)(fr:Frame):Frame:={fr with tmps:=fr.tmps.map (val f)}
section
variable {G:Nat} {L:Nat->Bool}
theorem MR{id:Nat}:∀{k k':List Item},exitTo id k=some k'->∀i∈k',i∈k:=by
 intro k
 induction k with
 |nil=>intro k' h;cases h
 |cons x k ih =>
  intro k' h i hi;cases x<;>simp only[exitTo] at h
  case inBlock j =>
   split at h
   ·cases h;exact bo _ hi
   ·exact bo _ (ih h i hi)
  all_goals exact bo _ (ih h i hi)
theorem EH:∀{c c':Code} {l:Nat},findLabel c l=some c'->jX G L c=true->jX G L c'=true:=by
 intro c
 induction c with
 |seq a b iha ihb =>
  intro c' l h ja;simp only[jX,Bool.and_eq_true] at ja;simp only[findLabel] at h;split at h
  ·rename_i r hr;cases h;simp only[jX,Bool.and_eq_true];exact⟨iha hr ja.1,ja.2⟩
  ·exact ihb h ja.2
 |label m =>
  intro c' l h ja;simp only[findLabel] at h;split at h
  ·cases h;rfl
  ·cases h
 |_=>intro c' l h ja;simp only[findLabel] at h;cases h
theorem MS{l:Nat}:∀{k k':List Item},gotoIn l k=some k'->(∀i∈k,mF G L i=true)->∀i∈k',mF G L i=true:=by
 intro k
 induction k with
 |nil=>intro k' h;cases h
 |cons x k ih =>
  intro k' h ja i hi;have hk:∀i∈k,mF G L i=true:=fun i hi=>ja i (bo _ hi);cases x<;>simp only[gotoIn] at h
  case inScope body =>
   have hb:jX G L body=true:=ja (.inScope body) an;split at h
   ·rename_i rest hr;cases h;simp only[List.mem_cons] at hi;rcases hi with rfl|rfl|hi
    ·exact EH hr hb
    ·exact hb
    ·exact hk i hi
   ·exact ih h hk i hi
  all_goals exact ih h hk i hi
theorem AK(P:Program)(fn:FuncId)(es:Array Event):∀e∈seen P fn es,e∈es:=by
 have key:∀(g:Bool×Array Event->Event->Bool×Array Event),(∀st a,∀e∈(g st a).2,e∈st.2\/e=a)->∀(l:List Event) (st:Bool×Array Event),(∀e∈st.2,e∈es)->(∀e∈l,e∈es)->∀e∈(l.foldl g st).2,e∈es:=by
  intro g hg l
  induction l with
  |nil=>intro st h _ e he;exact h e he
  |cons a l ih =>
   intro st h hl e he;simp only[List.foldl_cons] at he;refine ih _ ?_ (fun e he=>hl e (bo _ he)) e he;intro e he;rcases hg st a e he with he|rfl
   ·exact h e he
   ·exact hl _ an
 unfold seen;dsimp only;rw[<- iQ];refine key _ ?_ es.toList _ an (fun e he=>by simpa using he);rintro⟨q,kept⟩ a e he;dsimp only at he;split at he
 ·exact .inl he
 ·dsimp only at he;split at he
  ·exact .inl he
  ·rcases Array.mem_push.1 he with he|rfl
   ·exact .inl he
   ·exact .inr rfl
end
structure PF(P:Program)(L:Nat->Bool)(Gm:Nat)(F:iZ):Prop where
 low:∀r,r<Gm->F.K r/\F.φ r=r
 L:F.L=fun n=>L n=true
 G:F.G=P.globals.size
 zu:Dp F
structure qf(P:Program)(L:Nat->Bool)(Gm:Nat):Prop where
 zero:∀t i z,P.info? t=some i->i.zero=some z->∀f:Rn,val f z=z
 call:∀n,L n=true->∀f,mC P f->(∀n,L n=true->f.h n=n)->∀args,Rel P f (iI L f) (callFunc n args) (callFunc n (args.map (val f)))
 body:∀n,L n=true->∃fn,P.funcs[n]?=some fn/\∀c,fn.body=some c->jX Gm L c=true
section
variable {P:Program} {L:Nat->Bool} {Gm:Nat} {F:iZ} {wl wr:ae} {f:Rn}
theorem PF.ok(h:PF P L Gm F)(hP:qf P L Gm)(hf:F.has f):mC P f :=
 ⟨hf.inj,by rw[<- h.G];exact hf.jF,fun t i z h1 h2=>hP.zero t i z h1 h2 f⟩
theorem PF.fn(h:PF P L Gm F)(hf:F.has f):∀n,L n=true->f.h n=n:=fun n hn=>hf.fn n (by rw[h.L];exact hn)
theorem PF.Lv{F':iZ}{aI oT:ae}(h:PF P L Gm F)(m:eJ F F' wl wr aI oT):PF P L Gm F' :=
 ⟨fun r hr=>⟨m.K r (h.low r hr).1,(m.φ r (h.low r hr).1).trans (h.low r hr).2⟩,m.L.trans h.L,m.G.trans h.G,m.zu h.zu⟩
theorem AL(h:PF P L Gm F)(hP:qf P L Gm)(hf:F.has f)(fr:Frame)(x:Operand)(hx:tF Gm L x=true):(frame f fr).eval x=val f (fr.eval x):=by
 cases x with
 |tmp t =>
  simp only[Frame.eval,frame,Array.getD_eq_getD_getElem?,Array.getElem?_map];cases fr.tmps[t]? with
  |none=>simp[kM]
  |some v=>rfl
 |const v=>simp only[Frame.eval];exact(vh hx f).symm
 |global g =>
  have hg:g<Gm:=by simpa[tF] using hx
  simp only[Frame.eval,aW,Option.map_some,S0];rw[hf.at_ g (h.low g hg).1,(h.low g hg).2]
 |func n =>
  simp only[Frame.eval,b8,sk];rw[PF.fn h hf n hx];simp
theorem Gz(ops:Array Oper)(tmps:Array Value):yielded ops (tmps.map (val f))=yielded ops tmps:=by
 funext j;unfold yielded;cases hb:(ops[j]?).bind (·.dst) with
 |none=>rfl
 |some d =>
  simp only[Option.bind_some,Array.getElem?_map];cases tmps[d]? with
  |none=>rfl
  |some v=>cases v<;>simp
theorem AM(W:WR F wl wr)(h:PF P L Gm F){v v':Value}(hv:∀f,F.has f->v'=val f v):∀g a b,v=.func g a b->∃n,g=.func n/\L n=true:=by
 intro g a b e;subst e;obtain⟨f1,f2,h1,h2,_,hh,ht,hm⟩:=W.two;have e:=(hv f1 h1).symm.trans (hv f2 h2);simp only[b8,Value.func.injEq] at e;cases g with
 |func n =>
  refine⟨n,rfl,?_⟩;refine aO fun hn=>?_;refine hh n (by rw[h.L];exact hn) ?_;have:=e.1;simp only[sk,Fn.func.injEq] at this;exact this
 |method s=>exact absurd (by have:=e.1;simpa[sk] using this) (hm s)
 |methodOf t s=>exact absurd (by have:=e.1;simpa[sk] using this) (hm s)
 |via t p n q=>exact absurd (by have:=e.1;simpa[sk] using this) (ht t)
 |yield l=>exact absurd (by have:=e.1;simpa[sk] using this) (ht l)
theorem AN{G:Nat}(fr:Frame)(v:Value)(h:∀i∈fr.todo,mF G L i=true):(frame f fr).finish (val f v)=frame f (fr.finish v):=by
 cases ht:fr.todo with
 |nil=>simp[Frame.finish,frame,ht]
 |cons i k =>
  have hi:=h i (by simp[ht]);cases i<;>first|exact Bool.noConfusion hi|(simp[Frame.finish,frame,ht];done)|skip
  rename_i ops todo;cases todo with
  |nil=>simp[Frame.finish,frame,ht]
  |cons j rest =>
   simp only[Frame.finish,frame,ht];cases (ops[j]?).bind (·.dst) with
   |none=>rfl
   |some d=>simp[Array.map_setIfInBounds]
theorem xM{G:Nat}{fr:Frame}(h:uf G L fr)(v:Value):uf G L (fr.finish v):=by
 obtain⟨h1,h2,h3,h4,h5,h6⟩:=h;cases ht:fr.todo with
 |nil =>
  have e:fr.finish v=fr:=by simp[Frame.finish,ht]
  rw[e];exact⟨h1,h2,h3,h4,h5,h6⟩
 |cons i k =>
  have hi:=h5 i (by simp[ht]);have hk:∀i∈k,mF G L i=true:=fun i hi=>h5 i (by simp[ht,hi]);by_cases hr:∃ops j rest,i=.inRegion ops (j::rest)
  ·obtain⟨ops,j,rest,rfl⟩:=hr;refine⟨?_,?_,?_,?_,?_,?_⟩<;>simp only[Frame.finish,ht]
   ·exact h1
   ·exact h2
   ·exact h3
   ·exact h4
   ·intro x hx;simp only[List.mem_cons] at hx;rcases hx with rfl|hx
    ·exact hi
    ·exact hk x hx
   ·exact h6
  ·have e:fr.finish v=fr:=by
    cases i<;>first|exact Bool.noConfusion hi|(simp[Frame.finish,ht];done)|skip
    rename_i ops todo;cases todo with
    |nil=>simp[Frame.finish,ht]
    |cons j rest=>exact absurd ⟨_,_,_,rfl⟩ hr
   rw[e];exact⟨h1,h2,h3,h4,h5,h6⟩
end
def fe(w:ae):Prop:=∀(r:Nat) (o:Obj),w.heap[r]?=some o->eF o=false
def WJ{α:Type}:Result α->Prop
 | .ok _ w=>fe w
 | .halt h _=>nN h=true\/∃v,h=.panic v
theorem uE{w:ae}(hw:fe w){a:Addr}{what:String}:nN (w.noCell a what)=true:=by
 unfold World.noCell;split
 ·rename_i c e hc;have:=hw _ _ hc;cases this
 ·rfl
 ·rfl
theorem AO{p:Program}{w:ae}(hw:fe w){a:Addr}{at_:Bool}{h:Halt}(hh:w.farLoad p a at_=.error h):nN h=true:=by
 unfold World.farLoad at hh;split at hh
 ·split at hh
  ·cases hh
  ·cases hh;rfl
 ·cases hh;exact uE hw
theorem zy{p:Program}{w:ae}(hw:fe w){a:Addr}{v:Value}{at_:Bool}{h:Halt}(hh:w.farStore p a v at_=.error h):nN h=true:=by
 unfold World.farStore at hh;split at hh
 ·split at hh
  ·cases hh
  ·cases hh;rfl
 ·cases hh;exact uE hw
theorem fe.modify{w:ae}(hw:fe w)(b:Nat)(g:Obj->Obj)(hg:∀o,eF (g o)=eF o):fe {w with heap:=w.heap.modify b g}:=by
 intro r o ho;simp only[getElem?_modify] at ho;split at ho
 ·cases hx:w.heap[r]? with
  |none=>rw[hx] at ho;cases ho
  |some x=>rw[hx] at ho;cases ho;rw[hg];exact hw r x hx
 ·exact hw r o ho
theorem fe.set{w:ae}(hw:fe w)(b:Nat)(x:Obj)(hx:eF x=false):fe {w with heap:=w.heap.setIfInBounds b x}:=by
 intro r o ho;by_cases hb:b<w.heap.size
 ·obtain⟨_,h1,h2⟩:=oU w.heap b x hb;by_cases e:r=b
  ·subst e;simp only[h1] at ho;cases ho;exact hx
  ·simp only[h2 r e] at ho;exact hw r o ho
 ·rw[show w.heap.setIfInBounds b x=w.heap from Array.setIfInBounds_eq_of_size_le aa] at ho;exact hw r o ho
theorem fe.push{w:ae}(hw:fe w)(x:Obj)(hx:eF x=false):fe {w with heap:=w.heap.push x}:=by
 intro r o ho;simp only[Array.getElem?_push] at ho;split at ho
 ·cases ho;exact hx
 ·exact hw r o ho
theorem fe.heap{w w':ae}(hw:fe w)(h:w'.heap=w.heap):fe w':=fun r o ho=>hw r o (by rw[<- h];exact ho)
theorem EI(w:ae)(hw:fe w)(a:Addr)(v:Value):fe (w.setCell a v):=by
 unfold World.setCell;exact fe.modify hw _ _ (fun o=>by cases o<;>rfl)
theorem qT{P:Program}{f:Rn}{α β:Type}{A:α->β->Prop}:∀(s:Sem α) (s':Sem β) (w:ae) (es:Array Event),Rel P f A s s'->fe w->WJ (s.runT P w es).1:=by
 intro s
 induction s with
 |pure a=>intro s' w es h hw;exact hw
 |load m x k ih =>
  intro s' w es h hw;cases s'<;>simp only[Rel] at h;simp only[Sem.runT];split
  ·exact ih _ _ w _ (h.2.2 _) hw
  ·split
   ·exact ih _ _ w _ (h.2.2 _) hw
   ·rename_i hh;exact .inl (AO hw hh)
 |store m x v k ih =>
  intro s' w es h hw;cases s'<;>simp only[Rel] at h;by_cases b6:(∃c,v=.agg c)\/∃c,v=.tuple c
  ·rcases b6 with⟨c,rfl⟩|⟨c,rfl⟩
   ·exact .inl rfl
   ·exact .inl rfl
  ·rw[gJ (fun c e=>b6 (.inl ⟨c,e⟩)) (fun c e=>b6 (.inr ⟨c,e⟩))];split
   ·split
    ·exact .inl rfl
    ·exact ih _ _ _ h.2.2.2 (EI w hw _ _)
   ·split
    ·rename_i w1 ts hfs;obtain⟨b,u,h1,h2⟩:=su hfs;refine ih _ _ _ h.2.2.2 ?_;obtain⟨c,e,z,_,_,rfl,_⟩:=pX (f:=⟨fun x=>x,fun x=>x,fun x=>x,fun x=>x⟩) (wr:={w with heap:=w.heap.map (obj ⟨fun x=>x,fun x=>x,fun x=>x,fun x=>x⟩)}) (at':=b) (k':=x) an rfl rfl rfl rfl h2;exact hw.set _ _ rfl
    ·rename_i hh;exact .inl (zy hw hh)
 |new o k ih =>
  intro s' w es h hw;cases s'<;>simp only[Rel] at h;exact ih _ _ _ _ (h.2.2 _) (hw.push _ h.2.1)
 |shape r k ih =>
  intro s' w es h hw;cases s'<;>simp only[Rel] at h;exact ih _ _ w _ (h.2 _) hw
 |freeze a n k ih =>
  intro s' w es h hw;cases s'<;>simp only[Rel] at h;refine ih _ _ _ h.2.2 ?_;by_cases hn:n=0
  ·subst hn;simpa[World.freeze] using hw
  ·rw[nf _ _ _ hn];exact hw.modify _ _ (fun o=>Ar _ _ o)
 |frozen a k ih =>
  intro s' w es h hw;cases s'<;>simp only[Rel] at h;exact ih _ _ w _ (h.2 _) hw
 |getObj r k ih =>
  intro s' w es h hw;cases s'<;>simp only[Rel] at h;simp only[Sem.runT];split
  ·exact .inl rfl
  ·exact ih _ _ w _ (h.2 _) hw
  ·exact .inl rfl
 |setObj r o k ih =>
  intro s' w es h hw;cases s'<;>simp only[Rel] at h;simp only[Sem.runT];split
  ·exact .inl rfl
  ·exact ih _ _ _ h.2.2.2 (hw.set _ _ h.2.2.1)
  ·exact .inl rfl
 |choose q k ih =>
  intro s' w es h hw;cases s'<;>simp only[Rel] at h;simp only[Sem.runT];split
  ·exact ih _ _ w _ (h.2 _) hw
  ·exact ih _ _ _ _ (h.2 _) (fe.heap hw rfl)
 |sys c k ih =>
  intro s' w es h hw;cases s'<;>simp only[Rel] at h;simp only[Sem.runT];obtain⟨_,d,o,e2,_⟩:=F9 c (wl:=w) (wr:=w) rfl rfl rfl;exact ih _ _ _ _ (h.2.2 _) (fe.heap hw (by rw[e2]))
 |program k ih =>
  intro s' w es h hw;cases s'<;>simp only[Rel] at h;exact ih _ _ w _ h hw
 |mark m k ih =>
  intro s' w es h hw;cases s'<;>simp only[Rel] at h;exact ih _ _ _ h.2.2 hw
 |halt hh =>
  intro s' w es h hw;cases hh with
  |panic v=>exact .inr ⟨v,rfl⟩
  |_=>exact .inl (by cases s'<;>exact h)
section
open Go.Conc (G)
section
variable {P:Program} {L:Nat->Bool} {Gm:Nat} {F:iZ} {wl wr:ae} {f:Rn}
theorem JC{α:Type}{g g':α->Sem Value}:∀(l:List α),(∀x∈l,Rel P f (V f) (g x) (g' x))->Rel P f (fun(a b:List Value)=>b=a.map (val f)) (l.mapM g) (l.mapM g'):=by
 intro l
 induction l with
 |nil=>intro _;simp only[List.mapM_nil];exact au rfl
 |cons x l ih =>
  intro h;simp only[List.mapM_cons];refine aj (h x an) ?_;rintro a _ rfl;refine aj (ih fun y hy=>h y (by simp[hy])) ?_;rintro b _ rfl;exact au an
theorem pM(hf:mC P f)(fn:Func)(tmps:Array Value):Rel P f (V f) (results fn tmps) (results fn (tmps.map (val f))):=by
 unfold results;have hg:∀t,(tmps.map (val f)).getD t undef=val f (tmps.getD t undef):=by
  intro t;simp only[Array.getD_eq_getD_getElem?,Array.getElem?_map];cases tmps[t]? with
  |none=>simp[kM]
  |some v=>rfl
 refine aj (A:=VS f) ?_ ?_
 ·rw[eI,eI];refine Lt (JC _ fun x _=>?_) ?_
  ·cases x with
   |tmp t=>simp only[hg];exact au rfl
   |cell a t =>
    simp only[hg];refine aj (Aw hf _) ?_;rintro x _ rfl;exact yH t x
  ·rintro a _ rfl;simp[VS]
 ·rintro vs _ rfl;refine au ?_;simp only[V];by_cases h:vs.size=1
  ·rw[dif_pos h,dif_pos (by simpa using h)];simp
  ·rw[dif_neg h,dif_neg (by simpa using h)];simp
def Out(P:Program)(L:Nat->Bool)(Gm:Nat)(m':Bool)(nh csr:List Frame)(F:iZ)(wl wr:ae)(vi:Frame)(abr:List Frame)(g':aS)(aI:ae):Prop :=
 ∃F' Lw WK JD JE oT lB,g'=G Lw (WK++nh)/\uf Gm L Lw/\(∀c∈WK,uf Gm L c) /\
  stepG P m' (G vi (abr++csr)) wr=.go (G JD (JE++csr)) oT lB/\(∀f,F'.has f->JD=frame f Lw/\JE=WK.map (frame f)) /\
  WR F' aI oT/\eJ F F' wl wr aI oT/\(∀e∈lB,vF F' e)/\PF P L Gm F'/\(∀f,F'.has f->F.has f)/\fe aI
section
variable {fr:Frame} {cs:List Frame} {s:Sem Next} {w w':ae} {el:Array Event}
theorem ni{v:Value}(hk:fr.kind=.normal)(h:s.runT P w #[]=(.ok (.value v) w',el)):stepG.apply P true fr cs none s w=.go (G (fr.finish v) cs) w' (seen P fr.fn el):=by
 simp only[stepG.apply,if_true,h,hk,GStep.after,G,Array.append_empty];rfl
theorem oZ(hk:fr.kind=.normal)(h:s.runT P w #[]=(.ok .skip w',el)):stepG.apply P true fr cs none s w=.go (G (fr.finish undef) cs) w' (seen P fr.fn el):=by
 simp only[stepG.apply,if_true,h,hk,GStep.after,G,Array.append_empty];rfl
theorem nj{g:FuncId}{args:Array Value}(hk:fr.kind=.normal)(ht:∃ops td k,fr.todo=.inRegion ops td::k)(h:s.runT P w #[]=(.ok (.enter g args) w',el)):stepG.apply P true fr cs none s w=.go (G (Frame.enter P g args .normal) (fr::cs)) w' (seen P fr.fn el):=by
 obtain⟨ops,td,k,ht⟩:=ht;simp only[stepG.apply,if_true,h,hk,GStep.after,G,ht,Array.append_empty];rfl
theorem JF{h:Halt}(hh:nN h=true)(hr:(s.runT P w #[]).1=.halt h w'){g':aS}{w2:ae}{es:Array Event}(hg:stepG.apply P true fr cs none s w=.go g' w2 es):False:=by
 rcases hx:s.runT P w #[] with⟨r,el⟩;rw[hx] at hr;subst hr;cases h<;>first|exact Bool.noConfusion hh|skip
 ·rename_i u;cases u<;>first|exact Bool.noConfusion hh|(simp only[stepG.apply,if_true,hx,GStep.after] at hg;cases hg)
 ·simp only[stepG.apply,if_true,hx,GStep.after] at hg;cases hg
theorem GA{v:Value}(hr:(s.runT P w #[]).1=.halt (.panic v) w'){g':aS}{w2:ae}{es:Array Event}(hg:stepG.apply P true fr cs none s w=.go g' w2 es):∃chain,g'.frame.mode=.panicking chain:=by
 rcases hx:s.runT P w #[] with⟨r,el⟩;rw[hx] at hr;subst hr;simp only[stepG.apply,if_true,hx,GStep.after] at hg;cases hg;simp only[Frame.raise];split<;>exact⟨_,rfl⟩
end
abbrev Fr(fn:FuncId)(tmps:Array Value)(todo:List Item)(mode:FrameMode):Frame:={fn,tmps,todo,defers:=[],mode,kind:=.normal,roundOf:=none}
theorem gM{m':Bool}{nh csr ab abr:List Frame}{fn:FuncId}{tmps tr:Array Value}{todo Lx:List Item}{mode GB:FrameMode}(hP:PF P L Gm F)(W:WR F wl wr)(ug:fe wl)(qg:∀c∈ab,uf Gm L c)(mG:∀f,F.has f->abr=ab.map (frame f))(uF:∀f,F.has f->tr=tmps.map (val f))(pZ:L fn=true)(ht2:∀i∈Lx,mF Gm L i=true)(Y3:GB=.run\/GB=.returning)(h3:stepG P m' (G (Fr fn tr todo mode) (abr++csr)) wr=.go (G (Fr fn tr Lx GB) (abr++csr)) wr #[]):
  Out P L Gm m' nh csr F wl wr (Fr fn tr todo mode) abr (G (Fr fn tmps Lx GB) (ab++nh)) wl :=
 ⟨F,Fr fn tmps Lx GB,ab,_,abr,wr,#[],rfl,⟨rfl,rfl,rfl,pZ,ht2,Y3⟩,qg,h3,fun f hf=>⟨by rw[uF f hf];rfl,mG f hf⟩,W,eJ.refl _ _ _,an,hP,fun _ h=>h,ug⟩
theorem sH(cH:qf P L Gm){g:FuncId}(hg:L g=true)(args:Array Value):uf Gm L (Frame.enter P g args .normal):=by
 obtain⟨yL,ql,fo⟩:=cH.body g hg;refine⟨rfl,rfl,rfl,hg,?_,.inl rfl⟩;intro i hi;simp only[Frame.enter,ql,Option.bind_some,List.mem_singleton] at hi;subst hi;cases hb:yL.body with
 |none=>rfl
 |some c=>exact fo c hb
theorem MT(g:FuncId)(args:Array Value):Frame.enter P g (args.map (val f)) .normal=frame f (Frame.enter P g args .normal):=by
 simp only[Frame.enter,frame,Array.map_append,Array.size_map,Array.map_replicate,kM]
theorem GC(cH:qf P L Gm)(hP:PF P L Gm F)(W:WR F wl wr)(ug:fe wl){m m':Bool}{nh csr ab abr:List Frame}{fr vi:Frame}(Vt:uf Gm L fr)(qg:∀c∈ab,uf Gm L c)(hr:∀f,F.has f->vi=frame f fr/\abr=ab.map (frame f)){g':aS}{aI:ae}{es:Array Event}(hgo:stepG P m (G fr (ab++nh)) wl=.go g' aI es)(cm:g'.status=.running)(hdy:g'.dying=none)(jw:g'.frame.mode=.run\/g'.frame.mode=.returning)(Tm:ab≠[]\/fr.mode=.run):Out P L Gm m' nh csr F wl wr vi abr g' aI:=by
 obtain⟨f0,jW⟩:=W.some;obtain⟨hd,uG,hk,pZ,Ly,GD⟩:=Vt;obtain⟨fn,tmps,todo,defers,mode,kind,ro⟩:=fr;simp only at hd uG hk pZ Ly GD Tm;subst hd uG hk;obtain⟨tr,CL,uF⟩:∃tr,vi=Fr fn tr todo mode/\∀f,F.has f->tr=tmps.map (val f):=by
  refine⟨tmps.map (val f0),(hr f0 jW).1,fun f hf=>?_⟩;have:=(hr f0 jW).1.symm.trans (hr f hf).1;simp only[frame,Frame.mk.injEq] at this;exact this.2.1
 subst CL;have mG:∀f,F.has f->abr=ab.map (frame f):=fun f hf=>(hr f hf).2;rcases GD with GD|GD
 ·
  subst GD;cases todo with
  |nil =>
   simp only[G,stepG,stepG.exec] at hgo;cases hgo;exact gM hP W ug qg mG uF pZ Ly (.inr rfl) (by simp only[G,stepG,stepG.exec,if_true])
  |cons i k =>
   have hi:=Ly i an;have kY:∀i∈k,mF Gm L i=true:=fun i hi=>Ly i (by simp[hi]);have two:∀{a b:Item},mF Gm L a=true->mF Gm L b=true->∀i∈a::b::k,mF Gm L i=true:=by
    intro a b ha hb i hi;simp only[List.mem_cons] at hi;rcases hi with rfl|rfl|hi
    ·exact ha
    ·exact hb
    ·exact kY i hi
   have one:∀{a:Item},mF Gm L a=true->∀i∈a::k,mF Gm L i=true:=by
    intro a ha i hi;simp only[List.mem_cons] at hi;rcases hi with rfl|hi
    ·exact ha
    ·exact kY i hi
   cases i<;>first|exact Bool.noConfusion hi|skip
   case inBlock id =>
    simp only[G,stepG,stepG.exec] at hgo;cases hgo;exact gM hP W ug qg mG uF pZ kY (.inl rfl) (by simp only[G,stepG,stepG.exec,if_true])
   case inScope c =>
    simp only[G,stepG,stepG.exec] at hgo;cases hgo;exact gM hP W ug qg mG uF pZ kY (.inl rfl) (by simp only[G,stepG,stepG.exec,if_true])
   case inLoop c =>
    simp only[G,stepG,stepG.exec] at hgo;cases hgo;exact gM hP W ug qg mG uF pZ (two hi hi) (.inl rfl) (by simp only[G,stepG,stepG.exec,if_true])
   case code c =>
    have lQ:jX Gm L c=true:=hi;cases c<;>first|exact Bool.noConfusion hi|skip
    case skip =>
     simp only[G,stepG,stepG.exec] at hgo;cases hgo;exact gM hP W ug qg mG uF pZ kY (.inl rfl) (by simp only[G,stepG,stepG.exec,if_true])
    case label l =>
     simp only[G,stepG,stepG.exec] at hgo;cases hgo;exact gM hP W ug qg mG uF pZ kY (.inl rfl) (by simp only[G,stepG,stepG.exec,if_true])
    case ret =>
     simp only[G,stepG,stepG.exec] at hgo;cases hgo;exact gM hP W ug qg mG uF pZ Ly (.inr rfl) (by simp only[G,stepG,stepG.exec,if_true])
    case seq a b =>
     simp only[jX,Bool.and_eq_true] at lQ;simp only[G,stepG,stepG.exec] at hgo;cases hgo;exact gM hP W ug qg mG uF pZ (two lQ.1 lQ.2) (.inl rfl) (by simp only[G,stepG,stepG.exec,if_true])
    case block id c =>
     simp only[G,stepG,stepG.exec] at hgo;cases hgo;exact gM hP W ug qg mG uF pZ (two hi rfl) (.inl rfl) (by simp only[G,stepG,stepG.exec,if_true])
    case loop c =>
     simp only[G,stepG,stepG.exec] at hgo;cases hgo;exact gM hP W ug qg mG uF pZ (two hi hi) (.inl rfl) (by simp only[G,stepG,stepG.exec,if_true])
    case scope c =>
     simp only[G,stepG,stepG.exec] at hgo;cases hgo;exact gM hP W ug qg mG uF pZ (two hi hi) (.inl rfl) (by simp only[G,stepG,stepG.exec,if_true])
    case refuse w =>
     simp only[G,stepG,stepG.exec] at hgo;cases hgo
    case cond c a b =>
     simp only[jX,Bool.and_eq_true] at lQ;have iH:=AL hP cH jW (Fr fn tmps (.code (.cond c a b)::k) .run) c lQ.1.1;rw[show frame f0 (Fr fn tmps (.code (.cond c a b)::k) .run)=Fr fn tr (.code (.cond c a b)::k) .run by rw[uF f0 jW];rfl] at iH;simp only[G,stepG,stepG.exec] at hgo;cases hb:Frame.eval (Fr fn tmps (.code (.cond c a b)::k) .run) c<;>simp only[hb] at hgo<;>first|cases hgo|skip
     rename_i t;rw[hb,cg] at iH;refine gM hP W ug qg mG uF pZ (one (by cases t;exact lQ.2;exact lQ.1.2)) (.inl rfl) ?_;simp only[G,stepG,stepG.exec,iH]
    case exit id =>
     simp only[G,stepG,stepG.exec] at hgo;cases hx:exitTo id k with
     |none=>simp only[hx,Option.elim_none] at hgo;simp at hgo
     |some k2 =>
      simp only[hx,Option.elim_some] at hgo;cases hgo;refine gM hP W ug qg mG uF pZ (fun i hi=>kY i (MR hx i hi)) (.inl rfl) ?_;simp only[G,stepG,stepG.exec,hx,Option.elim_some]
    case goto l =>
     simp only[G,stepG,stepG.exec] at hgo;cases hx:gotoIn l k with
     |none=>simp only[hx,Option.elim_none] at hgo;simp at hgo
     |some k2 =>
      simp only[hx,Option.elim_some] at hgo;cases hgo;refine gM hP W ug qg mG uF pZ (MS hx kY) (.inl rfl) ?_;simp only[G,stepG,stepG.exec,hx,Option.elim_some]
    case region id ops draw =>
     cases draw
     ·simp only[G,stepG,stepG.exec] at hgo;simp only[Bool.not_false,if_true] at hgo;cases hgo;refine gM hP W ug qg mG uF pZ (one hi) (.inl rfl) ?_;simp only[G,stepG,stepG.exec,Bool.not_false,if_true]
     ·simp only[G,stepG,stepG.exec,choose,Sem.run,Question.forced,Bool.not_true,Bool.false_eq_true,if_false] at hgo;cases hgo;refine⟨F,Fr fn tmps (.inRegion ops (Region.schedule (P.follows .mixedOrders) ops (Question.cut (.order fn id) (wl.tape wl.drawn (.order fn id))))::k) .run,ab,Fr fn tr (.inRegion ops (Region.schedule (P.follows .mixedOrders) ops (Question.cut (.order fn id) (wl.tape wl.drawn (.order fn id))))::k) .run,abr,{wr with drawn:=wr.drawn+1},#[],rfl,⟨rfl,rfl,rfl,pZ,one hi,.inl rfl⟩,qg,?_,fun f hf=>⟨by rw[uF f hf];rfl,mG f hf⟩,W.env rfl rfl W.os W.output W.tape (by simp[W.drawn]),eJ.env rfl rfl rfl rfl,an,hP,fun _ h=>h,fe.heap ug rfl⟩;simp only[G,stepG,stepG.exec,choose,Sem.run,Question.forced,Bool.not_true,Bool.false_eq_true,if_false,W.tape,W.drawn]
   case inRegion ops todo =>
    cases todo with
    |nil =>
     simp only[G,stepG,stepG.exec] at hgo;cases hgo;exact gM hP W ug qg mG uF pZ kY (.inl rfl) (by simp only[G,stepG,stepG.exec])
    |cons i rest =>
     have hy:yielded ops tr=yielded ops tmps:=by rw[uF f0 jW];exact Gz ops tmps
     have AP:∀(v v':Value) (F':iZ),(∀f,F'.has f->F.has f)->(∀f,F'.has f->v'=val f v)->∀f,F'.has f->(Fr fn tr (.inRegion ops (i::rest)::k) .run).finish v'=frame f ((Fr fn tmps (.inRegion ops (i::rest)::k) .run).finish v):=by
      intro v v' F' h1 h2 f hf;rw[h2 f hf,uF f (h1 f hf)];exact AN (G:=Gm) (L:=L) (Fr fn tmps (.inRegion ops (i::rest)::k) .run) v Ly
     have WL:∀v,uf Gm L ((Fr fn tmps (.inRegion ops (i::rest)::k) .run).finish v):=fun v=>xM ⟨rfl,rfl,rfl,pZ,Ly,.inl rfl⟩ v;by_cases hw:((ops[i]?).map (Region.wanted · (yielded ops tmps))).getD false=true
     ·obtain⟨o,ho⟩:∃o,ops[i]?=some o:=by
       cases ho:ops[i]? with
       |none=>rw[ho] at hw;cases hw
       |some o=>exact⟨o,rfl⟩
      have LA:sG Gm L o=true:=by
       have gY:ops.all (sG Gm L)=true:=hi;rw[gD] at gY;obtain⟨bZ,he⟩:=Array.getElem?_eq_some_iff.1 ho;rw[<- he];exact gY i bZ
      simp only[sG,Bool.and_eq_true,Array.all_eq_true'] at LA;have hrel:∀f,F.has f->Rel P f (iI L f) (execOp (Fr fn tmps (.inRegion ops (i::rest)::k) .run).eval o) (execOp (Fr fn tr (.inRegion ops (i::rest)::k) .run).eval o):=by
       intro f hf;have iH:∀g,F.has g->∀x∈o.op.operands,(Fr fn tr (.inRegion ops (i::rest)::k) .run).eval x=val g ((Fr fn tmps (.inRegion ops (i::rest)::k) .run).eval x):=by
        intro g hg x hx;have:=AL hP cH hg (Fr fn tmps (.inRegion ops (i::rest)::k) .run) x (LA.2 x hx);rw[show frame g (Fr fn tmps (.inRegion ops (i::rest)::k) .run)=Fr fn tr (.inRegion ops (i::rest)::k) .run by rw[uF g hg];rfl] at this;exact this
       exact AI (PF.ok hP cH hf) (PF.fn hP hf) (fun n hn args=>cH.call n hn f (PF.ok hP cH hf) (PF.fn hP hf) args) o LA.1 (iH f hf) (fun x hx=>AM W hP (fun g hg=>iH g hg x hx))
      have hC:=vH (fun f=>iI L f) _ _ F wl wr #[] #[] hrel W;have hN:=qT _ _ wl #[] (hrel f0 jW) ug;have hl:stepG P m (G (Fr fn tmps (.inRegion ops (i::rest)::k) .run) (ab++nh)) wl=stepG.apply P true (Fr fn tmps (.inRegion ops (i::rest)::k) .run) (ab++nh) none (execOp (Fr fn tmps (.inRegion ops (i::rest)::k) .run).eval o) wl:=by
       simp only[G,stepG,stepG.exec];refine(if_pos hw).trans ?_;simp only[stepG.oper,Frame.oper?,ho]
      have Y4:stepG P m' (G (Fr fn tr (.inRegion ops (i::rest)::k) .run) (abr++csr)) wr=stepG.apply P true (Fr fn tr (.inRegion ops (i::rest)::k) .run) (abr++csr) none (execOp (Fr fn tr (.inRegion ops (i::rest)::k) .run).eval o) wr:=by
       simp only[G,stepG,stepG.exec,hy];refine(if_pos hw).trans ?_;simp only[stepG.oper,Frame.oper?,ho]
      have GF:stepG.apply P true (Fr fn tmps (.inRegion ops (i::rest)::k) .run) (ab++nh) none (execOp (Fr fn tmps (.inRegion ops (i::rest)::k) .run).eval o) wl=.go g' aI es:=hl.symm.trans hgo;rcases hx:(execOp (Fr fn tmps (.inRegion ops (i::rest)::k) .run).eval o).runT P wl #[] with⟨r,el⟩;rw[hx] at hC hN;cases r with
      |halt h w1 =>
       exfalso;rcases hN with hN|⟨v,rfl⟩
       ·exact JF hN (by rw[hx]) GF
       ·obtain⟨ch,uh⟩:=GA (by rw[hx]) GF;rw[uh] at jw;rcases jw with h|h<;>cases h
      |ok n w1 =>
       obtain⟨F',b,nk,WM,c1,c2,c3,c4,c5,c6⟩:=hC;obtain⟨g0,WO⟩:=c3.some;have JG:=c2 g0 WO;have JH:∀e∈seen P fn WM,vF F' e:=by
        intro e he;obtain⟨new,rfl,CM⟩:=c5;have:=AK P fn _ e he;exact CM e (by simpa using this)
       cases n<;>cases b<;>simp only[iI] at JG
       ·rename_i v v';rw[ni rfl hx] at GF;cases GF;exact⟨F',_,ab,_,abr,nk,_,rfl,WL v,qg,Y4.trans (ni rfl c1),fun f hf=>⟨AP v v' F' c6 (fun f hf=>c2 f hf) f hf,mG f (c6 f hf)⟩,c3,c4,JH,hP.Lv c4,c6,hN⟩
       ·rw[oZ rfl hx] at GF;cases GF;exact⟨F',_,ab,_,abr,nk,_,rfl,WL undef,qg,Y4.trans (oZ rfl c1),fun f hf=>⟨AP undef undef F' c6 (fun f _=>(kM f).symm) f hf,mG f (c6 f hf)⟩,c3,c4,JH,hP.Lv c4,c6,hN⟩
       ·rename_i gg args gg' Vs;obtain⟨rfl,hLg,_⟩:=JG;rw[nj rfl ⟨_,_,_,rfl⟩ hx] at GF;cases GF;refine⟨F',_,Fr fn tmps (.inRegion ops (i::rest)::k) .run::ab,_,Fr fn tr (.inRegion ops (i::rest)::k) .run::abr,nk,_,rfl,sH cH hLg args,?_,Y4.trans (nj rfl ⟨_,_,_,rfl⟩ c1),fun f hf=>⟨?_,?_⟩,c3,c4,JH,hP.Lv c4,c6,hN⟩
        ·intro c hc;simp only[List.mem_cons] at hc;rcases hc with rfl|hc
         ·exact⟨rfl,rfl,rfl,pZ,Ly,.inl rfl⟩
         ·exact qg c hc
        ·have:=c2 f hf;simp only[iI] at this;rw[this.2.2,MT]
        ·rw[bU,mG f (c6 f hf),uF f (c6 f hf)];rfl
     ·simp only[G,stepG,stepG.exec,hw] at hgo;simp only[Bool.false_eq_true,if_false] at hgo;cases hgo;refine⟨F,_,ab,(Fr fn tr (.inRegion ops (i::rest)::k) .run).finish undef,abr,wr,#[],rfl,WL _,qg,?_,fun f hf=>⟨AP undef undef F (fun _ h=>h) (fun f _=>(kM f).symm) f hf,mG f hf⟩,W,eJ.refl _ _ _,an,hP,fun _ h=>h,ug⟩;simp only[G,stepG,stepG.exec,hy,hw,Bool.false_eq_true,if_false]
 ·
  subst GD;have cV:ab≠[]:=Tm.elim id (fun h=>by cases h);cases ab with
  |nil=>exact absurd rfl cV
  |cons c Y5 =>
   obtain⟨Tn,cr,rfl⟩:∃Tn cr,abr=cr::Tn:=by
    rw[mG f0 jW];exact⟨_,_,rfl⟩
   have Te:∀f,F.has f->cr=frame f c/\Tn=Y5.map (frame f):=by
    intro f hf;have:=mG f hf;simp only[List.map_cons,List.cons.injEq] at this;exact this
   obtain⟨yL,ql,_⟩:=cH.body fn pZ;have hrel:∀f,F.has f->Rel P f (V f) (results yL tmps) (results yL tr):=by
    intro f hf;rw[uF f hf];exact pM (PF.ok hP cH hf) yL tmps
   have hC:=vH (fun f=>V f) _ _ F wl wr #[] #[] hrel W;have hN:=qT _ _ wl #[] (hrel f0 jW) ug;rcases hx:(results yL tmps).runT P wl #[] with⟨r,el⟩;rw[hx] at hC hN;simp only[G,stepG,unwind,ql,hx,List.cons_append] at hgo;cases r with
   |halt h w1 =>
    exfalso;cases h<;>simp only[GStep.after] at hgo<;>cases hgo
   |ok v w1 =>
    obtain⟨F',v',nk,WM,c1,c2,c3,c4,c5,c6⟩:=hC;have JH:∀e∈seen P fn WM,vF F' e:=by
     intro e he;obtain⟨new,rfl,CM⟩:=c5;have:=AK P fn _ e he;exact CM e (by simpa using this)
    simp only[GStep.after,doReturn] at hgo;cases hgo;have ZV:=qg c an;refine⟨F',c.finish v,Y5,cr.finish v',Tn,nk,seen P fn WM,rfl,xM ZV v,fun x hx=>qg x (by simp[hx]),?_,fun f hf=>⟨?_,(Te f (c6 f hf)).2⟩,c3,c4,JH,hP.Lv c4,c6,hN⟩
    ·simp only[G,stepG,unwind,ql,c1,List.cons_append,GStep.after,doReturn,Array.append_empty]
    ·rw[(Te f (c6 f hf)).1,c2 f hf];exact AN (G:=Gm) (L:=L) c v ZV.todo
end
end
abbrev Tape:=Nat->Question->Nat
def WT(w:ae)(τ:Tape)(d:Nat):ae:={w with tape:=τ,drawn:=d}
def fX(w:ae)(c:Nat)(τ:Tape)(d:Nat):Prop:=∀j,j<c->∀q,τ (d+j) q=w.tape (w.drawn+j) q
theorem fX.le{w:ae}{c c':Nat}{τ:Tape}{d:Nat}(h:fX w c τ d)(hc:c'<=c):fX w c' τ d:=fun j hj q=>h j aa q
theorem fX.tail{w w':ae}{c c':Nat}{τ:Tape}{d:Nat}(h:fX w (c+c') τ d)(ht:w'.tape=w.tape)(hd:w'.drawn=w.drawn+c):fX w' c' τ (d+c):=by
 intro j hj q;rw[ht,hd,de,de];exact h (c+j) aa q
def WQ{α:Type}(τ:Tape)(d:Nat):Result α->Result α
 | .ok a w=>.ok a (WT w τ d)
 | .halt h w=>.halt h (WT w τ d)
def AQ{α:Type}:Result α->ae
 | .ok _ w=>w
 | .halt _ w=>w
def AS{α:Type}(P:Program)(s:Sem α)(w:ae)(es:Array Event)(c:Nat):Prop :=
 (AQ (s.runT P w es).1).tape=w.tape/\(AQ (s.runT P w es).1).drawn=w.drawn+c /\
 ∀τ d,fX w c τ d->s.runT P (WT w τ d) es=(WQ τ (d+c) (s.runT P w es).1,(s.runT P w es).2)
theorem LB(w:ae):w.sys .env=(.strings w.os.env,w):=rfl
theorem AT{α:Type}{P:Program}{s:Sem α}{w:ae}{es:Array Event}{s₁:Sem α}{w₁:ae}{es₁:Array Event}{c₀ c:Nat}(h:s.runT P w es=s₁.runT P w₁ es₁)(ht:w₁.tape=w.tape)(hd:w₁.drawn=w.drawn+c₀)(hw:∀τ d,fX w c₀ τ d->s.runT P (WT w τ d) es=s₁.runT P (WT w₁ τ (d+c₀)) es₁)(MU:AS P s₁ w₁ es₁ c):AS P s w es (c₀+c):=by
 obtain⟨a,b,e⟩:=MU;refine⟨by rw[h,a,ht],by rw[h,b,hd,de],fun τ d hA=>?_⟩;rw[hw τ d (hA.le aa),e τ (d+c₀) (hA.tail ht hd),h,de]
theorem fI{α:Type}{P:Program}{s:Sem α}{w:ae}{es:Array Event}{s₁:Sem α}{w₁:ae}{es₁:Array Event}{c:Nat}(h:s.runT P w es=s₁.runT P w₁ es₁)(ht:w₁.tape=w.tape)(hd:w₁.drawn=w.drawn)(hw:∀τ d,s.runT P (WT w τ d) es=s₁.runT P (WT w₁ τ d) es₁)(MU:AS P s₁ w₁ es₁ c):AS P s w es c:=by
 have:=AT (c₀:=0) h ht hd (fun τ d _=>hw τ d) MU;rwa[bh] at this
theorem iS{α:Type}{P:Program}{s:Sem α}{w:ae}{es:Array Event}{h:Halt}(e:s.runT P w es=(.halt h w,es))(hw:∀τ d,s.runT P (WT w τ d) es=(.halt h (WT w τ d),es)):AS P s w es 0:=by
 refine⟨by rw[e];rfl,by rw[e];rfl,fun τ d _=>?_⟩;rw[hw,e];rfl
theorem AU(p:Program)(w:ae)(τ:Tape)(d:Nat)(a:Addr)(at_:Bool):(WT w τ d).farLoad p a at_=w.farLoad p a at_:=rfl
theorem bind_map{α β γ:Type}{x:Except String α}{k:α->Except String β}{k':α->Except String γ}{g:β->γ}(h:∀a,k' a=(k a).map g):(x>>=k')=(x>>=k).map g:=by
 cases x with
 |error=>rfl
 |ok a=>exact h a
theorem EJ{p:Program}{w:ae}{τ:Tape}{d:Nat}{b:Addr}{u:TypeId}{a:Addr}{v:Value}{at_:Bool}:
  (WT w τ d).viewStore p b u a v at_=(w.viewStore p b u a v at_).map (fun x=>(WT x.1 τ d,x.2)):=by
 unfold World.viewStore;by_cases ht:(!tight p p.depth u)=true
 ·simp only[ht,if_true];rfl
 ·simp only[ht,if_false];have e:(WT w τ d).seen p b u a at_=w.seen p b u a at_:=rfl;rw[e];refine bind_map (fun x=>?_);obtain⟨c,e,z,first,Jq,cells⟩:=x;cases v.bytes? with
  |none=>rfl
  |some bytes =>
   simp only[];by_cases hl:(some bytes.length≠Jq.bytes?.map (·.length))
   ·rw[if_pos hl,if_pos hl];rfl
   ·rw[if_neg hl,if_neg hl];exact bind_map (fun c2=>rfl)
theorem yM{p:Program}{w:ae}{τ:Tape}{d:Nat}{a:Addr}{v:Value}{at_:Bool}:
  (WT w τ d).farStore p a v at_=(w.farStore p a v at_).map (fun x=>(WT x.1 τ d,x.2)):=by
 unfold World.farStore;show(match w.heap[a.block]? with|some (.view akf u)=>_|_=>_)=_;cases hh:w.heap[a.block]? with
 |none=>simp only[World.noCell,WT,hh];rfl
 |some o =>
  cases o<;>simp only[World.noCell,WT,hh]<;>first|rfl|skip
  rename_i b u;have:=EJ (p:=p) (w:=w) (τ:=τ) (d:=d) (b:=b) (u:=u) (a:=a) (v:=v) (at_:=at_);simp only[WT] at this;rw[this];cases w.viewStore p b u a v at_<;>rfl
theorem CN{p:Program}{w:ae}{b:Addr}{u:TypeId}{a:Addr}{v:Value}{at_:Bool}{x:ae×List Addr}(h:w.viewStore p b u a v at_=.ok x):x.1.tape=w.tape/\x.1.drawn=w.drawn:=by
 obtain⟨w1,ts⟩:=x;obtain⟨c,e,z,_,_,rfl,_⟩:=pX (f:=⟨fun x=>x,fun x=>x,fun x=>x,fun x=>x⟩) (wr:={w with heap:=w.heap.map (obj ⟨fun x=>x,fun x=>x,fun x=>x,fun x=>x⟩)}) (at':=b) (k':=a) an rfl rfl rfl rfl h;exact⟨rfl,rfl⟩
theorem vj{P:Program}{f:Rn}{α β:Type}{A:α->β->Prop}:∀(s:Sem α) (s':Sem β) (w:ae) (es:Array Event),Rel P f A s s'->∃c,AS P s w es c:=by
 intro s
 induction s with
 |pure a=>intro s' w es h;exact⟨0,rfl,rfl,fun τ d _=>rfl⟩
 |load m x k ih =>
  intro s' w es h;cases s'<;>simp only[Rel] at h;cases hc:w.cell? x with
  |some v =>
   obtain⟨c,hd⟩:=ih v _ w (es.push ⟨.cell x,false,m == .atomic⟩) (h.2.2 v);refine⟨c,fI (w₁:=w) (by simp only[Sem.runT,hc]) rfl rfl (fun τ d=>?_) hd⟩;have GG:(WT w τ d).cell? x=some v:=hc;simp only[Sem.runT,GG]
  |none =>
   have GG:∀τ d,(WT w τ d).cell? x=none:=fun τ d=>hc;cases hf:w.farLoad P x (m == .atomic) with
   |error hh =>
    refine⟨0,iS (h:=hh) (by simp only[Sem.runT,hc,hf]) (fun τ d=>?_)⟩;simp only[Sem.runT,GG τ d,AU,hf]
   |ok y =>
    obtain⟨v,ts⟩:=y;obtain⟨c,hd⟩:=ih v _ w (es++ts.toArray.map (⟨.cell ·,false,m == .atomic⟩)) (h.2.2 v);refine⟨c,fI (w₁:=w) (by simp only[Sem.runT,hc,hf]) rfl rfl (fun τ d=>?_) hd⟩;simp only[Sem.runT,GG τ d,AU,hf]
 |store m x v k ih =>
  intro s' w es h;cases s'<;>simp only[Rel] at h;by_cases b6:(∃c,v=.agg c)\/∃c,v=.tuple c
  ·rcases b6 with⟨c,rfl⟩|⟨c,rfl⟩
   ·exact⟨0,iS rfl (fun τ d=>rfl)⟩
   ·exact⟨0,iS rfl (fun τ d=>rfl)⟩
  ·have n1:∀c,v≠.agg c:=fun c e=>b6 (.inl ⟨c,e⟩);have n2:∀c,v≠.tuple c:=fun c e=>b6 (.inr ⟨c,e⟩);cases hc:w.cell? x with
   |some old =>
    have GG:∀τ d,(WT w τ d).cell? x=some old:=fun τ d=>hc;by_cases hz:w.frozen? x=true
    ·have Cq:∀τ d,(WT w τ d).frozen? x=true:=fun τ d=>hz;exact⟨0,iS (by rw[gJ n1 n2,hc];simp only[hz,if_true];rfl) (fun τ d=>by rw[gJ n1 n2,GG];simp only[Cq,if_true])⟩
    ·have Cq:∀τ d,¬(WT w τ d).frozen? x=true:=fun τ d=>hz;obtain⟨c,hd⟩:=ih _ (w.setCell x v) (es.push ⟨.cell x,true,m == .atomic⟩) h.2.2.2;refine⟨c,fI (w₁:=w.setCell x v) (by rw[gJ n1 n2,hc];simp only[hz,if_false];rfl) rfl rfl (fun τ d=>?_) hd⟩;rw[gJ n1 n2,GG];simp only[Cq,if_false];rfl
   |none =>
    have GG:∀τ d,(WT w τ d).cell? x=none:=fun τ d=>hc;cases hf:w.farStore P x v (m == .atomic) with
    |error hh =>
     refine⟨0,iS (h:=hh) (by rw[gJ n1 n2,hc];simp only[hf]) (fun τ d=>?_)⟩;rw[gJ n1 n2,GG];simp only[yM,hf,Except.map]
    |ok y =>
     obtain⟨w1,ts⟩:=y;obtain⟨b,u,Gd,I2⟩:=su hf;obtain⟨ht,Cr⟩:=CN I2;obtain⟨c,hd⟩:=ih _ w1 (es++ts.toArray.map (⟨.cell ·,true,m == .atomic⟩)) h.2.2.2;refine⟨c,fI (w₁:=w1) (by rw[gJ n1 n2,hc];simp only[hf]) ht Cr (fun τ d=>?_) hd⟩;rw[gJ n1 n2,GG];simp only[yM,hf,Except.map]
 |new o k ih =>
  intro s' w es h;cases s'<;>simp only[Rel] at h;obtain⟨c,hd⟩:=ih w.heap.size _ {w with heap:=w.heap.push o} es (h.2.2 _);exact⟨c,fI (w₁:={w with heap:=w.heap.push o}) rfl rfl rfl (fun τ d=>rfl) hd⟩
 |shape r k ih =>
  intro s' w es h;cases s'<;>simp only[Rel] at h;obtain⟨c,hd⟩:=ih (w.shape? r) _ w es (h.2 _);exact⟨c,fI (w₁:=w) rfl rfl rfl (fun τ d=>rfl) hd⟩
 |freeze a n k ih =>
  intro s' w es h;cases s'<;>simp only[Rel] at h;obtain⟨c,hd⟩:=ih _ (w.freeze a n) es h.2.2;have e:∀τ d,(WT w τ d).freeze a n=WT (w.freeze a n) τ d:=by
   intro τ d;unfold World.freeze;split<;>rfl
  refine⟨c,fI (w₁:=w.freeze a n) rfl (by unfold World.freeze;split<;>rfl) (by unfold World.freeze;split<;>rfl) (fun τ d=>?_) hd⟩;simp only[Sem.runT,e]
 |frozen a k ih =>
  intro s' w es h;cases s'<;>simp only[Rel] at h;obtain⟨c,hd⟩:=ih (w.frozen? a) _ w es (h.2 _);exact⟨c,fI (w₁:=w) rfl rfl rfl (fun τ d=>rfl) hd⟩
 |getObj r k ih =>
  intro s' w es h;cases s'<;>simp only[Rel] at h;cases ho:w.heap[r]? with
  |none =>
   have mr:∀τ d,(WT w τ d).heap[r]?=none:=fun τ d=>ho;exact⟨0,iS (by simp only[Sem.runT,ho];rfl) (fun τ d=>by simp only[Sem.runT,mr])⟩
  |some o =>
   have mr:∀τ d,(WT w τ d).heap[r]?=some o:=fun τ d=>ho;by_cases hc:∃c e z,o=.cells c e z
   ·obtain⟨c,e,z,rfl⟩:=hc;exact⟨0,iS (by simp only[Sem.runT,ho];rfl) (fun τ d=>by simp only[Sem.runT,mr])⟩
   ·obtain⟨c,hd⟩:=ih o _ w (es.push ⟨.obj r,false,o.isChan⟩) (h.2 _);have e1:∀w:ae,w.heap[r]?=some o->(Sem.getObj r k).runT P w es=(k o).runT P w (es.push ⟨.obj r,false,o.isChan⟩):=by
     intro w hw;simp only[Sem.runT,hw];cases o<;>first|rfl|exact absurd ⟨_,_,_,rfl⟩ hc
    exact⟨c,fI (w₁:=w) (e1 w ho) rfl rfl (fun τ d=>e1 _ (mr τ d)) hd⟩
 |setObj r o k ih =>
  intro s' w es h;cases s'<;>simp only[Rel] at h;cases ho:w.heap[r]? with
  |none =>
   have mr:∀τ d,(WT w τ d).heap[r]?=none:=fun τ d=>ho;exact⟨0,iS (by simp only[Sem.runT,ho];rfl) (fun τ d=>by simp only[Sem.runT,mr])⟩
  |some x =>
   have mr:∀τ d,(WT w τ d).heap[r]?=some x:=fun τ d=>ho;by_cases hc:∃c e z,x=.cells c e z
   ·obtain⟨c,e,z,rfl⟩:=hc;exact⟨0,iS (by simp only[Sem.runT,ho];rfl) (fun τ d=>by simp only[Sem.runT,mr])⟩
   ·obtain⟨c,hd⟩:=ih _ {w with heap:=w.heap.setIfInBounds r o} (es.push ⟨.obj r,true,o.isChan⟩) h.2.2.2;have e1:∀w:ae,w.heap[r]?=some x->(Sem.setObj r o k).runT P w es=k.runT P {w with heap:=w.heap.setIfInBounds r o} (es.push ⟨.obj r,true,o.isChan⟩):=by
     intro w hw;simp only[Sem.runT,hw];cases x<;>first|rfl|exact absurd ⟨_,_,_,rfl⟩ hc
    exact⟨c,fI (w₁:={w with heap:=w.heap.setIfInBounds r o}) (e1 w ho) rfl rfl (fun τ d=>e1 _ (mr τ d)) hd⟩
 |choose q k ih =>
  intro s' w es h;cases s'<;>simp only[Rel] at h;by_cases hq:q.forced=true
  ·obtain⟨c,hd⟩:=ih 0 _ w es (h.2 _);exact⟨c,fI (w₁:=w) (by simp only[Sem.runT,hq,if_true]) rfl rfl (fun τ d=>by simp only[Sem.runT,hq,if_true]) hd⟩
  ·obtain⟨c,hd⟩:=ih (q.cut (w.tape w.drawn q)) _ {w with drawn:=w.drawn+1} es (h.2 _);refine⟨1+c,AT (c₀:=1) (w₁:={w with drawn:=w.drawn+1}) (by simp[Sem.runT,hq]) rfl rfl (fun τ d hA=>?_) hd⟩;have h0:=hA 0 aa q;simp only[Nat.add_zero] at h0;simp[Sem.runT,hq,WT,h0]
 |sys c k ih =>
  intro s' w es h;cases s'<;>simp only[Rel] at h;have he:c=.env:=by
   have:=h.2.1;cases c<;>first|rfl|exact Bool.noConfusion this
  subst he;obtain⟨c,hd⟩:=ih (.strings w.os.env) _ w (es.push ⟨.output,true,false⟩) (h.2.2 _);exact⟨c,fI (w₁:=w) (by simp only[Sem.runT,LB]) rfl rfl (fun τ d=>by simp only[Sem.runT,LB];rfl) hd⟩
 |program k ih =>
  intro s' w es h;cases s'<;>simp only[Rel] at h;obtain⟨c,hd⟩:=ih P _ w es h;exact⟨c,fI (w₁:=w) rfl rfl rfl (fun τ d=>rfl) hd⟩
 |mark m k ih =>
  intro s' w es h;cases s'<;>simp only[Rel] at h;obtain⟨c,hd⟩:=ih _ w (es.push ⟨.mark m,false,true⟩) h.2.2;exact⟨c,fI (w₁:=w) rfl rfl rfl (fun τ d=>rfl) hd⟩
 |halt hh=>intro s' w es h;exact⟨0,iS rfl (fun τ d=>rfl)⟩
end Go.Ren
