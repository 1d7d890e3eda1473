import PyProof.Rows.All
import Wide.All
import OpenK.AllK
import Wide.FinOn
import Lean
import PyProof.EqAt
import PyProof.EqKinds
import PyProof.TupleCall
import PySem.Challenge.RW_thinbook_k75_the_size
local macro_rules | `(tactic| omega) => `(tactic| lia)
set_option Elab.async false
set_option linter.all false
set_option maxRecDepth 100000
open PySem.W (Frag nsIn fnOf codeIn keepIn mg_of)
namespace L2
open PySem PySem.Spec PyProof.Rows
abbrev Key:=Sum Int Str
def qow:Key->Value->Bool
 | .inl k,v=>Value.isInt k v
 | .inr x,v=>Value.isStrOf x v
def qD6 (w:World):Key->Int
 | .inl k=>hashInt k
 | .inr x=>hashStr w x
theorem qa6:∀ {k:Key} {v:Value},qow k v=true->(∃ i t,k=Sum.inl i/\v=Value.int i t)\/(∃ x t,k=Sum.inr x/\v=Value.str x t)
 | .inl i,v,h=>by
  obtain ⟨t,e⟩:=Value.isInt_shape (k:=i) (v:=v) h;exact .inl ⟨i,t,rfl,e⟩
 | .inr x,v,h=>by
  obtain ⟨t,e⟩:=Value.isStrOf_shape (x:=x) (v:=v) h;exact .inr ⟨x,t,rfl,e⟩
theorem qqd (i:Int) (t:Tok):qow (.inl i) (.int i t)=true:=by simp[qow,Value.isInt]
theorem qqe (x:Str) (t:Tok):qow (.inr x) (.str x t)=true:=by simp[qow,Value.isStrOf]
theorem qzp (a b:Int):decide ((Sum.inl a:Key)=Sum.inl b)=(a == b):=by
 by_cases e:a=b
 ·subst e;simp
 ·have h:¬ (Sum.inl a:Key)=Sum.inl b:=λq=>e (Sum.inl.inj q)
  rw[decide_eq_false h];exact (beq_eq_false_iff_ne.mpr e).symm
theorem qzq (a b:Str):decide ((Sum.inr a:Key)=Sum.inr b)=decide (a=b):=by
 by_cases e:a=b
 ·subst e;simp
 ·have h:¬ (Sum.inr a:Key)=Sum.inr b:=λq=>e (Sum.inr.inj q)
  rw[decide_eq_false h,decide_eq_false e]
theorem qzr (a:Int) (b:Str):decide ((Sum.inl a:Key)=Sum.inr b)=false:=decide_eq_false (λq=>nomatch q)
theorem qzs (a:Str) (b:Int):decide ((Sum.inr a:Key)=Sum.inl b)=false:=decide_eq_false (λq=>nomatch q)
def qbj (prog:Program) (w:World):PySem.KeyKind prog w Key where
 is:=qow
 hash:=qD6 w
 inj:=λv a b ha hb=>by
  rcases qa6 ha with ⟨i,t,rfl,rfl⟩|⟨x,t,rfl,rfl⟩
  ·rcases qa6 hb with ⟨j,u,rfl,e⟩|⟨y,u,rfl,e⟩
   ·injection e with e1 _;rw[e1]
   ·exact nomatch e
  ·rcases qa6 hb with ⟨j,u,rfl,e⟩|⟨y,u,rfl,e⟩
   ·exact nomatch e
   ·injection e with e1 _;rw[e1]
 byValue:=λk v h=>by
  rcases qa6 h with ⟨i,t,rfl,rfl⟩|⟨x,t,rfl,rfl⟩<;>rfl
 pyHash:=λhv h=>by
  rcases qa6 hv with ⟨i,t,rfl,rfl⟩|⟨x,t,rfl,rfl⟩
  ·exact wpAny_pyHash_int h
  ·exact wpAny_pyHash_str h
 eqBool:=λhu hv h=>by
  rcases qa6 hu with ⟨i,t,rfl,rfl⟩|⟨x,t,rfl,rfl⟩
  ·rcases qa6 hv with ⟨j,u,rfl,rfl⟩|⟨y,u,rfl,rfl⟩
   ·rw[qzp] at h;exact wpAny_eqBool_int h
   ·rw[qzr] at h;exact SeqAt.EqAt.int_str i t y u _ _ _ _ h
  ·rcases qa6 hv with ⟨j,u,rfl,rfl⟩|⟨y,u,rfl,rfl⟩
   ·rw[qzs] at h;exact SeqAt.EqAt.str_int x t j u _ _ _ _ h
   ·rw[qzq] at h;exact wpAny_eqBool_str h
 «strs» :=λk x t v h=>by
  rcases qa6 h with ⟨i,u,rfl,e⟩|⟨y,u,rfl,e⟩
  ·exact nomatch e
  ·injection e with e1 _
   subst e1
   cases v<;>rfl
theorem qmn (prog:Program) (w:World) (i:Int) (t:Tok):(qbj prog w).is (.inl i) (.int i t)=true:=qqd i t
theorem qmo (prog:Program) (w:World) (x:Str) (t:Tok):(qbj prog w).is (.inr x) (.str x t)=true:=qqe x t
open PySem PySem.Spec PyProof.Rows
inductive V where
 | non|bl (b:Bool)|int (i:Int)|str (x:Str)|byt (b:Array UInt8)|flt (b:UInt64)|ref (a:Addr)|ty (n:String)
 deriving DecidableEq
def RelV:V->Value->Prop
 | .non,u=>u=Value.none
 | .bl b,u=>u=Value.bool b
 | .int i,u=>∃ t,u=Value.int i t
 | .str x,u=>∃ t,u=Value.str x t
 | .byt b,u=>∃ t,u=Value.bytes b t
 | .flt b,u=>∃ t,u=Value.float b t
 | .ref a,u=>u=Value.ref a
 | .ty n,u=>u=Value.type n
abbrev Vals:List V->List Value->Prop:=Paired RelV
theorem Vals.length {xs:List V} {us:List Value} (r:Vals xs us):xs.length=us.length:=Paired.length r
theorem Vals.get:∀ {xs:List V} {us:List Value} {i:Nat} {x:V},Vals xs us->xs[i]?=some x->∃ u,us[i]?=some u/\RelV x u
 | _,_,_,_,.nil,e=>by simp at e
 | _,_,0,_,.cons r _,e=>by simp at e;subst e;exact ⟨_,rfl,r⟩
 | _,_,i+1,x,.cons _ t,e=>by
  obtain ⟨u,h1,h2⟩:=Vals.get (i:=i) (x:=x) t (by simpa using e);exact ⟨u,by simpa using h1,h2⟩
theorem Vals.append:∀ {xs ys:List V} {us ws:List Value},Vals xs us->Vals ys ws->Vals (xs ++ ys) (us ++ ws)
 | _,_,_,_,.nil,s=>s
 | _,_,_,_,.cons r t,s=>.cons r (Vals.append t s)
theorem Vals.take:∀ {xs:List V} {us:List Value} (n:Nat),Vals xs us->Vals (xs.take n) (us.take n)
 | _,_,0,_=>.nil
 | _,_,_+1,.nil=>.nil
 | _,_,n+1,.cons r t=>.cons r (Vals.take n t)
theorem Vals.drop:∀ {xs:List V} {us:List Value} (n:Nat),Vals xs us->Vals (xs.drop n) (us.drop n)
 | _,_,0,r=>r
 | _,_,_+1,.nil=>.nil
 | _,_,n+1,.cons _ t=>Vals.drop n t
def RelO:Option V->Option Value->Prop
 | some v,some u=>RelV v u
 | none,none=>True
 | _,_=>False
def KV {κ:Type}:List (κ×V)->List (κ×Value)->Prop:=Paired fun (p:κ×V) (q:κ×Value)=>p.1=q.1/\RelV p.2 q.2
def kV:Key->V
 | .inl i=>.int i
 | .inr x=>.str x
inductive HO where
 | lst (xs:List V)
 | tup (xs:List V)
 | dK (kvs:List (Key×V))|dT (kvs:List (List Key×V))
 | set (S:Int->Bool) (n:Nat)
 | ins (C dx:Addr) (fs:List (Str×V))
 | own (x:Addr)
 | xd (fs:List (Str×V))
 | met (f x:Addr)
 | rng (lo hi:Int)
 | frz (o:Obj) (u:HO)
 | tbl (ps:Array Value)
 | ext (φ:Heap->Prop)
abbrev Hp:=Addr->Option HO
def upd (H:Hp) (a:Addr) (o:HO):Hp:=λb=>if b=a then some o else H b
theorem qba {H:Hp} {a:Addr} {o:HO}:upd H a o a=some o:=by unfold upd;rw[if_pos rfl]
theorem qa1 {H:Hp} {a b:Addr} {o:HO} (h:b≠a):upd H a o b=H b:=by unfold upd;rw[if_neg h]
theorem qap {H:Hp} {a b:Addr} {o u:HO} (h:H a=some o) (h':H b=some u) (d:o≠u):a≠b:=by
 intro e;subst e;rw[h] at h';exact d (Option.some.inj h')
theorem qac {H:Hp} {a b:Addr} {o:HO} (h:H a=some o) (h':H b=none):a≠b:=by
 intro e;subst e;rw[h] at h';cases h'
section
variable (P:Program) (w:World)
def ObjOk (H:Hp) (h:Heap) (a:Addr):HO->Prop
 | .lst xs=>xs.length<=sizeLine/\∃ (its:List Value) (n:Nat),Vals xs its/\h.get? a=some { cls:=.type "list",data:=.seq its.toArray n }
 | .tup xs=>xs.length<=sizeLine/\∃ its:List Value,Vals xs its/\IsTup h a its.toArray
 | .dK kvs=>kvs.length<=sizeLine/\(a == sysModules)=false/\∃ vs,KV kvs vs/\h.DictOf (qbj P w) a vs
 | .dT kvs=>kvs.length<=sizeLine/\(a == sysModules)=false/\∃ xs:List (List Key×Addr×Value),
   Paired (fun (p:List Key×V) (q:List Key×Addr×Value)=>p.1=q.1/\H q.2.1=some (.tup (p.1.map kV))/\RelV p.2 q.2.2) kvs xs /\
   ∃ o es ep,h.get? a=some o/\o.ExactDict/\o.data=.dict es ep/\es.toList=xs.map (entryOfKey (tupleKind (qbj P w)))/\(xs.map (·.1)).Nodup
 | .set S n=>h.SetOf (intKind P w) a S n
 | .ins C dx fs=>H dx=some (.own a)/\fs.length<=1000/\dx≠a/\h.get? a=some (PySem.W.instObj C dx) /\
   ∃ mA,h.Ns1 dx mA/\(∀ f,RelO (fs.lookup f) (mA f))/\PySem.Within mA (fs.map (·.1))
 | .own _=>∃ o,h.get? a=some o
 | .xd fs=>∃ mA,h.Ns1 a mA/\∀ f,RelO (fs.lookup f) (mA f)
 | .rng lo hi=>∃ t u v,h.get? a=some { cls:=.type "range",data:=.fields #[.int lo t,.int hi u,.int 1 v] }
 | .frz o u=>h.get? a=some o/\ObjOk H h a u
 | .tbl ps=>h.get? a=some { cls:=.none,data:=.fields ps }
 | .met f x=>h.get? a=some (PySem.W.methodObj (.ref f) (.ref x))
 | .ext φ=>φ h/\(∃ o,h.get? a=some o)/\∀ h1 h2:Heap,φ h1->(∀ o,h1.get? a=some o->h2.get? a=some o)->φ h2
def HOk (H:Hp) (h:Heap):Prop:=∀ a o,H a=some o->ObjOk P w H h a o
end
section
variable {P:Program} {w:World} {H H':Hp} {h h':Heap} {a:Addr} {o:HO}
theorem ObjOk.lt (x:ObjOk P w H h a o):a<h.objs.size:=by
 cases o with
 | lst xs=>obtain ⟨_,_,_,_,e⟩:=x;exact Heap.lt_size e
 | tup xs=>obtain ⟨_,_,_,p⟩:=x;exact p.lt
 | dK kvs=>obtain ⟨_,_,_,_,o,_,_,e,_⟩:=x;exact Heap.lt_size e
 | dT kvs=>obtain ⟨_,_,_,_,o,_,_,e,_⟩:=x;exact Heap.lt_size e
 | set S n=>obtain ⟨o,_,_,_,e,_⟩:=x;exact Heap.lt_size e
 | ins C dx fs=>obtain ⟨_,_,_,e,_⟩:=x;exact Heap.lt_size e
 | own y=>obtain ⟨_,e⟩:=x;exact Heap.lt_size e
 | xd fs=>obtain ⟨_,⟨_,_,_,e,_⟩,_⟩:=x;exact Heap.lt_size e
 | rng lo hi=>obtain ⟨_,_,_,e⟩:=x;exact Heap.lt_size e
 | frz ob u=>obtain ⟨e,_⟩:=x;exact Heap.lt_size e
 | tbl ps=>exact Heap.lt_size (show h.get? a=some _ from x)
 | met f y=>exact Heap.lt_size (show h.get? a=some _ from x)
 | ext φ=>obtain ⟨_,⟨_,e⟩,_⟩:=x;exact Heap.lt_size e
theorem Paired.mapP {α β:Type} {F G:α->β->Prop}:∀ {l₁:List α} {l₂:List β},Paired F l₁ l₂->(∀ a b,F a b->G a b)->Paired G l₁ l₂
 | _,_,.nil,_=>.nil
 | _,_,.cons r t,f=>.cons (f _ _ r) (Paired.mapP t f)
theorem ObjOk.stay (x:ObjOk P w H h a o) (k:∀ b u,(b=a\/H b=some (.own a))->h.get? b=some u->h'.get? b=some u)
  (ho:∀ b,H b=some (.own a)->H' b=some (.own a)) (ht:∀ b xs,H b=some (.tup xs)->H' b=some (.tup xs)):ObjOk P w H' h' a o:=by
 induction o with
 | lst xs=>obtain ⟨z,its,n,r,e⟩:=x;exact ⟨z,its,n,r,k _ _ (.inl rfl) e⟩
 | tup xs=>obtain ⟨z,its,r,ob,e,c⟩:=x;exact ⟨z,its,r,ob,k _ _ (.inl rfl) e,c⟩
 | dK kvs=>obtain ⟨z,y,vs,r,ob,es,ep,e,c⟩:=x;exact ⟨z,y,vs,r,ob,es,ep,k _ _ (.inl rfl) e,c⟩
 | dT kvs =>
  obtain ⟨z,y,xs,r,ob,es,ep,e,c⟩:=x;exact ⟨z,y,xs,Paired.mapP r λp q z=>⟨z.1,ht _ _ z.2.1,z.2.2⟩,ob,es,ep,k _ _ (.inl rfl) e,c⟩
 | set S n=>obtain ⟨ob,es,ep,t,e,c⟩:=x;exact ⟨ob,es,ep,t,k _ _ (.inl rfl) e,c⟩
 | ins C dx fs =>
  obtain ⟨d,z,ne,e,mA,⟨od,es,ep,e2,c⟩,r⟩:=x;exact ⟨ho _ d,z,ne,k _ _ (.inl rfl) e,mA,⟨od,es,ep,k _ _ (.inr d) e2,c⟩,r⟩
 | own y=>obtain ⟨ob,e⟩:=x;exact ⟨ob,k _ _ (.inl rfl) e⟩
 | xd fs=>obtain ⟨mA,⟨od,es,ep,e,c⟩,r⟩:=x;exact ⟨mA,⟨od,es,ep,k _ _ (.inl rfl) e,c⟩,r⟩
 | rng lo hi=>obtain ⟨t,u,v,e⟩:=x;exact ⟨t,u,v,k _ _ (.inl rfl) e⟩
 | frz ob u ih=>obtain ⟨e,q⟩:=x;exact ⟨k _ _ (.inl rfl) e,ih q⟩
 | tbl ps =>
  have e:h.get? a=some { cls:=.none,data:=.fields ps }:=x
  show h'.get? a=some { cls:=.none,data:=.fields ps }
  exact k a _ (.inl rfl) e
 | met f y =>
  have e:h.get? a=some (PySem.W.methodObj (.ref f) (.ref y)):=x
  show h'.get? a=some (PySem.W.methodObj (.ref f) (.ref y))
  exact k a _ (.inl rfl) e
 | ext φ=>obtain ⟨p,⟨o,e⟩,st⟩:=x;exact ⟨st _ _ p λo q=>k _ _ (.inl rfl) q,⟨o,k _ _ (.inl rfl) e⟩,st⟩
theorem HOk.lt (x:HOk P w H h) (e:H a=some o):a<h.objs.size:=(x a o e).lt
theorem HOk.fresh (x:HOk P w H h) (e:h.objs.size<=a):H a=none:=by
 cases q:H a with
 | none=>rfl
 | some u=>exact absurd (Nat.lt_of_lt_of_le (x.lt q) e) (Nat.lt_irrefl _)
theorem HOk.kept (x:HOk P w H h) (k:∀ b u,h.get? b=some u->h'.get? b=some u):HOk P w H h':=λa o e =>
 (x a o e).stay (λb u _ q=>k b u q) (λ_ q=>q) λ_ _ q=>q
theorem HOk.laid (x:HOk P w H h) (k:∀ b u,h.get? b=some u->h'.get? b=some u) (hp:h.objs.size<=a) (new:ObjOk P w (upd H a o) h' a o):HOk P w (upd H a o) h':=λb u e=>by
 have hn:=x.fresh hp
 by_cases hb:b=a
 ·subst hb;rw[qba] at e;cases e;exact new
 ·rw[qa1 hb] at e
  exact (x b u e).stay (λc v _ q=>k c v q) (λc q=>by rw[qa1 (qac q hn)];exact q) λc xs q=>by rw[qa1 (qac q hn)];exact q
end
def Rd (H:Hp) (a:Addr) (u:HO):Prop:=H a=some u\/∃ o,H a=some (.frz o u)
theorem Rd.ok {P:Program} {w:World} {H:Hp} {h:Heap} {a:Addr} {u:HO} (r:Rd H a u) (x:HOk P w H h):ObjOk P w H h a u:=by
 rcases r with r|⟨o,r⟩
 ·exact x a u r
 ·obtain ⟨_,q⟩:=x a _ r
  exact q
def Mut:Option HO->Prop
 | some (.lst _)=>True
 | some (.dK _)=>True
 | some (.dT _)=>True
 | some (.set _ _)=>True
 | some (.ins _ _ _)=>True
 | some (.ext _)=>True
 | _=>False
section
variable {P:Program} {w:World} {H:Hp} {h h':Heap} {x e:Addr} {o':HO}
theorem HOk.write (ok:HOk P w H h) (mu:Mut (H x)) (he:e=x\/H e=some (.own x)) (k:∀ b u,b≠e->h.get? b=some u->h'.get? b=some u) (heo:∃ u,h'.get? e=some u)
  (new:ObjOk P w (upd H x o') h' x o'):HOk P w (upd H x o') h':=λb u q=>by
 have nown:∀ c y,H c=some (.own y)->c≠x:=λc y r z=>by subst z;rw[r] at mu;exact mu
 have ntup:∀ c xs,H c=some (.tup xs)->c≠x:=λc xs r z=>by subst z;rw[r] at mu;exact mu
 by_cases hb:b=x
 ·subst hb;rw[qba] at q;cases q;exact new
 ·rw[qa1 hb] at q
  by_cases hbe:b=e
  ·have q':H b=some (.own x):=by
    rcases he with z|z
    ·exact absurd (hbe.trans z) hb
    ·rw[hbe];exact z
   rw[q] at q';cases q';obtain ⟨v,hv⟩:=heo;exact ⟨v,by rw[hbe];exact hv⟩
  ·refine (ok b u q).stay (λc v hc r=>k c v ?_ r) (λc r=>by rw[qa1 (nown c b r)];exact r) λc xs r=>by rw[qa1 (ntup c xs r)];exact r
   rcases hc with rfl|hc
   ·exact hbe
   ·rintro rfl
    rcases he with z|z
    ·exact nown c b hc z
    ·rw[hc] at z;cases z;exact hb rfl
end
structure Un (fs ex:List Addr) (H H':Hp) (h h':Heap):Prop where
 keep:∀ b o,h.get? b=some o->H b=none->b ∉ fs->b ∉ ex->h'.get? b=some o
 slot:∀ b o,h.get? b=some o->H b=none->b∈fs->b ∉ ex->∃ sl,h'.get? b=some { o with slots:=sl }
 free:∀ b o,h.get? b=some o->H b=none->b ∉ ex->H' b=none
 there:∀ b o,h.get? b=some o->b ∉ ex->∃ o',h'.get? b=some o'
 tups:∀ b xs,H b=some (.tup xs)->H' b=some (.tup xs)
 frzs:∀ b o u,H b=some (.frz o u)->H' b=some (.frz o u)
 tbls:∀ b ps,H b=some (.tbl ps)->∃ more,H' b=some (.tbl (ps ++ more))
section
variable {fs fs' ex ex':List Addr} {H H1 H2:Hp} {h h1 h2 h':Heap} {a x e:Addr} {o:HO}
theorem Un.any (u:Un fs ex H H1 h h1) {b:Addr} {ob:Obj} (q:h.get? b=some ob) (n:H b=none) (hx:b ∉ ex):∃ sl,h1.get? b=some { ob with slots:=sl }:=by
 by_cases hb:b∈fs
 ·exact u.slot b ob q n hb hx
 ·exact ⟨ob.slots,u.keep b ob q n hb hx⟩
theorem Un.kept (k:∀ b u,h.get? b=some u->h'.get? b=some u):Un fs ex H H h h':=
 ⟨λb ob q _ _ _=>k b ob q,λb ob q _ _ _=>⟨ob.slots,k b ob q⟩,λ_ _ _ n _=>n,λb ob q _=>⟨ob,k b ob q⟩,λ_ _ q=>q,λ_ _ _ q=>q,λ_ ps q=>⟨#[],by rw[q];simp⟩⟩
theorem Un.refl:Un fs ex H H h h:=Un.kept λ_ _ q=>q
theorem Un.laid (k:∀ b u,h.get? b=some u->h'.get? b=some u) (hp:h.objs.size<=a) (hn:H a=none):Un fs ex H (upd H a o) h h' where
 keep:=λb u q _ _ _=>k b u q
 slot:=λb u q _ _ _=>⟨u.slots,k b u q⟩
 free:=λb u q n _=>by rw[qa1 (Nat.ne_of_lt (Nat.lt_of_lt_of_le (Heap.lt_size q) hp))];exact n
 there:=λb u q _=>⟨u,k b u q⟩
 tups:=λb xs q=>by rw[qa1 (qac q hn)];exact q
 frzs:=λb u xs q=>by rw[qa1 (qac q hn)];exact q
 tbls:=λb ps q=>⟨#[],by rw[qa1 (qac q hn),q];simp⟩
theorem Un.write (mu:Mut (H x)) (he:e=x\/H e=some (.own x)) (k:∀ b u,b≠e->h.get? b=some u->h'.get? b=some u) (heo:∃ u,h'.get? e=some u):Un fs ex H (upd H x o) h h':=by
 have hx:∀ b,H b=none->b≠x:=λb n z=>by subst z;rw[n] at mu;exact mu
 have hb:∀ b,H b=none->b≠e:=λb n z=>by
  subst z
  rcases he with r|r
  ·exact hx b n r
  ·rw[n] at r;cases r
 have hm:∀ b u,H b=some u->¬ Mut (some u)->b≠x:=λb u q nm z=>by subst z;rw[q] at mu;exact nm mu
 refine ⟨λb u q n _ _=>k b u (hb b n) q,λb u q n _ _=>⟨u.slots,k b u (hb b n) q⟩,λb u q n _=>by rw[qa1 (hx b n)];exact n,λb u q _=>?_,
  λb xs q=>by rw[qa1 (hm b _ q λz=>z)];exact q,λb u xs q=>by rw[qa1 (hm b _ q λz=>z)];exact q,λb ps q=>⟨#[],by rw[qa1 (hm b _ q λz=>z),q];simp⟩⟩
 by_cases hbe:b=e
 ·subst hbe;exact heo
 ·exact ⟨u,k b u hbe q⟩
end
def trk (h:Heap) (H:Hp):List Addr:=(List.range h.objs.size).filter λa=>(H a).isSome
def qtw (h:Heap) (H:Hp):Heap:=PySem.W.hideAll h (trk h H)
theorem qqf (h:Heap) (H:Hp):(qtw h H).objs.size=h.objs.size:=PySem.W.hideAll_size _ _
theorem qtx {h:Heap} {H:Hp} {b:Addr} {o:Obj} (e:h.get? b=some o) (n:H b=none):(qtw h H).get? b=some o:=
 PySem.W.hideAll_get _ e λhm=>by
  have q:(H b).isSome=true:=(List.mem_filter.mp hm).2;rw[n] at q;simp at q
theorem qw7 {h:Heap} {H:Hp} {b:Addr} {o:Obj} (e:(qtw h H).get? b=some o):h.get? b=some o/\H b=none:=by
 have e':h.get? b=some o:=PySem.W.of_hideAll (trk h H) e;refine ⟨e',?_⟩
 cases q:H b with
 | none=>rfl
 | some x =>
  have hm:b∈trk h H:=List.mem_filter.mpr ⟨List.mem_range.mpr (Heap.lt_size e'),by simp[q]⟩;have z:(qtw h H).get? b=none:=PySem.W.hideAll_none (trk h H) hm;rw[z] at e;cases e
def qw8 (g h:Heap) (L:Addr):List (Addr×Obj):=(List.range h.objs.size).filterMap λa=>if a=L\/(g.get? a).isSome=true then none else (h.get? a).map λo=>(a,o)
def rest (g h:Heap) (L d:Addr):List (Addr×Obj):=(qw8 g h L).filter λp=>decide (p.1≠d)
open PySem PySem.Spec PyProof.Rows
structure Mod (K:Frag) (mg:Str->Option Value) (base:Heap):Prop where
 kin:K.In base
 glob:base.Ns mainGlobals mg
 blt:∃ mb,base.Ns builtinsNs mb/\∀ x:Str,x ≠ "__name__" -> mb x=bootBuiltins x
 nolimit:base.NoLimit
 nodig:base.NoDigits
structure Cx where
 prog:Program
 w:World
 K:Frag
 mg:Str->Option Value
 base:Heap
 A:Around
 N:List Str
 s₀:Shared
 H₀:Hp
 env:Env
 outer:List Env
 stack:List Env
 ex:List Addr
 fn:Str->Bool
 calm:Bool
 pn:List (Addr×Obj)
 xe:Value->Shared->Prop
def frs (l:List Env):List Addr:=l.filterMap (·.frame)
abbrev Cx.fs (X:Cx):List Addr:=frs X.outer
def Vis (sc:Scope) (x:Str):Prop:=sc.names.lookup x=some .local\/sc.names.lookup x=some .cell\/sc.names.lookup x=some .free
def Loc (sc:Scope) (x:Str):Prop:=sc.names.lookup x=some .local\/sc.names.lookup x=some .cell
def Look (env:Env) (h:Heap) (m:Str->Option Value) (x:Str) (u:Value):Prop:=
 (env.kindOf x=some .local/\m x=some u)\/((env.kindOf x=some .cell\/env.kindOf x=some .free)/\∃ c,env.cells.lookup x=some c/\h.IsCell c (some u))
structure Cx.Ok (X:Cx):Prop where
 mod:Mod X.K X.mg X.base
 kind:X.env.scope.kind=.function
 glob:X.env.globals=mainGlobals
 blt:X.env.builtins=builtinsNs
 above:X.s₀.heap.objs.size<=X.env.locals
 inj:∀ x y c,X.env.cells.lookup x=some c->X.env.cells.lookup y=some c->x=y
 has:∀ x,(X.env.kindOf x=some .cell\/X.env.kindOf x=some .free)->∃ c,X.env.cells.lookup x=some c
 cab:∀ x c,X.fn x=true->X.env.cells.lookup x=some c->X.s₀.heap.objs.size<=c
 hd:X.calm=true->X.A.handled=none
 frames:X.A.frames=some X.stack
 stk:X.stack=X.outer\/(X.stack=X.env :: X.outer/\X.env.frame=some X.env.locals)
 exf:∀ b∈X.ex,b≠X.env.locals/\∀ x c,X.env.cells.lookup x=some c->c≠b
 bs:∀ b o,X.base.get? b=some o->X.s₀.heap.get? b=some o/\X.H₀ b=none
 bsz:X.base.objs.size<=X.s₀.heap.objs.size
 noex:∀ b o,X.base.get? b=some o->b ∉ X.ex
 exfs:∀ b∈X.ex,b ∉ X.fs
 funs:X.s₀.heap.FunFrames X.base X.outer
 frf:∀ b∈X.fs,X.H₀ b=none
structure Inv (X:Cx) (pins:List (Addr×Obj)) (σ:List (Option V)) (H:Hp) (s:Shared):Prop where
 ok:X.Ok
 os:s.os=X.s₀.os
 bare:AllBare s.gens
 base:Un X.fs X.ex X.H₀ H X.s₀.heap s.heap
 loc:∃ m,s.heap.Ns X.env.locals m/\∀ (i:Nat) (x:Str) (v:V),X.N[i]?=some x->σ[i]?=some (some v)->Vis X.env.scope x->∃ u,RelV v u/\Look X.env s.heap m x u
 cell:∀ x c,X.env.cells.lookup x=some c->∃ v,s.heap.IsCell c v
 free:H X.env.locals=none
 freeC:∀ x c,X.env.cells.lookup x=some c->H c=none
 pin:∀ p∈X.pn ++ pins,s.heap.get? p.1=some p.2/\H p.1=none/\p.1≠X.env.locals/\p.1 ∉ X.fs/\∀ v,p.2.data≠.cell v
 hok:HOk X.prog X.w H s.heap
 len:σ.length=X.N.length
section
variable {X:Cx} {pins:List (Addr×Obj)} {σ:List (Option V)} {H H':Hp} {s:Shared} {h':Heap}
theorem Cx.Ok.nofr (ok:X.Ok) {b:Addr} {o:Obj} (e:X.base.get? b=some o):b ∉ X.fs:=λhb=>by
 have:=(ok.funs.mem hb).1;rw[e] at this;cases this
theorem Inv.bs (I:Inv X pins σ H s):∀ b o,X.base.get? b=some o->s.heap.get? b=some o/\H b=none:=λb o e =>
 ⟨I.base.keep b o (I.ok.bs b o e).1 (I.ok.bs b o e).2 (I.ok.nofr e) (I.ok.noex b o e),I.base.free b o (I.ok.bs b o e).1 (I.ok.bs b o e).2 (I.ok.noex b o e)⟩
theorem Inv.bk (I:Inv X pins σ H s):∀ b o,X.base.get? b=some o->s.heap.get? b=some o:=λb o e=>(I.bs b o e).1
theorem Inv.mod (I:Inv X pins σ H s):Mod X.K X.mg X.base:=I.ok.mod
theorem Inv.kIn (I:Inv X pins σ H s):X.K.In s.heap:=I.ok.mod.kin.keeps I.bk
theorem Inv.lt (I:Inv X pins σ H s):X.env.locals<s.heap.objs.size:=let ⟨_,hn,_⟩:=I.loc;hn.lt
theorem Inv.sz (I:Inv X pins σ H s):X.s₀.heap.objs.size<=s.heap.objs.size:=Nat.le_trans I.ok.above (Nat.le_of_lt I.lt)
theorem Inv.nofs (I:Inv X pins σ H s) {a:Addr} (h:s.heap.objs.size<=a):a ∉ X.fs:=λhb=>by
 obtain ⟨_,o,ho,_⟩:=I.ok.funs.mem hb;exact absurd (Nat.lt_of_lt_of_le (Heap.lt_size ho) (Nat.le_trans I.sz h)) (Nat.lt_irrefl _)
theorem Inv.cne (I:Inv X pins σ H s):∀ x c,X.env.cells.lookup x=some c->c≠X.env.locals:=λx c e z=>by
 obtain ⟨v,o,ho,hd⟩:=I.cell x c e;obtain ⟨m,⟨o',es,ep,ho',hd',_⟩,_⟩:=I.loc;rw[z,ho'] at ho;cases ho;rw[hd'] at hd;cases hd
theorem Inv.funs (I:Inv X pins σ H s):s.heap.FunFrames X.base X.outer:=by
 have all:∀ (l:List Env),(∀ b∈frs l,b∈X.fs)->X.s₀.heap.FunFrames X.base l->s.heap.FunFrames X.base l:=by
  intro l
  induction l with
  | nil=>intro _ _;trivial
  | cons env r ih =>
   intro hs hl;obtain ⟨hk,⟨L,o,hf,hn,ho,hd⟩,hr⟩:=hl;have hL:L∈X.fs:=hs L (by unfold frs;rw[List.filterMap_cons,hf];exact List.mem_cons_self);obtain ⟨sl,e⟩:=I.base.slot L o ho (I.ok.frf L hL) hL λz=>I.ok.exfs L z hL
   exact ⟨hk,⟨L,_,hf,hn,e,hd⟩,ih (λb hb=>hs b (by unfold frs;rw[List.filterMap_cons,hf];exact List.mem_cons_of_mem _ hb)) hr⟩
 exact all X.outer (λ_ hb=>hb) I.ok.funs
theorem Inv.stack (I:Inv X pins σ H s):s.heap.FunFrames X.base X.stack:=by
 rcases I.ok.stk with e|⟨e,hf⟩
 ·rw[e];exact I.funs
 ·rw[e]
  obtain ⟨m,hn,_⟩:=I.loc;refine .cons (by rw[I.ok.kind];decide) hf hn ?_ I.funs;exact Heap.get?_none_of_le (Nat.le_trans I.ok.bsz I.ok.above)
theorem Inv.stkSub (I:Inv X pins σ H s):∀ b∈frs X.stack,b∈X.env.locals :: X.fs:=λb hb=>by
 rcases I.ok.stk with e|⟨e,hf⟩
 ·rw[e] at hb;exact List.mem_cons_of_mem _ hb
 ·rw[e] at hb
  unfold frs at hb;rw[List.filterMap_cons,hf] at hb;exact hb
theorem Inv.stkFree (I:Inv X pins σ H s):∀ b∈frs X.stack,H b=none:=λb hb=>by
 rcases List.mem_cons.mp (I.stkSub b hb) with e|hb
 ·rw[e];exact I.free
 ·obtain ⟨_,o,ho,_⟩:=I.ok.funs.mem hb
  exact I.base.free b o ho (I.ok.frf b hb) λz=>I.ok.exfs b z hb
theorem Inv.step {g':Array GenState} {t':Nat} {d':Drawn} {ch:List Addr} (I:Inv X pins σ H s)
  (hch:∀ b∈ch,(b∈X.ex\/X.s₀.heap.objs.size<=b)/\b≠X.env.locals/\(∀ x c,X.env.cells.lookup x=some c->c≠b)/\∀ p∈X.pn ++ pins,p.1≠b)
  (keep:∀ b o,b≠X.env.locals->b ∉ X.fs->b ∉ ch->s.heap.get? b=some o->H b=none->h'.get? b=some o)
  (slot:∀ b o,b≠X.env.locals->b∈X.fs->b ∉ ch->s.heap.get? b=some o->H b=none->∃ sl,h'.get? b=some { o with slots:=sl }) (free:∀ b o,b ∉ ch->s.heap.get? b=some o->H b=none->H' b=none)
  (there:∀ b o,b ∉ ch->s.heap.get? b=some o->∃ o',h'.get? b=some o')
  (tups:∀ b xs,H b=some (.tup xs)->H' b=some (.tup xs)) (frzs:∀ b o u,H b=some (.frz o u)->H' b=some (.frz o u)) (tbls:∀ b ps,H b=some (.tbl ps)->∃ more,H' b=some (.tbl (ps ++ more)))
  (ns:∀ m,s.heap.Ns X.env.locals m->h'.Ns X.env.locals m) (hok:HOk X.prog X.w H' h') (hg:AllBare g') :
  Inv X pins σ H' { s with heap:=h',gens:=g',drawn:=d',toks:=t' }:=by
 have neL:∀ b o,X.s₀.heap.get? b=some o->b≠X.env.locals:=λb o e=>Nat.ne_of_lt (Nat.lt_of_lt_of_le (Heap.lt_size e) I.ok.above)
 have neC:∀ b o,X.s₀.heap.get? b=some o->b ∉ X.ex->b ∉ ch:=λb o e hx hb=>by
  rcases (hch b hb).1 with z|z
  ·exact hx z
  ·exact absurd (Nat.lt_of_lt_of_le (Heap.lt_size e) z) (Nat.lt_irrefl _)
 have cellK:∀ x c,X.env.cells.lookup x=some c->∀ v,s.heap.IsCell c v->h'.IsCell c v:=λx c e v ⟨o,ho,hd⟩=>by
  have nch:c ∉ ch:=λz=>(hch c z).2.2.1 x c e rfl
  by_cases hc:c∈X.fs
  ·obtain ⟨sl,q⟩:=slot c o (I.cne x c e) hc nch ho (I.freeC x c e)
   exact ⟨_,q,hd⟩
  ·exact ⟨o,keep c o (I.cne x c e) hc nch ho (I.freeC x c e),hd⟩
 refine ⟨I.ok,I.os,hg,⟨λb o e n hb hx=>?_,λb o e n hb hx=>?_,λb o e n hx=>?_,λb o e hx=>?_,λb xs e=>tups b xs (I.base.tups b xs e),λb o xs e=>frzs b o xs (I.base.frzs b o xs e),λb ps e=>?_⟩,?_,λx c e=>?_,?_,λx c e=>?_,λp hp=>?_,hok,I.len⟩
 ·exact keep b o (neL b o e) hb (neC b o e hx) (I.base.keep b o e n hb hx) (I.base.free b o e n hx)
 ·obtain ⟨sl,e1⟩:=I.base.slot b o e n hb hx
  obtain ⟨sl',e2⟩:=slot b _ (neL b o e) hb (neC b o e hx) e1 (I.base.free b o e n hx);exact ⟨sl',e2⟩
 ·obtain ⟨o',e1⟩:=I.base.there b o e hx
  exact free b o' (neC b o e hx) e1 (I.base.free b o e n hx)
 ·obtain ⟨o',e1⟩:=I.base.there b o e hx
  exact there b o' (neC b o e hx) e1
 ·obtain ⟨m1,e1⟩:=I.base.tbls b ps e
  obtain ⟨m2,e2⟩:=tbls b _ e1;exact ⟨m1 ++ m2,by rw[e2,Array.append_assoc]⟩
 ·obtain ⟨m,hn,hl⟩:=I.loc
  refine ⟨m,ns m hn,λi x v e1 e2 e3=>?_⟩;obtain ⟨u,r,l⟩:=hl i x v e1 e2 e3;refine ⟨u,r,?_⟩
  rcases l with l|⟨k,c,e,z⟩
  ·exact .inl l
  ·exact .inr ⟨k,c,e,cellK x c e _ z⟩
 ·obtain ⟨v,z⟩:=I.cell x c e
  exact ⟨v,cellK x c e v z⟩
 ·obtain ⟨m,⟨o,_,_,ho,_⟩,_⟩:=I.loc
  exact free _ o (λz=>(hch _ z).2.1 rfl) ho I.free
 ·obtain ⟨v,o,ho,hd⟩:=I.cell x c e
  exact free c o (λz=>(hch c z).2.2.1 x c e rfl) ho (I.freeC x c e)
 ·obtain ⟨e,n,ne,nf,d⟩:=I.pin p hp
  have nch:p.1 ∉ ch:=λz=>(hch p.1 z).2.2.2 p hp rfl
  exact ⟨keep p.1 p.2 ne nf nch e n,free p.1 p.2 nch e n,ne,nf,d⟩
theorem Inv.un {t':Nat} (I:Inv X pins σ H s) (u:Un X.fs [] H H' s.heap h') (hok:HOk X.prog X.w H' h'):Inv X pins σ H' { s with heap:=h',toks:=t' }:=by
 obtain ⟨m,⟨o,es,ep,ho,r⟩,_⟩:=id I.loc;obtain ⟨sl,hL⟩:=u.any ho I.free (by simp);exact I.step (g':=s.gens) (d':=s.drawn) (ch:=[]) (λ_ z=>nomatch z) (λb o _ hb _ e n=>u.keep b o e n hb (by simp)) (λb o _ hb _ e n=>u.slot b o e n hb (by simp)) (λb o _ e n=>u.free b o e n (by simp)) (λb o _ e=>u.there b o e (by simp)) u.tups u.frzs u.tbls (λm' hm=>by
  obtain ⟨o',es',ep',ho',r'⟩:=hm;rw[ho] at ho';cases ho';exact ⟨_,es',ep',hL,r'⟩) hok I.bare
theorem Inv.call {g':Array GenState} {t':Nat} {d':Drawn} {ch:List Addr} (I:Inv X pins σ H s) (u:Un (frs X.stack) ch H H' s.heap h') (hok:HOk X.prog X.w H' h') (hg:AllBare g')
  (hch:∀ b∈ch,(b∈X.ex\/X.s₀.heap.objs.size<=b)/\b≠X.env.locals/\(∀ x c,X.env.cells.lookup x=some c->c≠b)/\∀ p∈X.pn ++ pins,p.1≠b) :
  Inv X pins σ H' { s with heap:=h',gens:=g',drawn:=d',toks:=t' }:=by
 obtain ⟨m,⟨o,es,ep,ho,r⟩,_⟩:=id I.loc;obtain ⟨sl,hL⟩:=u.any ho I.free λz=>(hch _ z).2.1 rfl
 exact I.step (ch:=ch) hch (λb o hL hb hc e n=>u.keep b o e n (λz=>(List.mem_cons.mp (I.stkSub b z)).elim hL hb) hc) (λb o _ _ hc e n=>u.any e n hc) (λb o hc e n=>u.free b o e n hc) (λb o hc e=>u.there b o e hc) u.tups u.frzs u.tbls (λm' hm=>by
  obtain ⟨o',es',ep',ho',r'⟩:=hm;rw[ho] at ho';cases ho';exact ⟨_,es',ep',hL,r'⟩) hok hg
theorem Inv.turned {t':Nat} {it:Addr} (I:Inv X pins σ H s) (k:∀ b o,b≠it->s.heap.get? b=some o->h'.get? b=some o) (hn:H it=none) (hL:it≠X.env.locals)
  (h1:it∈X.ex\/X.s₀.heap.objs.size<=it) (h2:∀ x c,X.env.cells.lookup x=some c->c≠it) (h3:∀ p∈X.pn ++ pins,p.1≠it):Inv X pins σ H { s with heap:=h',toks:=t' }:=by
 have nit:∀ b u,H b=some u->b≠it:=λb u e z=>by rw[z,hn] at e;cases e
 refine I.step (g':=s.gens) (d':=s.drawn) (ch:=[it]) (λb hb=>?_) (λb o _ _ hc e _=>k b o (λz=>hc (by simp[z])) e) (λb o _ _ hc e _=>⟨o.slots,k b o (λz=>hc (by simp[z])) e⟩) (λ_ _ _ _ n=>n)
  (λb o hc e=>⟨o,k b o (λz=>hc (by simp[z])) e⟩) (λ_ _ e=>e) (λ_ _ _ e=>e) (λb ps e=>⟨#[],by rw[e];simp⟩) (λm hm=>?_) (λb u e=>?_) I.bare
 ·have e:b=it:=by simpa using hb
  subst e;exact ⟨h1,hL,h2,h3⟩
 ·obtain ⟨o,es,ep,ho,r⟩:=hm
  exact ⟨o,es,ep,k _ o (Ne.symm hL) ho,r⟩
 ·refine (I.hok b u e).stay (λc v hc q=>k c v ?_ q) (λ_ q=>q) λ_ _ q=>q
  rcases hc with z|z
  ·rw[z];exact nit b u e
  ·exact nit c _ z
theorem Inv.tok (I:Inv X pins σ H s) (t:Nat):Inv X pins σ H { s with toks:=t }:=I.un (h':=s.heap) (t':=t) Un.refl I.hok
theorem Inv.kept {t':Nat} (I:Inv X pins σ H s) (k:∀ b u,s.heap.get? b=some u->h'.get? b=some u):Inv X pins σ H { s with heap:=h',toks:=t' }:=I.un (Un.kept k) (I.hok.kept k)
theorem Inv.laid {a:Addr} {o:HO} {t':Nat} (I:Inv X pins σ H s) (k:∀ b u,s.heap.get? b=some u->h'.get? b=some u) (hp:s.heap.objs.size<=a) (new:ObjOk X.prog X.w (upd H a o) h' a o) :
  Inv X pins σ (upd H a o) { s with heap:=h',toks:=t' }:=I.un (Un.laid k hp (I.hok.fresh hp)) (I.hok.laid k hp new)
theorem Inv.write {x e:Addr} {o:HO} {t':Nat} (I:Inv X pins σ H s) (mu:Mut (H x)) (he:e=x\/H e=some (.own x)) (k:∀ b u,b≠e->s.heap.get? b=some u->h'.get? b=some u) (heo:∃ u,h'.get? e=some u)
  (new:ObjOk X.prog X.w (upd H x o) h' x o):Inv X pins σ (upd H x o) { s with heap:=h',toks:=t' }:=I.un (Un.write mu he k heo) (I.hok.write mu he k heo new)
theorem Inv.weak {σ':List (Option V)} (I:Inv X pins σ H s) (hl:σ'.length=σ.length) (w:∀ (i:Nat) v,σ'[i]?=some (some v)->σ[i]?=some (some v)):Inv X pins σ' H s:=
 ⟨I.ok,I.os,I.bare,I.base,let ⟨m,hn,hl'⟩:=I.loc;⟨m,hn,λi x v e1 e2 e3=>hl' i x v e1 (w i v e2) e3⟩,I.cell,I.free,I.freeC,I.pin,I.hok,hl.trans I.len⟩
theorem Inv.pins_of {pins':List (Addr×Obj)} (I:Inv X pins σ H s) (h:∀ p∈pins',s.heap.get? p.1=some p.2/\H p.1=none/\p.1≠X.env.locals/\p.1 ∉ X.fs/\∀ v,p.2.data≠.cell v):Inv X pins' σ H s:=
 ⟨I.ok,I.os,I.bare,I.base,I.loc,I.cell,I.free,I.freeC,λp hp=>(List.mem_append.mp hp).elim (λz=>I.pin p (List.mem_append_left _ z)) (h p),I.hok,I.len⟩
theorem qna {N:List Str} (hN:N.Nodup) {i j:Nat} {x:Str} (a:N[i]?=some x) (b:N[j]?=some x):i=j:=by
 obtain ⟨h1,e1⟩:=List.getElem?_eq_some_iff.mp a;obtain ⟨h2,e2⟩:=List.getElem?_eq_some_iff.mp b;exact (List.getElem_inj hN).mp (e1.trans e2.symm)
theorem qqg {M:Model} {A:Around} {E:Value->Shared->Prop} {i:Nat} {x:Str} {v:V} {u:Value} {Q:Unit->Shared->Prop} (I:Inv X pins σ H s) (hN:X.N.Nodup) (hi:X.N[i]?=some x) (hx:Loc X.env.scope x) (r:RelV v u)
  (h:∀ s',Inv X pins (σ.set i (some v)) H s'->(∃ a,Heap.SameBut a s.heap s'.heap/\(a=X.env.locals\/X.env.cells.lookup x=some a))->Q () s') (hf:X.fn x=true\/X.env.scope.names.lookup x=some .local:=by first|exact .inl rfl|exact .inr rfl|assumption):wpAny M A (storeName X.env x u) Q E s:=by
 obtain ⟨m,hn,hl⟩:=id I.loc;have hcls:(X.env.scope.kind == .class || (X.env.scope.kind == .module && X.env.locals != X.env.globals))=false:=by rw[I.ok.kind];rfl
 have hiσ:i<σ.length:=by rw[I.len];exact (List.getElem?_eq_some_iff.mp hi).1
 have cne:=I.cne;have tracked:∀ {a:Addr} {h':Heap},(∃ o,s.heap.get? a=some o/\H a=none)->Heap.SameBut a s.heap h'->HOk X.prog X.w H h':=fun {a h'} ha hs b ob e=>by
  obtain ⟨_,_,hfree⟩:=ha;refine (I.hok b ob e).stay (λc w' hc q=>(hs.2 c ?_).trans q) (λ_ q=>q) λ_ _ q=>q
  rintro rfl
  rcases hc with rfl|hc
  ·rw[hfree] at e;cases e
  ·rw[hfree] at hc;cases hc
 rcases hx with hk|hk
 ·refine wpAny_storeName_local hk hn (λh' hn' hs=>?_) hcls
  obtain ⟨oL,_,_,hoL,_⟩:=id hn;refine h _ ⟨I.ok,I.os,I.bare,⟨λb o e n hb hx=>?_,λb o e n hb hx=>?_,I.base.free,λb o e hx=>?_,I.base.tups,I.base.frzs,I.base.tbls⟩,⟨_,hn',λj y v' e1 e2 e3=>?_⟩,λy c e=>?_,I.free,I.freeC,λp hp=>?_,tracked ⟨oL,hoL,I.free⟩ hs,by simpa using I.len⟩ ⟨_,hs,.inl rfl⟩
  ·exact (hs.2 b (Nat.ne_of_lt (Nat.lt_of_lt_of_le (Heap.lt_size e) I.ok.above))).trans (I.base.keep b o e n hb hx)
  ·obtain ⟨sl,e1⟩:=I.base.slot b o e n hb hx
   exact ⟨sl,(hs.2 b (Nat.ne_of_lt (Nat.lt_of_lt_of_le (Heap.lt_size e) I.ok.above))).trans e1⟩
  ·obtain ⟨o',e1⟩:=I.base.there b o e hx
   exact ⟨o',(hs.2 b (Nat.ne_of_lt (Nat.lt_of_lt_of_le (Heap.lt_size e) I.ok.above))).trans e1⟩
  ·by_cases hj:j=i
   ·subst hj
    rw[hi] at e1;cases e1;rw[List.getElem?_set_self hiσ] at e2;cases e2;exact ⟨u,r,.inl ⟨hk,by simp⟩⟩
   ·rw[List.getElem?_set_ne (Ne.symm hj)] at e2
    obtain ⟨u',r',q⟩:=hl j y v' e1 e2 e3;refine ⟨u',r',?_⟩
    rcases q with ⟨k,e⟩|⟨k,c,e,z⟩
    ·refine .inl ⟨k,?_⟩
     have:y≠x:=λe=>hj (qna hN e1 (e ▸ hi))
     simp[this,e]
    ·exact .inr ⟨k,c,e,z.sameBut hs (cne y c e)⟩
  ·obtain ⟨w',z⟩:=I.cell y c e
   exact ⟨w',z.sameBut hs (cne y c e)⟩
  ·obtain ⟨e,n,ne,nf,d⟩:=I.pin p hp
   exact ⟨(hs.2 p.1 ne).trans e,n,ne,nf,d⟩
 ·have hfn:X.fn x=true:=by
   rcases hf with z|z
   ·exact z
   ·rw[z] at hk;cases hk
  obtain ⟨c,hc⟩:=I.ok.has x (.inl hk);obtain ⟨w',z⟩:=I.cell x c hc;refine wpAny_storeName_cell I.ok.kind hk hc z (λh' hc' hs=>?_);obtain ⟨oc,hoc,hocd⟩:=id z;refine h { s with heap:=h' } ⟨I.ok,I.os,I.bare,⟨λb o e n hb hx=>?_,λb o e n hb hx=>?_,I.base.free,λb o e hx=>?_,I.base.tups,I.base.frzs,I.base.tbls⟩,⟨m,hn.sameBut hs (Ne.symm (cne x c hc)),λj y v' e1 e2 e3=>?_⟩,λy c' e=>?_,I.free,I.freeC,λp hp=>?_,tracked ⟨oc,hoc,I.freeC x c hc⟩ hs,by simpa using I.len⟩ ⟨c,hs,.inr hc⟩
  ·exact (hs.2 b (Nat.ne_of_lt (Nat.lt_of_lt_of_le (Heap.lt_size e) (I.ok.cab x c hfn hc)))).trans (I.base.keep b o e n hb hx)
  ·obtain ⟨sl,e1⟩:=I.base.slot b o e n hb hx
   exact ⟨sl,(hs.2 b (Nat.ne_of_lt (Nat.lt_of_lt_of_le (Heap.lt_size e) (I.ok.cab x c hfn hc)))).trans e1⟩
  ·obtain ⟨o',e1⟩:=I.base.there b o e hx
   exact ⟨o',(hs.2 b (Nat.ne_of_lt (Nat.lt_of_lt_of_le (Heap.lt_size e) (I.ok.cab x c hfn hc)))).trans e1⟩
  ·by_cases hj:j=i
   ·subst hj
    rw[hi] at e1;cases e1;rw[List.getElem?_set_self hiσ] at e2;cases e2;exact ⟨u,r,.inr ⟨.inl hk,c,hc,hc'⟩⟩
   ·rw[List.getElem?_set_ne (Ne.symm hj)] at e2
    obtain ⟨u',r',q⟩:=hl j y v' e1 e2 e3;refine ⟨u',r',?_⟩
    rcases q with q|⟨k,c',e,z'⟩
    ·exact .inl q
    ·refine .inr ⟨k,c',e,z'.sameBut hs ?_⟩
     rintro rfl;exact hj (qna hN e1 (I.ok.inj _ _ _ e hc ▸ hi))
  ·by_cases hcc:c'=c
   ·subst hcc;exact ⟨_,hc'⟩
   ·obtain ⟨w2,z2⟩:=I.cell y c' e
    exact ⟨w2,z2.sameBut hs hcc⟩
  ·obtain ⟨e,n,ne,nf,d⟩:=I.pin p hp
   refine ⟨(hs.2 p.1 ?_).trans e,n,ne,nf,d⟩;intro q;rw[q,hoc] at e;have q':oc=p.2:=Option.some.inj e;exact d w' (by rw[<- q'];exact hocd)
theorem qnb {M:Model} {A:Around} {E:Value->Shared->Prop} {i:Nat} {x:Str} {v:V} {u:Value} {Q:Unit->Shared->Prop} (I:Inv X pins σ H s) (hN:X.N.Nodup) (hi:X.N[i]?=some x) (hx:Loc X.env.scope x) (r:RelV v u)
  (h:∀ s',Inv X pins (σ.set i (some v)) H s'->Q () s') (hf:X.fn x=true\/X.env.scope.names.lookup x=some .local:=by first|exact .inl rfl|exact .inr rfl|assumption):wpAny M A (storeName X.env x u) Q E s:=
 qqg I hN hi hx r (λs' I' _=>h s' I') hf
theorem Inv.call' {s':Shared} {ch:List Addr} (I:Inv X pins σ H s) (ho:s'.os=s.os) (u:Un (frs X.stack) ch H H' s.heap s'.heap) (hok:HOk X.prog X.w H' s'.heap) (hg:AllBare s'.gens)
  (hch:∀ b∈ch,(b∈X.ex\/X.s₀.heap.objs.size<=b)/\b≠X.env.locals/\(∀ x c,X.env.cells.lookup x=some c->c≠b)/\∀ p∈X.pn ++ pins,p.1≠b):Inv X pins σ H' s':=by
 obtain ⟨h',g',d',t',o'⟩:=s';have e:o'=s.os:=ho;subst e;exact I.call (g':=g') (t':=t') (d':=d') u hok hg hch
end
abbrev XK:=Value->Option Addr->Hp->Prop
abbrev St:=List (Option V)
abbrev VK:=V->Hp->Prop
abbrev TE:=St->Hp->VK->Prop
abbrev TT:=St->Hp->(Bool->Hp->Prop)->Prop
abbrev TA:=St->Hp->(List V->Hp->Prop)->Prop
structure Ends where
 nx:St->Hp->Prop
 rt:VK
 bk:St->Hp->Prop:=λ_ _=>False
 ct:St->Hp->Prop:=λ_ _=>False
abbrev TS:=Ends->St->Hp->Prop
def EP (X:Cx) (pins:List (Addr×Obj)) (σ:St) (Q:VK) (u:Value) (s':Shared):Prop:=∃ v H',Inv X pins σ H' s'/\RelV v u/\Q v H'
def TP (X:Cx) (pins:List (Addr×Obj)) (σ:St) (Q:Bool->Hp->Prop) (b:Bool) (s':Shared):Prop:=∃ H',Inv X pins σ H' s'/\Q b H'
def AP (X:Cx) (pins:List (Addr×Obj)) (σ:St) (Q:List V->Hp->Prop) (us:List Value) (s':Shared):Prop:=∃ vs H',Inv X pins σ H' s'/\Vals vs us/\Q vs H'
def SP (X:Cx) (pins:List (Addr×Obj)) (D:Ends) (f:Flow) (s':Shared):Prop:=
 match f with
 | .next=>∃ σ' H',Inv X pins σ' H' s'/\D.nx σ' H'
 | .brk=>∃ σ' H',Inv X pins σ' H' s'/\D.bk σ' H'
 | .cont=>∃ σ' H',Inv X pins σ' H' s'/\D.ct σ' H'
 | .ret u=>∃ v σ' H',Inv X pins σ' H' s'/\RelV v u/\D.rt v H'
def PE (X:Cx) (e:Expr) (t:TE):Prop:=
 ∀ (pins:List (Addr×Obj)) (s:Shared) (σ:St) (H:Hp) (Q:VK),Inv X pins σ H s->t σ H Q->wpAny (model X.prog X.w) X.A (eval e X.env) (EP X pins σ Q) X.xe s
def PT (X:Cx) (e:Expr) (t:TT):Prop:=
 ∀ (pins:List (Addr×Obj)) (s:Shared) (σ:St) (H:Hp) (Q:Bool->Hp->Prop),Inv X pins σ H s->t σ H Q->wpAny (model X.prog X.w) X.A (isTrue e X.env (eval e X.env)) (TP X pins σ Q) X.xe s
def PW (X:Cx) (e:Expr) (t:TT):Prop:=
 ∀ (whole:Sem Value) (pins:List (Addr×Obj)) (s:Shared) (σ:St) (H:Hp) (Q:Bool->Hp->Prop),Inv X pins σ H s->t σ H Q->wpAny (model X.prog X.w) X.A (isTrue e X.env whole) (TP X pins σ Q) X.xe s
theorem PW.pt {X:Cx} {e:Expr} {t:TT} (h:PW X e t):PT X e t:=h _
def PA (X:Cx) (es:List Expr) (t:TA):Prop:=
 ∀ (pos:Pos) (pins:List (Addr×Obj)) (s:Shared) (σ:St) (H:Hp) (Q:List V->Hp->Prop),Inv X pins σ H s->t σ H Q->wpAny (model X.prog X.w) X.A (spliced (backTo pos (starEach es X.env))) (AP X pins σ Q) X.xe s
def PS (X:Cx) (st:Stmt) (t:TS):Prop:=
 ∀ (pins:List (Addr×Obj)) (s:Shared) (σ:St) (H:Hp) (D:Ends),Inv X pins σ H s->t D σ H->wpAny (model X.prog X.w) X.A (exec st X.env) (SP X pins D) X.xe s
def PSs (X:Cx) (st:List Stmt) (t:TS):Prop:=
 ∀ (pins:List (Addr×Obj)) (s:Shared) (σ:St) (H:Hp) (D:Ends),Inv X pins σ H s->t D σ H->wpAny (model X.prog X.w) X.A (execs st X.env) (SP X pins D) X.xe s
theorem thn {α:Type} {t:Sem α} {Q Q':α->Shared->Prop} {M:Model} {A:Around} {E:Value->Shared->Prop} {s:Shared} (h:wpAny M A t Q E s) (hQ:∀ a s,Q a s->Q' a s):wpAny M A t Q' E s:=wpAny_mono h hQ λ_ _ x=>x
open PySem PySem.Spec PyProof.Rows
section
variable {X:Cx}
inductive tVarS (i:Nat) (σ:St) (H:Hp) (Q:VK):Prop
 | mk (v:V) (h:σ[i]?=some (some v)) (k:Q v H)
def qB8 (i:Nat):TE:=λσ H Q=>tVarS i σ H Q
def tC (v:V):TE:=λ_ H Q=>Q v H
theorem qzt {i:Nat} {x:Str} {pos:Pos} (hN:X.N[i]?=some x) (hv:Vis X.env.scope x) (hd:(x == ("__debug__" : Str))=false:=by decide) (hcd:(x == ("__classdict__" : Str))=false:=by decide):PE X (.Name x pos) (qB8 i):=by
 intro pins s σ H Q I h;obtain ⟨v,e,h⟩:=h;obtain ⟨m,hn,hl⟩:=I.loc;obtain ⟨u,r,l⟩:=hl i x v hN e hv;have fin:EP X pins σ Q u s:=⟨v,H,I,r,h⟩
 rcases l with ⟨hk,hm⟩|⟨hk,c,hc,hcell⟩
 ·exact wpAny_Name (wpAny_loadName_local I.ok.kind hk hn hm fin) hd
 ·rcases hk with hk|hk
  ·exact wpAny_Name (wpAny_loadName_cell I.ok.kind hk hc hcell fin) hd
  ·exact wpAny_Name (wpAny_loadName_free I.ok.kind hk hc hcell fin hcd) hd
theorem qab {i j pos}:PE X (.Constant (.int i) j pos) (tC (.int i)):=λ_ _ _ H _ I h=>wpAny_Constant_int ⟨.int i,H,I.tok _,⟨_,rfl⟩,h⟩
theorem qox {b j pos}:PE X (.Constant (.bool b) j pos) (tC (.bl b)):=λ_ _ _ H _ I h=>Constant_bool ⟨.bl b,H,I,rfl,h⟩
theorem qbr {j pos}:PE X (.Constant .none j pos) (tC .non):=λ_ _ _ H _ I h=>Constant_none ⟨.non,H,I,rfl,h⟩
theorem qel {x j pos}:PE X (.Constant (.str x) j pos) (tC (.str x)):=λ_ _ _ H _ I h=>Calls.Constant_str ⟨.str x,H,I.tok _,⟨_,rfl⟩,h⟩
def Gl (X:Cx) (x:Str):Prop:=X.env.kindOf x=some .globalImplicit
theorem qgs {E:Value->Shared->Prop} {pins:List (Addr×Obj)} {s:Shared} {σ:St} {H:Hp} {x:Str} {u:Value} {pos:Pos} {Q:Value->Shared->Prop} (I:Inv X pins σ H s) (hg:Gl X x) (hm:X.mg x=some u) (h:Q u s)
  (hd:(x == ("__debug__" : Str))=false:=by decide):wpAny (model X.prog X.w) X.A (eval (.Name x pos) X.env) Q E s:=
 Calls.Name_function_global I.ok.kind hg (Calls.loadGlobal_global (by rw[I.ok.glob];exact I.mod.glob.keeps I.bk) hm h) hd
theorem qkd {E:Value->Shared->Prop} {pins:List (Addr×Obj)} {s:Shared} {σ:St} {H:Hp} {x:Str} {u:Value} {pos:Pos} {Q:Value->Shared->Prop} (I:Inv X pins σ H s) (hg:Gl X x) (hm:X.mg x=none) (hv:bootBuiltins x=some u) (h:Q u s)
  (hn:x ≠ "__name__" :=by decide) (hd:(x == ("__debug__" : Str))=false:=by decide):wpAny (model X.prog X.w) X.A (eval (.Name x pos) X.env) Q E s:=by
 obtain ⟨mb,h1,h2⟩:=I.mod.blt;exact Calls.Name_function_global I.ok.kind hg (Calls.loadGlobal_builtin (by rw[I.ok.glob];exact I.mod.glob.keeps I.bk) hm (by rw[I.ok.blt];exact h1.keeps I.bk) ((h2 x hn).trans hv) h) hd
theorem qgt {x:Str} {v:V} {u:Value} {pos:Pos} (hg:Gl X x) (hm:X.mg x=some u) (r:RelV v u) (hd:(x == ("__debug__" : Str))=false:=by decide):PE X (.Name x pos) (tC v):=
 λ_ _ _ H _ I h=>qgs I hg hm ⟨v,H,I,r,h⟩ hd
theorem qgu {x:Str} {v:V} {u:Value} {pos:Pos} (hg:Gl X x) (hm:X.mg x=none) (hv:bootBuiltins x=some u) (r:RelV v u) (hn:x ≠ "__name__" :=by decide) (hd:(x == ("__debug__" : Str))=false:=by decide):PE X (.Name x pos) (tC v):=
 λ_ _ _ H _ I h=>qkd I hg hm hv ⟨v,H,I,r,h⟩ hn hd
variable {a b:Expr} {ta tb:TE} {pos:Pos}
def PC (X:Cx) (op:CmpOp) (a b:Expr) (t:TE):Prop:=
 ∀ (pins:List (Addr×Obj)) (s:Shared) (σ:St) (H:Hp) (Q:VK),Inv X pins σ H s->t σ H Q ->
  wpAny (model X.prog X.w) X.A (eval a X.env) (λv s₁=>wpAny (model X.prog X.w) X.A (eval b X.env) (λu s₂=>wpAny (model X.prog X.w) X.A (compareOp op v u) (EP X pins σ Q) X.xe s₂) X.xe s₁) X.xe s
theorem qty (b:Expr) {op:CmpOp} (h:op≠.In) (h2:op≠.NotIn):behindInMarks op b=false:=by
 have e1:(op == CmpOp.In)=false:=by cases op<;>first|rfl|exact absurd rfl h
 have e2:(op == CmpOp.NotIn)=false:=by cases op<;>first|rfl|exact absurd rfl h2
 cases b<;>simp[behindInMarks,e1,e2]
inductive tBS (x:V) (H:Hp) (Q:Bool->Hp->Prop):Prop
 | mk (c:Bool) (h:x=.bl c) (k:Q c H)
def tB (t:TE):TT:=λσ H Q=>t σ H λx H1=>tBS x H1 Q
theorem qqh {op:CmpOp} {t:TE} (h:PC X op a b t) (h1:behindInMarks op b=false:=by first|exact qty _ (by decide) (by decide)|rfl):PT X (.Compare a [op] [b] pos) (tB t):=by
 intro pins s σ H Q I hw;refine wpAny_isTrue_Compare1 (thn (h pins s σ H _ I hw) λv s1 h1=>thn h1 λu s2 h2=>thn h2 λc s3 hq__=>?_) h1;obtain ⟨x,H1,I1,r1,q1⟩:=hq__;obtain ⟨d,rfl,q⟩:=q1;cases r1;exact wpAny_truthy_bool ⟨H1,I1,q⟩
theorem qcu {e:Expr} {t:TE} (h:PE X e t) (he:∀ whole,isTrue e X.env whole=(do let v <- whole;standAt e.pos;holding [v] (truthy v)):=by intro _;rfl):PT X e (tB t):=by
 intro pins s σ H Q I hw;refine isTrue_plain (thn (h pins s σ H _ I hw) λv s1 hq__=>?_) (he _);obtain ⟨x,H1,I1,r1,q1⟩:=hq__;obtain ⟨d,rfl,q⟩:=q1;cases r1;exact wpAny_truthy_bool ⟨H1,I1,q⟩
variable {tA tB':TT} {rest:List Expr}
def tOr (t u:TT):TT:=λσ H Q=>t σ H λc H1=>if c=true then Q true H1 else u σ H1 Q
def qD7 (t:TT):TT:=λσ H Q=>t σ H λc H1=>Q (!c) H1
theorem qgv (ha:PT X a tA):PW X (.BoolOp .Or [a] pos) tA:=by
 intro wh pins s σ H Q I h;refine isTrue_or (thn (ha pins s σ H Q I h) λc s1 e=>?_)
 cases c with
 | false=>exact isTrue_or_nil e
 | true=>exact e
theorem qke (ha:PT X a tA) (hb:PW X (.BoolOp .Or (b :: rest) pos) tB'):PW X (.BoolOp .Or (a :: b :: rest) pos) (tOr tA tB'):=by
 intro wh pins s σ H Q I h;refine isTrue_or (thn (ha pins s σ H _ I h) λc s1 hq__=>?_);obtain ⟨H1,I1,q1⟩:=hq__
 cases c with
 | true=>exact ⟨H1,I1,q1⟩
 | false=>exact hb wh pins s1 σ H1 Q I1 q1
theorem qda (ha:PT X a tA):PT X (.UnaryOp .Not a pos) (qD7 tA):=by
 intro pins s σ H Q I h;exact isTrue_not (ha pins s σ H (λc H1=>Q (!c) H1) I h)
inductive tAndVS (tb:TE) (σ:St) (x:V) (H:Hp) (Q:VK):Prop
 | mk (c:Bool) (h:x=.bl c) (k:if c=true then tb σ H Q else Q (.bl false) H)
def qCk (ta tb:TE):TE:=λσ H Q=>ta σ H λx H1=>tAndVS tb σ x H1 Q
inductive tOrVS (tb:TE) (σ:St) (x:V) (H:Hp) (Q:VK):Prop
 | mk (c:Bool) (h:x=.bl c) (k:if c=true then Q (.bl true) H else tb σ H Q)
def qD8 (ta tb:TE):TE:=λσ H Q=>ta σ H λx H1=>tOrVS tb σ x H1 Q
inductive tNotVS (x:V) (H:Hp) (Q:VK):Prop
 | mk (c:Bool) (h:x=.bl c) (k:Q (.bl (!c)) H)
def qCl (ta:TE):TE:=λσ H Q=>ta σ H λx H1=>tNotVS x H1 Q
theorem qil {op} {t:TE} (h:PE X a t):PE X (.BoolOp op [a] pos) t:=λpins s σ H Q I hw=>BoolOp_one (h pins s σ H Q I hw)
theorem qfr (ha:PE X a ta) (hb:PE X (.BoolOp .And (b :: rest) pos) tb):PE X (.BoolOp .And (a :: b :: rest) pos) (qCk ta tb):=by
 intro pins s σ H Q I h;refine BoolOp_and (thn (ha pins s σ H _ I h) λv s1 hq__=>?_);obtain ⟨x,H1,I1,r1,q1⟩:=hq__;obtain ⟨c,rfl,q1⟩:=q1;cases r1;refine wpAny_truthy_bool ?_
 cases c with
 | true=>exact hb pins s1 σ H1 Q I1 q1
 | false=>exact ⟨.bl false,H1,I1,rfl,q1⟩
theorem qCm (ha:PE X a ta) (hb:PE X (.BoolOp .Or (b :: rest) pos) tb):PE X (.BoolOp .Or (a :: b :: rest) pos) (qD8 ta tb):=by
 intro pins s σ H Q I h;refine BoolOp_or (thn (ha pins s σ H _ I h) λv s1 hq__=>?_);obtain ⟨x,H1,I1,r1,q1⟩:=hq__;obtain ⟨c,rfl,q1⟩:=q1;cases r1;refine wpAny_truthy_bool ?_
 cases c with
 | false=>exact hb pins s1 σ H1 Q I1 q1
 | true=>exact ⟨.bl true,H1,I1,rfl,q1⟩
theorem qzu (ha:PE X a ta):PE X (.UnaryOp .Not a pos) (qCl ta):=by
 intro pins s σ H Q I h;refine UnaryOp_ (thn (ha pins s σ H _ I h) λv s1 hq__=>?_);obtain ⟨x,H1,I1,r1,q1⟩:=hq__;obtain ⟨c,rfl,q1⟩:=q1;cases r1;exact not_of (wpAny_truthy_bool ⟨.bl (!c),H1,I1,rfl,q1⟩)
def tIf (t:TT) (ta tb:TE):TE:=λσ H Q=>t σ H λc H1=>if c=true then ta σ H1 Q else tb σ H1 Q
theorem qnc {c:Expr} (hc:PT X c tA) (ha:PE X a ta) (hb:PE X b tb):PE X (.IfExp c a b pos) (tIf tA ta tb):=by
 intro pins s σ H Q I h;refine wpAny_IfExp (thn (hc pins s σ H _ I h) λd s1 hq__=>?_);obtain ⟨H1,I1,q1⟩:=hq__
 cases d with
 | true=>exact ha pins s1 σ H1 Q I1 q1
 | false=>exact hb pins s1 σ H1 Q I1 q1
end
open PySem PySem.Spec PyProof.Rows
def SqL (K:Frag) (H:Hp) (a:Addr) (xs:List V):Prop:=
 Rd H a (.lst xs) \/
  ∃ (o:Obj) (its:Array Value) (n:Nat),K.lookup a=some o/\o.cls=.type "list" /\ o.dict=none/\o.data=.seq its n/\its.size<=sizeLine/\Vals xs its.toList
def SqT (K:Frag) (H:Hp) (a:Addr) (xs:List V):Prop:=
 Rd H a (.tup xs) \/
  ∃ (o:Obj) (its:Array Value) (n:Nat),K.lookup a=some o/\o.cls=.type "tuple" /\ o.data=.seq its n/\its.size<=sizeLine/\Vals xs its.toList
def qD9:Value->Option V
 | .none=>some .non
 | .bool b=>some (.bl b)
 | .int i _=>some (.int i)
 | .str x _=>some (.str x)
 | .bytes b _=>some (.byt b)
 | .float b _=>some (.flt b)
 | .ref a=>some (.ref a)
 | .type n=>some (.ty n)
 | _=>none
theorem RelV.abs {x:V} {u:Value} (r:RelV x u):qD9 u=some x:=by
 cases x with
 | non=>cases r;rfl
 | bl _=>cases r;rfl
 | int _=>obtain ⟨t,rfl⟩:=r;rfl
 | str _=>obtain ⟨t,rfl⟩:=r;rfl
 | byt _=>obtain ⟨t,rfl⟩:=r;rfl
 | flt _=>obtain ⟨t,rfl⟩:=r;rfl
 | ref _=>cases r;rfl
 | ty _=>cases r;rfl
theorem RelV.inj {x y:V} {u:Value} (r:RelV x u) (q:RelV y u):x=y:=Option.some.inj (r.abs.symm.trans q.abs)
theorem Vals.inj:∀ {xs ys:List V} {us:List Value},Vals xs us->Vals ys us->xs=ys
 | _,_,_,.nil,.nil=>rfl
 | _,_,_,.cons r t,.cons r' t'=>by rw[r.inj r',Vals.inj t t']
section
variable {X:Cx} {pins:List (Addr×Obj)} {σ:St} {H:Hp} {s:Shared} {a:Addr} {xs ys:List V}
theorem SqL.of {K:Frag} (h:H a=some (.lst xs)):SqL K H a xs:=.inl (.inl h)
theorem SqT.of {K:Frag} (h:H a=some (.tup xs)):SqT K H a xs:=.inl (.inl h)
theorem Inv.list (I:Inv X pins σ H s) (h:SqL X.K H a xs):∃ its:List Value,Vals xs its/\PlainL s.heap a its.toArray/\xs.length<=sizeLine:=by
 rcases h with h|⟨o,its,n,hk,hc,hd,hs,hz,r⟩
 ·obtain ⟨z,its,n,r,e⟩:=h.ok I.hok
  exact ⟨its,r,⟨_,n,e,rfl,rfl,rfl⟩,z⟩
 ·refine ⟨its.toList,r,⟨o,n,I.kIn a o hk,hc,hd,by simpa using hs⟩,?_⟩
  have e:=r.length;simp only[Array.length_toList] at e;omega
theorem Inv.tuple (I:Inv X pins σ H s) (h:SqT X.K H a xs):∃ its:List Value,Vals xs its/\IsTup s.heap a its.toArray/\xs.length<=sizeLine:=by
 rcases h with h|⟨o,its,n,hk,hc,hs,hz,r⟩
 ·obtain ⟨z,its,r,p⟩:=h.ok I.hok
  exact ⟨its,r,p,z⟩
 ·refine ⟨its.toList,r,⟨o,I.kIn a o hk,hc,n,by simpa using hs⟩,?_⟩
  have e:=r.length;simp only[Array.length_toList] at e;omega
theorem Inv.list_inj (I:Inv X pins σ H s) (h:SqL X.K H a xs) (h':SqL X.K H a ys):xs=ys:=by
 obtain ⟨its,r,⟨o,n,e,_,_,d⟩,_⟩:=I.list h;obtain ⟨its',r',⟨o',n',e',_,_,d'⟩,_⟩:=I.list h';rw[e] at e';cases e';rw[d] at d';injection d' with d1 _
 have:its=its':=by simpa using congrArg Array.toList d1
 subst this;exact r.inj r'
theorem Inv.tuple_inj (I:Inv X pins σ H s) (h:SqT X.K H a xs) (h':SqT X.K H a ys):xs=ys:=by
 obtain ⟨its,r,⟨o,e,_,n,d⟩,_⟩:=I.tuple h;obtain ⟨its',r',⟨o',e',_,n',d'⟩,_⟩:=I.tuple h';rw[e] at e';cases e';rw[d] at d';injection d' with d1 _
 have:its=its':=by simpa using congrArg Array.toList d1
 subst this;exact r.inj r'
end
abbrev Cx.wish (X:Cx) (E:Value->Shared->Prop):Cx:={ X with xe:=E }
abbrev Cx.nox (X:Cx):Cx:=X.wish λ_ _=>False
theorem Cx.Ok.wish {X:Cx} (ok:X.Ok) (E:Value->Shared->Prop):(X.wish E).Ok:=
 ⟨ok.mod,ok.kind,ok.glob,ok.blt,ok.above,ok.inj,ok.has,ok.cab,ok.hd,ok.frames,ok.stk,ok.exf,ok.bs,ok.bsz,ok.noex,ok.exfs,ok.funs,ok.frf⟩
theorem Cx.Ok.unwish {X:Cx} {E:Value->Shared->Prop} (ok:(X.wish E).Ok):X.Ok:=
 ⟨ok.mod,ok.kind,ok.glob,ok.blt,ok.above,ok.inj,ok.has,ok.cab,ok.hd,ok.frames,ok.stk,ok.exf,ok.bs,ok.bsz,ok.noex,ok.exfs,ok.funs,ok.frf⟩
section
variable {X:Cx} {pins:List (Addr×Obj)} {σ:St} {H:Hp} {s:Shared} {E:Value->Shared->Prop}
theorem Inv.wish (I:Inv X pins σ H s) (E:Value->Shared->Prop):Inv (X.wish E) pins σ H s:=⟨I.ok.wish E,I.os,I.bare,I.base,I.loc,I.cell,I.free,I.freeC,I.pin,I.hok,I.len⟩
theorem Inv.unwish (I:Inv (X.wish E) pins σ H s):Inv X pins σ H s:=⟨I.ok.unwish,I.os,I.bare,I.base,I.loc,I.cell,I.free,I.freeC,I.pin,I.hok,I.len⟩
theorem SP.unwish {D:Ends} {f:Flow} {s':Shared} (h:SP (X.wish E) pins D f s'):SP X pins D f s':=by
 cases f with
 | next=>obtain ⟨σ',H',I,q⟩:=h;exact ⟨σ',H',I.unwish,q⟩
 | brk=>obtain ⟨σ',H',I,q⟩:=h;exact ⟨σ',H',I.unwish,q⟩
 | cont=>obtain ⟨σ',H',I,q⟩:=h;exact ⟨σ',H',I.unwish,q⟩
 | ret u=>obtain ⟨v,σ',H',I,r,q⟩:=h;exact ⟨v,σ',H',I.unwish,r,q⟩
theorem PSs.nox {st:List Stmt} {t:TS} (h:PSs X.nox st t):PSs X st t:=λpins s σ H D I hw =>
 wpAny_mono (h pins s σ H D (I.wish _) hw) (λ_ _ q=>q.unwish) λ_ _ z=>False.elim z
end
section
variable {X:Cx} {st:Stmt} {rest:List Stmt} {t u:TS} {e:Expr} {te:TE} {pos:Pos}
def qCn:TS:=λD σ H=>D.nx σ H
def qed (t u:TS):TS:=λD σ H=>t { D with nx:=u D } σ H
theorem qao:PSs X [] qCn:=λ_ _ σ H _ I h=>wpAny_execs_nil ⟨σ,H,I,h⟩
theorem qaq (h1:PS X st t) (h2:PSs X rest u):PSs X (st :: rest) (qed t u):=by
 intro pins s σ H D I h;refine wpAny_execs_cons (thn (h1 pins s σ H { D with nx:=u D } I h) λf s1 q=>?_)
 cases f with
 | next =>
  obtain ⟨σ',H',I',q⟩:=q;exact h2 pins s1 σ' H' D I' q
 | ret v=>exact q
 | brk=>exact q
 | cont=>exact q
theorem qae (h1:PS X st t):PSs X [st] t:=by
 intro pins s σ H D I h;refine wpAny_execs_cons (thn (h1 pins s σ H D I h) λf s1 q=>?_)
 cases f with
 | next=>exact wpAny_execs_nil q
 | ret v=>exact q
 | brk=>exact q
 | cont=>exact q
theorem Inv.quiet {pins:List (Addr×Obj)} {σ:St} {H:Hp} {s:Shared} (I:Inv X pins σ H s):interactive X.env=false:=by simp[interactive,I.ok.kind]
def qCo (te:TE):TS:=λD σ H=>te σ H λ_ H1=>D.nx σ H1
theorem qa5 (he:PE X e te) (hs:swapsWith e none pos.line X.env=pure false:=by rfl):PS X (.Expr e pos) (qCo te):=by
 intro pins s σ H D I h;exact wpAny_Expr_any (thn (he pins s σ H _ I h) λv s1 ⟨x,H1,I1,r1,q1⟩=>⟨σ,H1,I1,q1⟩) I.quiet hs
def qEa (te:TE):TS:=λD σ H=>te σ H D.rt
theorem qai (he:PE X e te):PS X (.Return (some e) pos) (qEa te):=by
 intro pins s σ H D I h;exact wpAny_Return_some (thn (he pins s σ H _ I h) λv s1 ⟨x,H1,I1,r1,q1⟩=>⟨x,σ,H1,I1,r1,q1⟩)
def qCp:TS:=λD _ H=>D.rt .non H
theorem qw9:PS X (.Return none pos) qCp:=λ_ _ σ H _ I h=>wpAny_Return_none ⟨.non,σ,H,I,rfl,h⟩
def qEb (c:TT) (t u:TS):TS:=λD σ H=>c σ H λb H1=>if b=true then t D σ H1 else u D σ H1
theorem qbd {c:Expr} {a b:List Stmt} {tc:TT} (hc:PT X c tc) (ha:PSs X a t) (hb:PSs X b u):PS X (.If c a b pos) (qEb tc t u):=by
 intro pins s σ H D I h;refine wpAny_If (thn (hc pins s σ H _ I h) λd s1 hq__=>?_);obtain ⟨H1,I1,q1⟩:=hq__
 cases d with
 | true=>exact ha pins s1 σ H1 D I1 q1
 | false=>exact hb pins s1 σ H1 D I1 q1
def qzv:TS:=λ_ _ _=>False
theorem qbs:PS X st qzv:=λ_ _ _ _ _ _ h=>h.elim
end
abbrev TG:=V->St->Hp->(St->Hp->Prop)->Prop
abbrev TGs:=List V->St->Hp->(St->Hp->Prop)->Prop
def PG (X:Cx) (target:Expr) (t:TG):Prop:=
 ∀ (pins:List (Addr×Obj)) (s:Shared) (σ:St) (H:Hp) (v:V) (u:Value) (Q:St->Hp->Prop),Inv X pins σ H s->RelV v u->t v σ H Q ->
  wpAny (model X.prog X.w) X.A (assign target X.env u) (λ_ s'=>∃ σ' H',Inv X pins σ' H' s'/\Q σ' H') X.xe s
def PGs (X:Cx) (ts:List Expr) (t:TGs):Prop:=
 ∀ (pins:List (Addr×Obj)) (s:Shared) (σ:St) (H:Hp) (vs:List V) (us:List Value) (Q:St->Hp->Prop),Inv X pins σ H s->Vals vs us->t vs σ H Q ->
  wpAny (model X.prog X.w) X.A (assignInOrder ((assignEach ts X.env).map (·.2)) us) (λ_ s'=>∃ σ' H',Inv X pins σ' H' s'/\Q σ' H') X.xe s
section
variable {X:Cx} {pos:Pos}
def qem (i:Nat):TG:=λv σ H Q=>Q (σ.set i (some v)) H
theorem qja {i:Nat} {x:Str} (hN:X.N.Nodup) (hi:X.N[i]?=some x) (hx:Loc X.env.scope x) (hf:X.fn x=true\/X.env.scope.names.lookup x=some .local:=by first|exact .inl rfl|exact .inr rfl|assumption):PG X (.Name x pos) (qem i):=by
 intro pins s σ H v u Q I r h;exact wpAny_assign_Name (qnb I hN hi hx r (λs' I'=>⟨_,H,I',h⟩) hf)
def qzw:TGs:=λvs σ H Q=>vs=[]/\Q σ H
def qie (t:TG) (u:TGs):TGs:=λvs σ H Q=>∃ v r,vs=v :: r/\t v σ H λσ' H'=>u r σ' H' Q
theorem qqi:PGs X [] qzw:=by
 intro pins s σ H vs us Q I r h;obtain ⟨e,h⟩:=h;subst e;cases r;exact assignInOrder_nil ⟨σ,H,I,h⟩
theorem qen {e:Expr} {es:List Expr} {t:TG} {u:TGs} (h1:PG X e t) (h2:PGs X es u)
  (hs:(assignEach (e :: es) X.env).map (·.2)=assign e X.env :: (assignEach es X.env).map (·.2):=by rfl):PGs X (e :: es) (qie t u):=by
 intro pins s σ H vs us Q I r h;obtain ⟨v,vr,e1,h⟩:=h;subst e1
 cases r with
 | cons r rr =>
  rw[hs];refine assignInOrder_cons (thn (h1 pins s σ H _ _ _ I r h) λ_ s1 hq__=>?_);obtain ⟨σ1,H1,I1,q1⟩:=hq__;exact h2 pins s1 σ1 H1 _ _ Q I1 rr q1
def qzx (K:Frag) (n:Nat) (t:TGs):TG:=λv σ H Q=>∃ a xs,v=.ref a/\SqT K H a xs/\xs.length=n/\t xs σ H Q
theorem qvo {es:List Expr} {k:Nat} {t:TGs} {n:Nat} (hc:X.calm=true) (h:PGs X es t)
  (hn:(assignEach es X.env).length=n:=by rfl) (hst:(assignEach es X.env).findIdx? (·.1)=none:=by rfl):PG X (.Tuple es k pos) (qzx X.K n t):=by
 intro pins s σ H v u Q I r hw;obtain ⟨a,xs,e1,hq,hl,hw⟩:=hw;subst e1;cases r;obtain ⟨its,rv,ht,hz⟩:=I.tuple hq;refine assign_Tuple_tuple (I.ok.hd hc) ht (by simp[hn,<- hl,rv.length]) hst λh' hx=>?_
 have I1:Inv X pins σ H { s with heap:=h' }:=I.kept (t':=s.toks) λb o e=>hx b o (Nat.ne_of_lt (Heap.lt_size e)) e
 exact h pins _ σ H xs _ Q I1 (by simpa using rv) hw
def qzy (te:TE) (g:TG):TS:=λD σ H=>te σ H λx H1=>g x σ H1 D.nx
theorem qzz {tg e:Expr} {te:TE} {g:TG} (he:PE X e te) (hg:PG X tg g) (hs:swapsWithSole [tg] e pos.line X.env=pure false:=by rfl) (hw:swappedStores [tg] e X.env=pure none:=by rfl)
  (h1:(assignEach [tg] X.env).map (·.2)=[assign tg X.env]:=by rfl):PS X (.Assign [tg] e pos) (qzy te g):=by
 intro pins s σ H D I h;refine wpAny_Assign_stores (thn (he pins s σ H _ I h) λv s1 hq__=>?_) hs hw;obtain ⟨x,H1,I1,r1,q1⟩:=hq__;rw[h1];exact thn (hg pins s1 σ H1 x v _ I1 r1 q1) λ_ s2 q=>q
theorem qqj {i:Nat} {x:Str} {e:Expr} {te:TE} {pos':Pos} (hN:X.N.Nodup) (hi:X.N[i]?=some x) (hx:Loc X.env.scope x) (he:PE X e te) (hs:swapsWith e (some (.Name x pos')) pos.line X.env=pure false:=by rfl) (hf:X.fn x=true\/X.env.scope.names.lookup x=some .local:=by first|exact .inl rfl|exact .inr rfl|assumption) :
  PS X (.Assign [.Name x pos'] e pos) (qzy te (qem i)):=by
 intro pins s σ H D I h;refine wpAny_Assign_Name (thn (he pins s σ H _ I h) λv s1 hq__=>?_) hs;obtain ⟨y,H1,I1,r1,q1⟩:=hq__;exact qnb I1 hN hi hx r1 (λs2 I2=>⟨_,H1,I2,q1⟩) hf
end
section
variable {X:Cx} {pos:Pos}
end
structure It where
 go:Nat->Hp->Prop
 yld:Nat->Hp->V->Hp->Prop
 stop:Nat->Hp->Prop
def qnd (X:Cx) (pins:List (Addr×Obj)) (H:Hp) (b:Addr):Prop:=
 H b=none/\b≠X.env.locals/\b ∉ X.fs/\(b∈X.ex\/X.s₀.heap.objs.size<=b)/\(∀ x c,X.env.cells.lookup x=some c->c≠b)/\∀ p∈X.pn ++ pins,p.1≠b
theorem Inv.fpOk {X:Cx} {pins:List (Addr×Obj)} {σ:St} {H H':Hp} {s:Shared} {b:Addr} (I:Inv X pins σ H s) (hb:s.heap.objs.size<=b) (hn:H' b=none):qnd X pins H' b:=by
 refine ⟨hn,Nat.ne_of_gt (Nat.lt_of_lt_of_le I.lt hb),I.nofs hb,.inr (Nat.le_trans I.sz hb),λx c e z=>?_,λp hp z=>?_⟩
 ·obtain ⟨v,q⟩:=I.cell x c e
  exact absurd (Nat.lt_of_lt_of_le q.lt (by rw[z];exact hb)) (Nat.lt_irrefl _)
 ·exact absurd (Nat.lt_of_lt_of_le (Heap.lt_size (I.pin p hp).1) (by rw[z];exact hb)) (Nat.lt_irrefl _)
structure Turn (P:Program) (w:World) (K:Frag) (tg:Expr) (J:It) (fp:List Addr) (it:Addr) (tn:Nat->Heap->Prop):Prop where
 mem:it∈fp
 obj:∀ i h,tn i h->∀ b∈fp,∃ o,h.get? b=some o/\∀ v,o.data≠.cell v
 keep:∀ i h h',tn i h->(∀ b∈fp,∀ o,h.get? b=some o->h'.get? b=some o)->tn i h'
 item:∀ (X:Cx),X.prog=P->X.w=w->X.K=K->X.calm=true->∀ (i:Nat) (pins:List (Addr×Obj)) (s:Shared) (σ:St) (H:Hp) (E:Value->Shared->Prop),Inv X pins σ H s->(∀ b∈fp,qnd X pins H b)->tn i s.heap->J.go i H ->
  wpAny (model P w) X.A (pyNext (.ref it)) (λr s1=>∃ u,r=some u /\
   wpAny (model P w) X.A (letOwnedTupleGo tg (.ref it) u) (λ_ s2=>∃ x H',Inv X pins σ H' s2/\RelV x u/\J.yld i H x H'/\tn (i+1) s2.heap/\∀ b∈fp,H' b=none) E s1) E s
 done:∀ (X:Cx),X.prog=P->X.w=w->X.K=K->X.calm=true->∀ (i:Nat) (pins:List (Addr×Obj)) (s:Shared) (σ:St) (H:Hp) (E:Value->Shared->Prop),Inv X pins σ H s->(∀ b∈fp,qnd X pins H b)->tn i s.heap->J.stop i H ->
  wpAny (model P w) X.A (pyNext (.ref it)) (λr s1=>r=none/\Inv X pins σ H s1) E s
 self:∀ (A:Around) (i:Nat) (s:Shared) (Q:Value->Shared->Prop) (E:Value->Shared->Prop),tn i s.heap->Q (.ref it) s->wpAny (model P w) A (pyIter (.ref it)) Q E s
abbrev TI:=St->Hp->(It->Hp->Prop)->Prop
def PIE (X:Cx) (pins:List (Addr×Obj)) (σ:St) (tg:Expr) (R:It->Hp->Prop) (itv:Value) (s2:Shared):Prop:=
 ∃ (it:Addr) (fp:List Addr) (tn:Nat->Heap->Prop) (J:It) (H':Hp),itv=.ref it/\Inv X pins σ H' s2/\Turn X.prog X.w X.K tg J fp it tn/\tn 0 s2.heap/\(∀ b∈fp,qnd X pins H' b)/\R J H'
def PI (X:Cx) (tg iter:Expr) (wi:TI):Prop:=
 ∀ (pins:List (Addr×Obj)) (s:Shared) (σ:St) (H:Hp) (R:It->Hp->Prop),Inv X pins σ H s->wi σ H R ->
  wpAny (model X.prog X.w) X.A (eval iter X.env) (λv s1=>wpAny (model X.prog X.w) X.A (pyIter v) (PIE X pins σ tg R) X.xe s1) X.xe s
theorem qtz {M:Model} {A:Around} {E:Value->Shared->Prop} {s:Shared} {tg:Expr} {it:Addr} {u:Value} {o:Obj} {n:String} {vs:Array Value} {Q:Unit->Shared->Prop} (ho:s.heap.get? it=some o) (hc:o.cls=.type n) (hd:o.data=.fields vs)
  (hn:["enumerate", "zip", "dict_itemiterator", "dict_reverseitemiterator", "odict_iterator", "itertools.zip_longest", "itertools.pairwise"].contains n=false) (hQ:Q () s):wpAny M A (letOwnedTupleGo tg (.ref it) u) Q E s:=by
 unfold letOwnedTupleGo
 cases tg<;>first
  | exact wpAny_pure hQ
  | (cases u<;>first
    | exact wpAny_pure hQ
    | (refine wpAny_bind (wpAny_load ho ?_)
       rw[hc,hd]
       show wpAny M A (if (["enumerate", "zip", "dict_itemiterator", "dict_reverseitemiterator", "odict_iterator", "itertools.zip_longest", "itertools.pairwise"].contains n && vs[0]? == some (rawInt _))=true then _ else _) Q E s
       rw[if_neg (by intro h;rw[hn,Bool.false_and] at h;cases h)];exact wpAny_pure hQ))
def Itl (K:Frag) (a:Addr):It:=
 ⟨λi H=>∃ xs x,SqL K H a xs/\xs[i]?=some x,λi H x H'=>H'=H/\∀ xs,SqL K H a xs->xs[i]?=some x,λi H=>∃ xs,SqL K H a xs/\xs.length<=i⟩
def Itt (K:Frag) (a:Addr):It:=
 ⟨λi H=>∃ xs x,SqT K H a xs/\xs[i]?=some x,λi H x H'=>H'=H/\∀ xs,SqT K H a xs->xs[i]?=some x,λi H=>∃ xs,SqT K H a xs/\xs.length<=i⟩
def Itr (lo:Int) (n:Nat):It:=⟨λi _=>i<n,λi H x H'=>H'=H/\x=.int (lo+i),λi _=>n<=i⟩
theorem qqk {P:Program} {w:World} {K:Frag} {tg:Expr} (a it:Addr):Turn P w K tg (Itl K a) [it] it (λi h=>h.IsListIter it a i) where
 mem:=by simp
 obj:=λi h st b hb=>by
  have e:b=it:=by simpa using hb
  subst e;obtain ⟨o,e,c,d⟩:=st;exact ⟨o,e,λv z=>by rw[d] at z;cases z⟩
 keep:=λi h h' st k=>st.at λo e=>k it (by simp) o e
 item:=by
  intro X hP hw hK hc i pins s σ H E I hf st hg;subst hP hw hK;obtain ⟨xs,x,hq,hx⟩:=hg;obtain ⟨its,rv,p,hz⟩:=I.list hq;obtain ⟨u,hu,ru⟩:=rv.get hx;obtain ⟨f0,f1,f2,f3,f4,f5⟩:=hf it (by simp);refine wpAny_pyNext_list_item st p.isList (x:=u) (by simpa using hu) λh' st' sb=>?_
  have I1:Inv X pins σ H { s with heap:=h' }:=I.turned (t':=s.toks) (λb o hb e=>(sb.2 b hb).trans e) f0 f1 f3 f4 f5;obtain ⟨o,e,c,d⟩:=id st';exact ⟨u,rfl,qtz (s:={ s with heap:=h' }) e c d (by decide) ⟨x,H,I1,ru,⟨rfl,λys hy=>by rw[I.list_inj hy hq];exact hx⟩,st',λb hb=>(hf b hb).1⟩⟩
 done:=by
  intro X hP hw hK hc i pins s σ H E I hf st hg;subst hP hw hK;obtain ⟨xs,hq,hx⟩:=hg;obtain ⟨its,rv,p,hz⟩:=I.list hq;obtain ⟨f0,f1,f2,f3,f4,f5⟩:=hf it (by simp);have hl:=rv.length;exact wpAny_pyNext_list_end (I.ok.hd hc) st p.isList (by simp;omega) λh' eb=>⟨rfl,I.turned (t':=s.toks) (λb o hb e=>eb b o hb e) f0 f1 f3 f4 f5⟩
 self:=λ_ _ _ _ _ st h=>wpAny_pyIter_listiter st h
theorem qoy {P:Program} {w:World} {K:Frag} {tg:Expr} (a it:Addr):Turn P w K tg (Itt K a) [it] it (λi h=>h.IsTupleIter it a i) where
 mem:=by simp
 obj:=λi h st b hb=>by
  have e:b=it:=by simpa using hb
  subst e;obtain ⟨o,e,c,d⟩:=st;exact ⟨o,e,λv z=>by rw[d] at z;cases z⟩
 keep:=λi h h' st k=>st.at λo e=>k it (by simp) o e
 item:=by
  intro X hP hw hK hc i pins s σ H E I hf st hg;subst hP hw hK;obtain ⟨xs,x,hq,hx⟩:=hg;obtain ⟨its,rv,p,hz⟩:=I.tuple hq;obtain ⟨u,hu,ru⟩:=rv.get hx;obtain ⟨f0,f1,f2,f3,f4,f5⟩:=hf it (by simp);refine wpAny_pyNext_tuple_item st (show s.heap.IsTuple a its.toArray from p) (x:=u) (by simpa using hu) λh' st' sb=>?_
  have I1:Inv X pins σ H { s with heap:=h' }:=I.turned (t':=s.toks) (λb o hb e=>(sb.2 b hb).trans e) f0 f1 f3 f4 f5;obtain ⟨o,e,c,d⟩:=id st';exact ⟨u,rfl,qtz (s:={ s with heap:=h' }) e c d (by decide) ⟨x,H,I1,ru,⟨rfl,λys hy=>by rw[I.tuple_inj hy hq];exact hx⟩,st',λb hb=>(hf b hb).1⟩⟩
 done:=by
  intro X hP hw hK hc i pins s σ H E I hf st hg;subst hP hw hK;obtain ⟨xs,hq,hx⟩:=hg;obtain ⟨its,rv,p,hz⟩:=I.tuple hq;obtain ⟨f0,f1,f2,f3,f4,f5⟩:=hf it (by simp);have hl:=rv.length;exact wpAny_pyNext_tuple_end (I.ok.hd hc) st (show s.heap.IsTuple a its.toArray from p) (by simp;omega) λh' eb=>⟨rfl,I.turned (t':=s.toks) (λb o hb e=>eb b o hb e) f0 f1 f3 f4 f5⟩
 self:=λ_ _ _ _ _ st h=>wpAny_pyIter_tupleiter st h
theorem qoz {P:Program} {w:World} {K:Frag} {tg:Expr} (it:Addr) (lo:Int) (n:Nat):Turn P w K tg (Itr lo n) [it] it (λi h=>IsRangeIter h it (lo+(i:Nat)*1) ((n:Int)-(i:Nat)) 1) where
 mem:=by simp
 obj:=λi h st b hb=>by
  have e:b=it:=by simpa using hb
  subst e;exact ⟨_,st,λv z=>by
   have z':Data.fields _=Data.cell v:=z
   cases z'⟩
 keep:=λi h h' st k=>k it (by simp) _ st
 item:=by
  intro X hP hw hK hc i pins s σ H E I hf st hg;subst hP hw hK;obtain ⟨f0,f1,f2,f3,f4,f5⟩:=hf it (by simp);have W:=Walks.range (prog:=X.prog) (w:=X.w) (I.ok.hd hc) it lo 1 n;refine W.item i s _ _ hg st λv h' tk hv st' kk=>?_
  obtain ⟨t,rfl⟩:=hv;have I1:Inv X pins σ H { s with heap:=h',toks:=tk }:=I.turned (λb o hb e=>kk b o (by simpa using hb) e) f0 f1 f3 f4 f5;refine ⟨_,rfl,qtz (s:={ s with heap:=h',toks:=tk }) (n:= "range_iterator") st' rfl rfl (by decide) ⟨.int (lo+i),H,I1,⟨t,?_⟩,⟨rfl,rfl⟩,st',λb hb=>(hf b hb).1⟩⟩;rw[Int.mul_one]
 done:=by
  intro X hP hw hK hc i pins s σ H E I hf st hg;subst hP hw hK;obtain ⟨f0,f1,f2,f3,f4,f5⟩:=hf it (by simp);exact wpAny_pyNext_range_end (I.ok.hd hc) st (by have:n<=i:=hg;omega) λh' eb=>⟨rfl,I.turned (t':=s.toks) (λb o hb e=>eb b o hb e) f0 f1 f3 f4 f5⟩
 self:=λ_ _ _ _ _ st h=>wpAny_pyIter_rangeiter st h
open PySem PySem.Spec PyProof.Rows
section
variable {X:Cx} {tg:Expr}
def qCq (K:Frag) (tl:TE):TI:=λσ H R=>tl σ H λx H1=>∃ a,x=.ref a/\(∃ xs,SqL K H1 a xs)/\R (Itl K a) H1
def qEc (K:Frag) (tl:TE):TI:=λσ H R=>tl σ H λx H1=>∃ a,x=.ref a/\(∃ xs,SqT K H1 a xs)/\R (Itt K a) H1
theorem qbb {l:Expr} {tl:TE} (hl:PE X l tl):PI X tg l (qCq X.K tl):=by
 intro pins s σ H R I h;refine thn (hl pins s σ H _ I h) λv s1 hq__=>?_
 obtain ⟨x,H1,I1,r1,q1⟩:=hq__;obtain ⟨a,e,⟨xs,hq⟩,q⟩:=q1;subst e;cases r1;obtain ⟨its,rv,p,hz⟩:=I1.list hq;refine wpAny_pyIter_list p.isList ?_;refine ⟨s1.heap.objs.size,[s1.heap.objs.size],_,_,H1,rfl,I1.kept (t':=s1.toks) λb o e=>Heap.get?_push_of_some _ e,qqk a _,⟨_,Heap.get?_push_size _ rfl,rfl,rfl⟩,λb hb=>?_,q⟩;have e:b=s1.heap.objs.size:=by simpa using hb
 subst e;exact I1.fpOk (Nat.le_refl _) (I1.hok.fresh (Nat.le_refl _))
theorem qz0 {l:Expr} {tl:TE} (hl:PE X l tl):PI X tg l (qEc X.K tl):=by
 intro pins s σ H R I h;refine thn (hl pins s σ H _ I h) λv s1 hq__=>?_
 obtain ⟨x,H1,I1,r1,q1⟩:=hq__;obtain ⟨a,e,⟨xs,hq⟩,q⟩:=q1;subst e;cases r1;obtain ⟨its,rv,p,hz⟩:=I1.tuple hq;refine wpAny_pyIter_tuple (show s1.heap.IsTuple a its.toArray from p) ?_;refine ⟨s1.heap.objs.size,[s1.heap.objs.size],_,_,H1,rfl,I1.kept (t':=s1.toks) λb o e=>Heap.get?_push_of_some _ e,qoy a _,⟨_,Heap.get?_push_size _ rfl,rfl,rfl⟩,λb hb=>?_,q⟩;have e:b=s1.heap.objs.size:=by simpa using hb
 subst e;exact I1.fpOk (Nat.le_refl _) (I1.hok.fresh (Nat.le_refl _))
theorem qt0 {pins:List (Addr×Obj)} {σ:St} {H:Hp} {s:Shared} {R:It->Hp->Prop} {E:Value->Shared->Prop} {lo hi:Int} {t u v:Tok} {tk:Nat} (I:Inv X pins σ H s) (h1:-(2 ^ 62)<=lo) (h2:lo<2 ^ 62) (h3:-(2 ^ 62)<=hi) (h4:hi<2 ^ 62)
  (q:R (Itr lo (hi-lo).toNat) H):wpAny (model X.prog X.w) X.A (pyIter (.ref s.heap.objs.size)) (PIE X pins σ tg R) E { s with heap:=s.heap.push { cls:=.type "range",data:=.fields #[.int lo t,.int hi u,.int 1 v] },toks:=tk }:=by
 refine wpAny_pyIter_range (IsRange.new ..) (small_one h1 h2 h3 h4) ?_;have I1:Inv X pins σ H { s with heap:=s.heap.push { cls:=.type "range",data:=.fields #[.int lo t,.int hi u,.int 1 v] },toks:=tk }:=I.kept λb o e=>Heap.get?_push_of_some _ e
 refine ⟨(s.heap.push { cls:=.type "range",data:=.fields #[.int lo t,.int hi u,.int 1 v] }).objs.size,[(s.heap.push { cls:=.type "range",data:=.fields #[.int lo t,.int hi u,.int 1 v] }).objs.size],_,_,H,rfl,
  I1.kept (t':=tk) λb o e=>Heap.get?_push_of_some _ e,qoz _ lo (hi-lo).toNat,?_,λb hb=>?_,q⟩
 ·have e1:lo+((0:Nat):Int)*1=lo:=by simp
  have e2:(((hi-lo).toNat:Nat):Int)-((0:Nat):Int)=Builtin.Range.rangeSize lo hi 1:=by rw[rangeSize_one];split<;>omega
  show IsRangeIter _ _ (lo+((0:Nat):Int)*1) ((((hi-lo).toNat:Nat):Int)-((0:Nat):Int)) 1
  rw[e1,e2];exact Heap.get?_push_size _ rfl
 ·have e:b=(s.heap.push { cls:=.type "range",data:=.fields #[.int lo t,.int hi u,.int 1 v] }).objs.size:=by simpa using hb
  subst e;exact I1.fpOk (Nat.le_refl _) (I1.hok.fresh (Nat.le_refl _))
def qCr (ta:TA):TI:=λσ H R=>ta σ H λvs H1=>∃ j:Int,vs=[.int j] /\ -(2 ^ 62)<=j/\j<2 ^ 62/\R (Itr 0 j.toNat) H1
theorem qeo {a:Expr} {ta:TA} {p pos:Pos} (hg:Gl X "range") (hm:X.mg "range" = none) (ha:PA X [a] ta) (hs:starEach [a] X.env=[(false,eval a X.env)]:=by rfl):PI X tg (.Call (.Name "range" p) [a] [] pos) (qCr ta):=by
 intro pins s σ H R I h;refine Call_ (qkd I hg hm boot_range (PyProof.Rows.callWith_type1 (thn (ha pos pins s σ H _ I h) λus s1 hq__=>?_) hs rfl));obtain ⟨vs,H1,I1,r1,q1⟩:=hq__;obtain ⟨j,e,q1,q2,q⟩:=q1;subst e
 cases r1 with
 | cons r rr =>
  cases rr;obtain ⟨t,rfl⟩:=r;exact call_range_1 (qt0 I1 (by omega) (by omega) q1 q2 (by simpa using q))
def qEd (wi:TI) (g:TG) (tb:TS):TS:=λD σ H=>wi σ H λJ H1=>∃ W:Nat->Nat->St->Hp->Prop,(∃ m,W 0 m σ H1)/\∀ i m σ H,W i m σ H ->
 (J.stop i H/\D.nx σ H)\/(J.go i H/\∃ N:St->Hp->Prop,(∀ σ' H',N σ' H'->∃ m',m'<m/\W (i+1) m' σ' H')/\∀ x H',J.yld i H x H'->g x σ H' λσ2 H2=>tb { D with nx:=N,ct:=N,bk:=D.nx } σ2 H2)
def qkf (fp:List Addr) (h:Heap):List (Addr×Obj):=fp.filterMap λb=>(h.get? b).map λo=>(b,o)
theorem qdw {fp:List Addr} {h:Heap} {b:Addr} {o:Obj} (hb:b∈fp) (e:h.get? b=some o):(b,o)∈qkf fp h:=List.mem_filterMap.mpr ⟨b,hb,by rw[e];rfl⟩
theorem qql {fp:List Addr} {h:Heap} {p:Addr×Obj} (hp:p∈qkf fp h):p.1∈fp/\h.get? p.1=some p.2:=by
 obtain ⟨b,hb,e⟩:=List.mem_filterMap.mp hp
 cases q:h.get? b with
 | none=>rw[q] at e;cases e
 | some o =>
  rw[q] at e;have e':(b,o)=p:=Option.some.inj e;subst e';exact ⟨hb,q⟩
theorem Inv.pinned {pins:List (Addr×Obj)} {σ:St} {H:Hp} {s:Shared} {fp:List Addr} (I:Inv X pins σ H s) (hf:∀ b∈fp,qnd X pins H b) (ho:∀ b∈fp,∃ o,s.heap.get? b=some o/\∀ v,o.data≠.cell v):Inv X (pins ++ qkf fp s.heap) σ H s:=
 I.pins_of λp hp=>(List.mem_append.mp hp).elim (λz=>I.pin p (List.mem_append_right _ z)) λz=>by
  obtain ⟨hb,e⟩:=qql z;obtain ⟨f0,f1,f2,_⟩:=hf p.1 hb;obtain ⟨o,e',d⟩:=ho p.1 hb;rw[e] at e';cases e';exact ⟨e,f0,f1,f2,d⟩
theorem Inv.unpinned {pins pl:List (Addr×Obj)} {σ:St} {H:Hp} {s:Shared} (I:Inv X (pins ++ pl) σ H s):Inv X pins σ H s:=I.pins_of λp hp=>I.pin p (List.mem_append_right _ (List.mem_append_left _ hp))
theorem qdb {iter:Expr} {body:List Stmt} {wi:TI} {g:TG} {tb:TS} {pos:Pos} (hp:PassesOwn (model X.prog X.w) X.A X.env X.xe) (hc:X.calm=true) (hi:PI X tg iter wi) (hg:PG X tg g) (hb:PSs X body tb)
  (hs:∀ x,foldedSetIterable iter X.env x=pure x:=by intro _;rfl):PS X (.For tg iter body [] pos) (qEd wi g tb):=by
 intro pins s σ H D I h;refine wpAny_For (thn (hi pins s σ H _ I h) λv s1 h1=>thn h1 λitv s2 h2=>?_) hs;obtain ⟨it,fp,tn,J,H2,e,I2,T,st2,f2,W,⟨m0,w0⟩,turn⟩:=h2;subst e;have stat:∀ {H':Hp},(∀ b∈fp,H' b=none)->∀ b∈fp,qnd X pins H' b:=λhn b hb=>⟨hn b hb,(f2 b hb).2⟩
 refine codeAny_forLoop_any (λn s'=>∃ i σ' H',Inv X pins σ' H' s'/\tn i s'.heap/\(∀ b∈fp,H' b=none)/\W i n σ' H') ?_ m0 ⟨0,σ,H2,I2,st2,λb hb=>(f2 b hb).1,w0⟩;rintro n s3 ⟨i,σ3,H3,I3,st3,fr3,w3⟩
 rcases turn i n σ3 H3 w3 with ⟨stop,qn⟩|⟨go,N,hN,step⟩
 ·refine wpAny_passesOwn hp (thn (T.done X rfl rfl rfl hc i pins s3 σ3 H3 X.xe I3 (stat fr3) st3 stop) λr s4 hq__=>?_)
  obtain ⟨hr,I4⟩:=hq__;subst hr;exact wpAny_execs_nil ⟨σ3,H3,I4,qn⟩
 ·refine wpAny_passesOwn hp (thn (T.item X rfl rfl rfl hc i pins s3 σ3 H3 X.xe I3 (stat fr3) st3 go) λr s4 hq__=>?_)
  obtain ⟨u,hr,h4⟩:=hq__;subst hr;refine wpAny_passesOwn hp (thn h4 λ_ s5 hq__=>?_);obtain ⟨x,H5,I5,r5,y5,st5,fr5⟩:=hq__;have I5':=I5.pinned (stat fr5) (T.obj _ _ st5);refine wpAny_passesOwn hp (thn (hg _ s5 σ3 H5 x u _ I5' r5 (step x H5 y5)) λ_ s6 hq__=>?_);obtain ⟨σ6,H6,I6,q6⟩:=hq__;refine wpAny_passesOwn hp (thn (hb _ s6 σ6 H6 _ I6 q6) λf s7 q7=>?_);have again:∀ {σ7:St} {H7:Hp},Inv X (pins ++ qkf fp s5.heap) σ7 H7 s7->N σ7 H7->∃ m,m<n/\∃ i σ' H',Inv X pins σ' H' s7/\tn i s7.heap/\(∀ b∈fp,H' b=none)/\W i m σ' H':=fun {σ7 H7} I7 n7=>by
   obtain ⟨m',hm,w7⟩:=hN σ7 H7 n7;refine ⟨m',hm,i+1,σ7,H7,I7.unpinned,T.keep _ _ _ st5 λb hb o e=>(I7.pin (b,o) (List.mem_append_right _ (List.mem_append_right _ (qdw hb e)))).1,λb hb=>?_,w7⟩;obtain ⟨o,e,d⟩:=T.obj _ _ st5 b hb;exact (I7.pin (b,o) (List.mem_append_right _ (List.mem_append_right _ (qdw hb e)))).2.1
  cases f with
  | next=>obtain ⟨σ7,H7,I7,n7⟩:=q7;exact again I7 n7
  | cont=>obtain ⟨σ7,H7,I7,n7⟩:=q7;exact again I7 n7
  | brk=>obtain ⟨σ7,H7,I7,q7⟩:=q7;exact ⟨σ7,H7,I7.unpinned,q7⟩
  | ret v=>obtain ⟨x7,σ7,H7,I7,r7,q7⟩:=q7;exact ⟨x7,σ7,H7,I7.unpinned,r7,q7⟩
end
theorem qch {K:Frag} {a:Addr} {xs:List V} {g:TG} {tb:TS} {D:Ends} {σ:St} {H:Hp} (Pv:Nat->St->Hp->Prop) (h0:Pv 0 σ H) (hl:∀ i σ H,i<=xs.length->Pv i σ H->SqL K H a xs)
  (hs:∀ i x σ H,xs[i]?=some x->Pv i σ H->g x σ H λσ2 H2=>tb { D with nx:=Pv (i+1),ct:=Pv (i+1),bk:=D.nx } σ2 H2) (hd:∀ σ H,Pv xs.length σ H->D.nx σ H) :
  ∃ W:Nat->Nat->St->Hp->Prop,(∃ m,W 0 m σ H)/\∀ i m σ H,W i m σ H ->
   ((Itl K a).stop i H/\D.nx σ H)\/((Itl K a).go i H/\∃ N:St->Hp->Prop,(∀ σ' H',N σ' H'->∃ m',m'<m/\W (i+1) m' σ' H')/\∀ x H',(Itl K a).yld i H x H'->g x σ H' λσ2 H2=>tb { D with nx:=N,ct:=N,bk:=D.nx } σ2 H2):=by
 refine ⟨λi m σ H=>m=xs.length-i/\i<=xs.length/\Pv i σ H,⟨xs.length,by simp,Nat.zero_le _,h0⟩,?_⟩;rintro i m σ H ⟨rfl,hi,p⟩;have q:=hl i σ H hi p
 by_cases hlt:i<xs.length
 ·refine .inr ⟨⟨xs,xs[i],q,by simp[hlt]⟩,Pv (i+1),λσ' H' p'=>⟨xs.length-(i+1),by omega,rfl,hlt,p'⟩,λx H' y=>?_⟩
  obtain ⟨e,y⟩:=y;subst e;exact hs i x σ _ (y xs q) p
 ·have e:i=xs.length:=by omega
  subst e;exact .inl ⟨⟨xs,q,Nat.le_refl _⟩,hd σ H p⟩
theorem qkg {lo:Int} {n:Nat} {g:TG} {tb:TS} {D:Ends} {σ:St} {H:Hp} (Pv:Nat->St->Hp->Prop) (h0:Pv 0 σ H)
  (hs:∀ i σ H,i<n->Pv i σ H->g (.int (lo+i)) σ H λσ2 H2=>tb { D with nx:=Pv (i+1),ct:=Pv (i+1),bk:=D.nx } σ2 H2) (hd:∀ σ H,Pv n σ H->D.nx σ H) :
  ∃ W:Nat->Nat->St->Hp->Prop,(∃ m,W 0 m σ H)/\∀ i m σ H,W i m σ H ->
   ((Itr lo n).stop i H/\D.nx σ H)\/((Itr lo n).go i H/\∃ N:St->Hp->Prop,(∀ σ' H',N σ' H'->∃ m',m'<m/\W (i+1) m' σ' H')/\∀ x H',(Itr lo n).yld i H x H'->g x σ H' λσ2 H2=>tb { D with nx:=N,ct:=N,bk:=D.nx } σ2 H2):=by
 refine ⟨λi m σ H=>m=n-i/\i<=n/\Pv i σ H,⟨n,by simp,Nat.zero_le _,h0⟩,?_⟩;rintro i m σ H ⟨rfl,hi,p⟩
 by_cases hlt:i<n
 ·refine .inr ⟨hlt,Pv (i+1),λσ' H' p'=>⟨n-(i+1),by omega,rfl,hlt,p'⟩,λx H' y=>?_⟩
  obtain ⟨e,y⟩:=y;subst e y;exact hs i σ _ hlt p
 ·have e:i=n:=by omega
  subst e;exact .inl ⟨Nat.le_refl _,hd σ H p⟩
open PySem PySem.Spec PyProof.Rows
abbrev R2:=V->V->Hp->VK->Prop
def OpR (X:Cx) (f:Value->Value->Sem Value) (r:R2):Prop:=
 ∀ (pins:List (Addr×Obj)) (s:Shared) (σ:St) (H:Hp) (x y:V) (v u:Value) (Q:VK),Inv X pins σ H s->RelV x v->RelV y u->r x y H Q ->
  wpAny (model X.prog X.w) X.A (f v u) (EP X pins σ Q) X.xe s
def UnR (X:Cx) (f:Value->Sem Value) (r:V->Hp->VK->Prop):Prop:=
 ∀ (pins:List (Addr×Obj)) (s:Shared) (σ:St) (H:Hp) (x:V) (v:Value) (Q:VK),Inv X pins σ H s->RelV x v->r x H Q ->
  wpAny (model X.prog X.w) X.A (f v) (EP X pins σ Q) X.xe s
def CallR (X:Cx) (f:Value) (r:List V->Hp->VK->Prop):Prop:=
 ∀ (pins:List (Addr×Obj)) (s:Shared) (σ:St) (H:Hp) (xs:List V) (us:List Value) (Q:VK),Inv X pins σ H s->Vals xs us->r xs H Q ->
  wpAny (model X.prog X.w) X.A (call f us) (EP X pins σ Q) X.xe s
def tOp (r:R2) (ta tb:TE):TE:=λσ H Q=>ta σ H λx H1=>tb σ H1 λy H2=>r x y H2 Q
def tUn (r:V->Hp->VK->Prop) (ta:TE):TE:=λσ H Q=>ta σ H λx H1=>r x H1 Q
inductive rIS (C:Int->Int->Prop) (g:Int->Int->V) (x y:V) (H:Hp) (Q:VK):Prop
 | mk (i j:Int) (hx:x=.int i) (hy:y=.int j) (hc:C i j) (k:Q (g i j) H)
def rI (C:Int->Int->Prop) (g:Int->Int->V):R2:=λx y H Q=>rIS C g x y H Q
inductive rI0S (g:Int->Int->V) (x y:V) (H:Hp) (Q:VK):Prop
 | mk (i j:Int) (hx:x=.int i) (hy:y=.int j) (k:Q (g i j) H)
def rI0 (g:Int->Int->V):R2:=λx y H Q=>rI0S g x y H Q
inductive rUS (g:Int->V) (x:V) (H:Hp) (Q:VK):Prop
 | mk (i:Int) (h:x=.int i) (k:Q (g i) H)
def rU (g:Int->V):V->Hp->VK->Prop:=λx H Q=>rUS g x H Q
section
variable {X:Cx} {a b c:Expr} {ta tb tc:TE} {pos:Pos}
theorem qB9 (ha:PE X a ta) (hb:PE X b tb) {pins:List (Addr×Obj)} {s:Shared} {σ:St} {H:Hp} {R:V->V->Hp->Prop} (I:Inv X pins σ H s)
  (h:ta σ H λx H1=>tb σ H1 λy H2=>R x y H2) {Q:Value->Shared->Prop} {f:Value->Value->Sem Value}
  (hf:∀ v u s2 x y H2,Inv X pins σ H2 s2->RelV x v->RelV y u->R x y H2->wpAny (model X.prog X.w) X.A (f v u) Q X.xe s2) :
  wpAny (model X.prog X.w) X.A (eval a X.env) (λv s₁=>wpAny (model X.prog X.w) X.A (eval b X.env) (λu s₂=>wpAny (model X.prog X.w) X.A (f v u) Q X.xe s₂) X.xe s₁) X.xe s:=by
 refine thn (ha pins s σ H _ I h) λv s1 hq__=>?_
 obtain ⟨x,H1,I1,r1,q1⟩:=hq__;refine thn (hb pins s1 σ H1 _ I1 q1) λu s2 hq__=>?_
 obtain ⟨y,H2,I2,r2,q2⟩:=hq__;exact hf v u s2 x y H2 I2 r1 r2 q2
theorem qak {op:Operator} {r:R2} (ho:OpR X (binaryOp op) r) (ha:PE X a ta) (hb:PE X b tb):PE X (.BinOp a op b pos) (tOp r ta tb):=by
 intro pins s σ H Q I h;exact wpAny_BinOp (qB9 ha hb I h λv u s2 x y H2 I2 rx ry q=>ho pins s2 σ H2 x y v u Q I2 rx ry q)
theorem qjb {op:UnaryOp} {r:V->Hp->VK->Prop} (ho:UnR X (unaryOp op) r) (ha:PE X a ta):PE X (.UnaryOp op a pos) (tUn r ta):=by
 intro pins s σ H Q I h;exact UnaryOp_ (thn (ha pins s σ H _ I h) λv s1 ⟨x,H1,I1,r1,q1⟩=>ho pins s1 σ H1 x v Q I1 r1 q1)
theorem opI {f:Value->Value->Sem Value} {C:Int->Int->Prop} {g:Int->Int->Int}
  (rule:∀ (i j:Int) (t u:Tok) (s:Shared) (Q:Value->Shared->Prop) (E:Value->Shared->Prop),C i j->Q (.int (g i j) s.toks) { s with toks:=s.toks+1 }->wpAny (model X.prog X.w) X.A (f (.int i t) (.int j u)) Q E s) :
  OpR X f (rI C λi j=>.int (g i j)):=by
 intro pins s σ H x y v u Q I rx ry h;obtain ⟨i,j,rfl,rfl,hc,q⟩:=h;obtain ⟨t,rfl⟩:=rx;obtain ⟨t',rfl⟩:=ry;exact rule i j t t' s _ _ hc ⟨.int (g i j),H,I.tok _,⟨_,rfl⟩,q⟩
theorem qDs {f:Value->Value->Sem Value} {g:Int->Int->Int}
  (rule:∀ (i j:Int) (t u:Tok) (s:Shared) (Q:Value->Shared->Prop) (E:Value->Shared->Prop),Q (.int (g i j) s.toks) { s with toks:=s.toks+1 }->wpAny (model X.prog X.w) X.A (f (.int i t) (.int j u)) Q E s) :
  OpR X f (rI0 λi j=>.int (g i j)):=by
 intro pins s σ H x y v u Q I rx ry h;obtain ⟨i,j,rfl,rfl,q⟩:=h;obtain ⟨t,rfl⟩:=rx;obtain ⟨t',rfl⟩:=ry;exact rule i j t t' s _ _ ⟨.int (g i j),H,I.tok _,⟨_,rfl⟩,q⟩
theorem qCa {f:Value->Value->Sem Value} {g:Int->Int->Bool}
  (rule:∀ (i j:Int) (t u:Tok) (s:Shared) (Q:Value->Shared->Prop) (E:Value->Shared->Prop),Q (.bool (g i j)) s->wpAny (model X.prog X.w) X.A (f (.int i t) (.int j u)) Q E s) :
  OpR X f (rI0 λi j=>.bl (g i j)):=by
 intro pins s σ H x y v u Q I rx ry h;obtain ⟨i,j,rfl,rfl,q⟩:=h;obtain ⟨t,rfl⟩:=rx;obtain ⟨t',rfl⟩:=ry;exact rule i j t t' s _ _ ⟨.bl (g i j),H,I,rfl,q⟩
def qEe (i j:Int):Prop:=0<j/\j<1073741824
def qEf (i j:Int):Prop:=0<=j/\j<=1000000/\i.natAbs<2 ^ 64
def CMul (i j:Int):Prop:=(-(2 ^ 64)<i/\i<2 ^ 64)\/(-(2 ^ 64)<j/\j<2 ^ 64)
theorem CMul.ok {i j:Int} (h:CMul i j):IntMulOk i j:=by
 rcases h with ⟨h1,h2⟩|⟨h1,h2⟩
 ·exact .of_left (intBits_le_64 h1 h2)
 ·exact .of_right (intBits_le_64 h1 h2)
theorem qa9:OpR X (binaryOp .Add) (rI0 λi j=>.int (i+j)):=qDs λ_ _ _ _ _ _ _ q=>add_int q
theorem qgw:OpR X (binaryOp .Sub) (rI0 λi j=>.int (i-j)):=qDs λ_ _ _ _ _ _ _ q=>sub_int q
theorem qim:OpR X (binaryOp .Mult) (rI CMul λi j=>.int (i*j)):=opI λ_ _ _ _ _ _ _ hc q=>mul_int q hc.ok
theorem qmp:OpR X (binaryOp .FloorDiv) (rI qEe λi j=>.int (i / j)):=opI λi j _ _ _ _ _ hc q=>by
 have h1:(0:Int)<j:=hc.1;have h2:j<1073741824:=hc.2;exact floordiv_int (by omega) (by rw[Int.fdiv_eq_ediv_of_nonneg i (by omega)];exact q) (.inl (PyProof.noPylong_small (by omega)))
theorem qa8:OpR X (binaryOp .Mod) (rI (λ_ j=>0<j) λi j=>.int (i % j)):=opI λi j _ _ _ _ _ hc q=>by
 have h1:(0:Int)<j:=hc;exact mod_int' (by omega) (by rw[Int.fmod_eq_emod_of_nonneg i (by omega)];exact q)
theorem qne:OpR X (binaryOp .Pow) (rI qEf λi j=>.int (i ^ j.toNat)):=opI λ_ _ _ _ _ _ _ hc q=>pow_int_small hc.1 hc.2.1 hc.2.2 q
theorem unI {f:Value->Sem Value} {g:Int->Int}
  (rule:∀ (i:Int) (t:Tok) (s:Shared) (Q:Value->Shared->Prop) (E:Value->Shared->Prop),Q (.int (g i) s.toks) { s with toks:=s.toks+1 }->wpAny (model X.prog X.w) X.A (f (.int i t)) Q E s) :
  UnR X f (rU λi=>.int (g i)):=by
 intro pins s σ H x v Q I rx h;obtain ⟨i,rfl,q⟩:=h;obtain ⟨t,rfl⟩:=rx;exact rule i t s _ _ ⟨.int (g i),H,I.tok _,⟨_,rfl⟩,q⟩
theorem qep:UnR X (unaryOp .USub) (rU λi=>.int (-i)):=unI λ_ _ _ _ _ q=>neg_int q
end
def qDt:V->V->Bool
 | .non,.non=>true|.non,.int _=>true|.int _,.non=>true|.non,.bl _=>true|.bl _,.non=>true|.non,.str _=>true|.str _,.non=>true
 | .int _,.int _=>true|.bl _,.bl _=>true|.str _,.str _=>true|.byt _,.byt _=>true
 | .int _,.str _=>true|.str _,.int _=>true|.bl _,.str _=>true|.str _,.bl _=>true
 | _,_=>false
def rEq:R2:=λx y H Q=>qDt x y=true/\Q (.bl (decide (x=y))) H
def rNe:R2:=λx y H Q=>qDt x y=true/\Q (.bl (!decide (x=y))) H
theorem qqm {i j:Int}:decide (V.int i=V.int j)=(i == j):=by
 rw[Bool.eq_iff_iff]
 simp
theorem qvp {i j:Bool}:decide (V.bl i=V.bl j)=(i == j):=by
 rw[Bool.eq_iff_iff]
 simp
theorem qqn {i j:Str}:decide (V.str i=V.str j)=(i == j):=by
 rw[Bool.eq_iff_iff]
 simp
theorem qqo {i j:Array UInt8}:decide (V.byt i=V.byt j)=(i.toList == j.toList):=by
 rw[Bool.eq_iff_iff];cases i;cases j
 simp
section
variable {X:Cx} {a b c:Expr} {ta tb tc:TE} {pos:Pos}
theorem qaz {pins:List (Addr×Obj)} {σ:St} {H:Hp} {s:Shared} {Q:VK} {k k':Bool} (I:Inv X pins σ H s) (q:Q (.bl k) H) (e:k=k'):EP X pins σ Q (.bool k') s:=by
 subst e;exact ⟨.bl k,H,I,rfl,q⟩
theorem qt1:OpR X (compareOp .Eq) rEq:=by
 intro pins s σ H x y v u Q I rx ry h;obtain ⟨hs,q⟩:=h
 cases x with
 | non =>
  cases rx
  cases y with
  | non=>cases ry;exact PySem.EqNone.eq_none_none (qaz I q (by simp))
  | bl j=>cases ry;exact PySem.EqNone.eq_none_bool (qaz I q (by simp))
  | int j=>obtain ⟨t',rfl⟩:=ry;exact PySem.EqNone.eq_none_int (qaz I q (by simp))
  | str j=>obtain ⟨t',rfl⟩:=ry;exact PySem.EqNone.eq_none_str (qaz I q (by simp))
  | _=>exact absurd (show false=true from hs) Bool.false_ne_true
 | bl i =>
  cases rx
  cases y with
  | non=>cases ry;exact PySem.EqNone.eq_bool_none (qaz I q (by simp))
  | bl j=>cases ry;exact eq_bool (qaz I q qvp)
  | str j=>obtain ⟨t',rfl⟩:=ry;exact PySem.EqMixed.eq_bool_str (qaz I q (by simp))
  | _=>exact absurd (show false=true from hs) Bool.false_ne_true
 | int i =>
  obtain ⟨t,rfl⟩:=rx
  cases y with
  | non=>cases ry;exact PySem.EqNone.eq_int_none (qaz I q (by simp))
  | int j=>obtain ⟨t',rfl⟩:=ry;exact eq_int (qaz I q qqm)
  | str j=>obtain ⟨t',rfl⟩:=ry;exact PySem.EqMixed.eq_int_str (qaz I q (by simp))
  | _=>exact absurd (show false=true from hs) Bool.false_ne_true
 | str i =>
  obtain ⟨t,rfl⟩:=rx
  cases y with
  | non=>cases ry;exact PySem.EqNone.eq_str_none (qaz I q (by simp))
  | bl j=>cases ry;exact PySem.EqMixed.eq_str_bool (qaz I q (by simp))
  | int j=>obtain ⟨t',rfl⟩:=ry;exact PySem.EqMixed.eq_str_int (qaz I q (by simp))
  | str j=>obtain ⟨t',rfl⟩:=ry;exact eq_str (qaz I q qqn)
  | _=>exact absurd (show false=true from hs) Bool.false_ne_true
 | byt i =>
  obtain ⟨t,rfl⟩:=rx
  cases y with
  | byt j=>obtain ⟨t',rfl⟩:=ry;exact PySem.W.eq_bytes (qaz I q qqo)
  | _=>exact absurd (show false=true from hs) Bool.false_ne_true
 | _=>cases y<;>exact absurd (show false=true from hs) Bool.false_ne_true
theorem qt2:OpR X (compareOp .NotEq) rNe:=by
 intro pins s σ H x y v u Q I rx ry h;obtain ⟨hs,q⟩:=h
 cases x with
 | non =>
  cases rx
  cases y with
  | non=>cases ry;exact PySem.EqNone.ne_none_none (qaz I q (by simp))
  | bl j=>cases ry;exact PySem.EqNone.ne_none_bool (qaz I q (by simp))
  | int j=>obtain ⟨t',rfl⟩:=ry;exact PySem.EqNone.ne_none_int (qaz I q (by simp))
  | str j=>obtain ⟨t',rfl⟩:=ry;exact PySem.EqNone.ne_none_str (qaz I q (by simp))
  | _=>exact absurd (show false=true from hs) Bool.false_ne_true
 | bl i =>
  cases rx
  cases y with
  | non=>cases ry;exact PySem.EqNone.ne_bool_none (qaz I q (by simp))
  | bl j=>cases ry;exact ne_bool (qaz I q (congrArg not qvp))
  | str j=>obtain ⟨t',rfl⟩:=ry;exact PySem.EqMixed.ne_bool_str (qaz I q (by simp))
  | _=>exact absurd (show false=true from hs) Bool.false_ne_true
 | int i =>
  obtain ⟨t,rfl⟩:=rx
  cases y with
  | non=>cases ry;exact PySem.EqNone.ne_int_none (qaz I q (by simp))
  | int j=>obtain ⟨t',rfl⟩:=ry;exact ne_int (qaz I q (congrArg not qqm))
  | str j=>obtain ⟨t',rfl⟩:=ry;exact PySem.EqMixed.ne_int_str (qaz I q (by simp))
  | _=>exact absurd (show false=true from hs) Bool.false_ne_true
 | str i =>
  obtain ⟨t,rfl⟩:=rx
  cases y with
  | non=>cases ry;exact PySem.EqNone.ne_str_none (qaz I q (by simp))
  | bl j=>cases ry;exact PySem.EqMixed.ne_str_bool (qaz I q (by simp))
  | int j=>obtain ⟨t',rfl⟩:=ry;exact PySem.EqMixed.ne_str_int (qaz I q (by simp))
  | str j=>obtain ⟨t',rfl⟩:=ry;exact ne_str (qaz I q (congrArg not qqn))
  | _=>exact absurd (show false=true from hs) Bool.false_ne_true
 | byt i =>
  obtain ⟨t,rfl⟩:=rx
  cases y with
  | byt j=>obtain ⟨t',rfl⟩:=ry;exact PySem.W.ne_bytes (qaz I q (congrArg not qqo))
  | _=>exact absurd (show false=true from hs) Bool.false_ne_true
 | _=>cases y<;>exact absurd (show false=true from hs) Bool.false_ne_true
theorem qif:OpR X (compareOp .Lt) (rI0 λi j=>.bl (decide (i<j))):=qCa λ_ _ _ _ _ _ _ q=>lt_int q
theorem qxa:OpR X (compareOp .LtE) (rI0 λi j=>.bl (decide (i<=j))):=qCa λ_ _ _ _ _ _ _ q=>le_int q
theorem qxb:OpR X (compareOp .Gt) (rI0 λi j=>.bl (decide (j<i))):=qCa λ_ _ _ _ _ _ _ q=>gt_int q
theorem qCs:OpR X (compareOp .GtE) (rI0 λi j=>.bl (decide (j<=i))):=qCa λ_ _ _ _ _ _ _ q=>ge_int q
theorem qqp:OpR X (compareOp .In) (λx y H Q=>∃ i j,x=.str i/\y=.str j/\Q (.bl (!(Builtin.Str.occurrences j i 0 j.length 1).isEmpty)) H):=by
 intro pins s σ H x y v u Q I rx ry h;obtain ⟨i,j,rfl,rfl,q⟩:=h;obtain ⟨t,rfl⟩:=rx;obtain ⟨t',rfl⟩:=ry;exact in_str (qaz I q rfl)
theorem qeq:OpR X (compareOp .Is) (λx y H Q=>y=.non/\Q (.bl (decide (x=.non))) H):=by
 intro pins s σ H x y v u Q I rx ry h;obtain ⟨rfl,q⟩:=h;cases ry;refine is_none_gen (qaz I q ?_)
 cases x<;>first
  | (cases rx;rfl)
  | (obtain ⟨t,rfl⟩:=rx;rfl)
theorem qmq:OpR X (compareOp .IsNot) (λx y H Q=>y=.non/\Q (.bl (!decide (x=.non))) H):=by
 intro pins s σ H x y v u Q I rx ry h;obtain ⟨rfl,q⟩:=h;cases ry;refine isnot_none_gen (qaz I q ?_)
 cases x<;>first
  | (cases rx;rfl)
  | (obtain ⟨t,rfl⟩:=rx;rfl)
theorem qvq (b:Expr) {op:CmpOp} (h:op≠.In:=by decide) (h2:op≠.NotIn:=by decide):behindInMarks op b=false:=by
 have e1:(op == CmpOp.In)=false:=by cases op<;>first|rfl|exact absurd rfl h
 have e2:(op == CmpOp.NotIn)=false:=by cases op<;>first|rfl|exact absurd rfl h2
 cases b<;>simp[behindInMarks,e1,e2]
theorem qqq {op:CmpOp} {r:R2} (ho:OpR X (compareOp op) r) (ha:PE X a ta) (hb:PE X b tb) (hm:behindInMarks op b=false):PE X (.Compare a [op] [b] pos) (tOp r ta tb):=by
 intro pins s σ H Q I h;exact wpAny_Compare1 (qB9 ha hb I h λv u s2 x y H2 I2 rx ry q=>ho pins s2 σ H2 x y v u Q I2 rx ry q) hm
def qxc (t:TE):TT:=λσ H Q=>t σ H λx H'=>∃ k,x=.bl k/\Q k H'
theorem qqr {op:CmpOp} {r:R2} (ho:OpR X (compareOp op) r) (ha:PE X a ta) (hb:PE X b tb) (hm:behindInMarks op b=false):PT X (.Compare a [op] [b] pos) (qxc (tOp r ta tb)):=by
 intro pins s σ H Q I h;refine wpAny_isTrue_Compare1 (thn (ha pins s σ H _ I h) λv s1 ⟨x,H1,I1,r1,q1⟩=>thn (hb pins s1 σ H1 _ I1 q1) λu s2 ⟨y,H2,I2,r2,q2⟩ =>
  thn (ho pins s2 σ H2 x y v u _ I2 r1 r2 q2) λc s3 ⟨z,H3,I3,r3,k,e,q3⟩=>?_) hm
 subst e;cases r3;exact wpAny_truthy_bool ⟨H3,I3,q3⟩
theorem qnf:(sizeLine:Nat)<2 ^ 63:=by rw[sizeLine_eq];decide
theorem qin:OpR X (binaryOp .Add) (λx y H Q=>∃ i j,x=.str i/\y=.str j/\i.length+j.length<=sizeLine/\Q (.str (i ++ j)) H):=by
 intro pins s σ H x y v u Q I rx ry h;obtain ⟨i,j,rfl,rfl,hz,q⟩:=h;obtain ⟨t,rfl⟩:=rx;obtain ⟨t',rfl⟩:=ry;exact add_str (λt' tk=>⟨.str (i ++ j),H,I.tok _,⟨_,rfl⟩,q⟩) hz
def qt3 (b:Expr):Prop:=∀ o i,subscripted b false o i=operate [o,i] (getItem o i)
theorem vals1 {x:V} {us:List Value} (r:Vals [x] us):∃ u,us=[u]/\RelV x u:=by
 cases r with
 | cons r1 r2=>cases r2;exact ⟨_,rfl,r1⟩
theorem vals2 {x y:V} {us:List Value} (r:Vals [x,y] us):∃ u w',us=[u,w']/\RelV x u/\RelV y w':=by
 cases r with
 | cons r1 r2 =>
  cases r2 with
  | cons r3 r4=>cases r4;exact ⟨_,_,rfl,r1,r3⟩
theorem qer (hc:X.calm=true):CallR X (.builtin "max") (λxs H Q=>∃ i j,xs=[.int i,.int j]/\Q (.int (if j>i then j else i)) H):=by
 intro pins s σ H xs us Q I r h;obtain ⟨i,j,rfl,q⟩:=h;obtain ⟨u,w',rfl,⟨t,rfl⟩,⟨t',rfl⟩⟩:=vals2 r;refine max_two_ints (I.ok.hd hc) λh' tk k=>⟨_,H,I.kept k,?_,q⟩
 by_cases hj:j>i
 ·rw[if_pos hj,if_pos hj];exact ⟨_,rfl⟩
 ·rw[if_neg hj,if_neg hj];exact ⟨_,rfl⟩
theorem qkh (hc:X.calm=true):CallR X (.builtin "min") (λxs H Q=>∃ i j,xs=[.int i,.int j]/\Q (.int (if j<i then j else i)) H):=by
 intro pins s σ H xs us Q I r h;obtain ⟨i,j,rfl,q⟩:=h;obtain ⟨u,w',rfl,⟨t,rfl⟩,⟨t',rfl⟩⟩:=vals2 r;refine min_two_ints (I.ok.hd hc) λh' tk k=>⟨_,H,I.kept k,?_,q⟩
 by_cases hj:j<i
 ·rw[if_pos hj,if_pos hj];exact ⟨_,rfl⟩
 ·rw[if_neg hj,if_neg hj];exact ⟨_,rfl⟩
def qEg (K:Frag) (x:V) (H:Hp) (n:Nat):Prop:=
 match x with
 | .str y=>y.length<=sizeLine/\n=y.length
 | .byt y=>y.size<=sizeLine/\n=y.size
 | .ref p=>(∃ xs,SqL K H p xs/\n=xs.length)\/∃ xs,SqT K H p xs/\n=xs.length
 | _=>False
theorem qt4:CallR X (.builtin "len") (λxs H Q=>∃ x n,xs=[x]/\qEg X.K x H n/\Q (.int n) H):=by
 intro pins s σ H xs us Q I r h;obtain ⟨x,n,rfl,e,q⟩:=h;obtain ⟨u,rfl,rx⟩:=vals1 r;have hl:=qnf;have hs:sizeLine=16777216:=sizeLine_eq
 cases x with
 | str y =>
  obtain ⟨t,rfl⟩:=rx;obtain ⟨hy,e'⟩:y.length<=sizeLine/\n=y.length:=e;subst e';exact len_str (by omega) ⟨.int _,H,I.tok _,⟨_,rfl⟩,q⟩
 | byt y =>
  obtain ⟨t,rfl⟩:=rx;obtain ⟨hy,e'⟩:y.size<=sizeLine/\n=y.size:=e;subst e';exact PySem.W.len_bytes (by omega) ⟨.int _,H,I.tok _,⟨_,rfl⟩,q⟩
 | ref p =>
  cases rx;have e':(∃ xs,SqL X.K H p xs/\n=xs.length)\/∃ xs,SqT X.K H p xs/\n=xs.length:=e
  rcases e' with ⟨xs,hx,e'⟩|⟨xs,hx,e'⟩
  ·subst e'
   obtain ⟨its,r',pl,hz⟩:=I.list hx;have hlen:=r'.length;exact Calls.call_len_list pl.isList (by simp only[List.size_toArray];omega) ⟨.int xs.length,H,I.tok _,⟨_,by simp only[List.size_toArray];rw[hlen]⟩,q⟩
  ·subst e'
   obtain ⟨its,r',pl,hz⟩:=I.tuple hx;have hlen:=r'.length;exact len_tuple pl (by simp only[List.size_toArray];omega) ⟨.int xs.length,H,I.tok _,⟨_,by simp only[List.size_toArray];rw[hlen]⟩,q⟩
 | _=>exact (show False from e).elim
end
open PySem PySem.Spec PyProof.Rows
structure ObjM (h:Heap) (x dx C:Addr) (mA:Str->Option Value):Prop where
 obj:h.get? x=some (PySem.W.instObj C dx)
 ns:h.Ns1 dx mA
 ne:dx≠x
theorem qqs {h:Heap} {dx:Addr} {mA:Str->Option Value} (n:h.Ns1 dx mA):∃ od,h.get? dx=some od/\∀ name,PySem.W.lookIn name od=some (mA name):=by
 obtain ⟨o,es,ep,ho,hd,hk,_,hm⟩:=n;refine ⟨o,ho,λname=>?_⟩;have e:=hm name;unfold nsFind findBy at e;rw[<- Array.find?_toList] at e;unfold PySem.W.lookIn;rw[hd];dsimp only
 split
 ·rename_i y q
  rw[q] at e;exact congrArg some e
 ·rename_i q
  rw[q] at e;have a:es.toList.any (·.refKey)=false:=by
   rw[List.any_eq_false];intro y hy;obtain ⟨z,t,hkey⟩:=hk y (Array.mem_toList_iff.mp hy)
   simp[DictEntry.refKey,hkey]
  have a':¬ es.toList.any (·.refKey)=true:=by rw[a];exact Bool.false_ne_true
  rw[if_neg a'];exact congrArg some e
theorem ObjM.look {h:Heap} {x dx C:Addr} {mA:Str->Option Value} (I:ObjM h x dx C mA):∃ od,PySem.W.InstAt h x (PySem.W.instObj C dx) C (some od)/\∀ name,PySem.W.lookIn name od=some (mA name):=
 let ⟨od,ho,hl⟩:=qqs I.ns
 ⟨od,⟨I.obj,rfl,rfl,ho⟩,hl⟩
section
variable {prog:Program} {w:World} {A:Around} {E:Value->Shared->Prop} {s:Shared} {K:Frag} {x dx C f:Addr} {mA:Str->Option Value} {name:Str} {v:Value}
theorem qxd {expr:Bool} {Q:Value->Shared->Prop} (X:K.In s.heap) (I:ObjM s.heap x dx C mA) (hg:PySem.W.plainGet K C name=true) (hh:PySem.W.hasDictIn K C=true)
  (ha:PySem.W.findIn K (.ref C) name=some none) (hv:mA name=some v) (hv':PySem.W.handedIn v=true) (h:Q v { s with toks:=s.toks+1 }) :
  wpAny (model prog w) A (getAttr (.ref x) name expr) Q E s:=by
 obtain ⟨od,J,hl⟩:=I.look;exact PySem.W.get_value X J (PySem.W.plainGet_of hg).1 (PySem.W.findObj_own hh ha rfl (by rw[hl,hv])) hv' h
theorem qt5 {pl:Sem Bool} {Q:Value×List Value->Shared->Prop} (X:K.In s.heap) (I:ObjM s.heap x dx C mA) (hg:PySem.W.plainGet K C name=true)
  (hf:PySem.W.findIn K (.ref C) name=some (some (.ref f))) (ht:PySem.W.isFn K (.ref f)=true) (hv:mA name=none) (h:Q (.ref f,[.ref x]) s) :
  wpAny (model prog w) A (getMethod (.ref x) name pl) Q E s:=by
 obtain ⟨od,J,hl⟩:=I.look;exact PySem.W.method_fn X J (PySem.W.plainGet_of hg).1 (PySem.W.plainGet_of hg).2 hf (beq_iff_eq.mp ht) (by show (PySem.W.lookIn name od).map (·.isSome)=some false;rw[hl,hv];rfl) h
theorem qxe {ns:List Str} {Q:Unit->Shared->Prop} (X:K.In s.heap) (I:ObjM s.heap x dx C mA)
  (hs:PySem.W.findIn K (.ref C) "__setattr__" = some (some (.builtin "object.__setattr__"))) (hp:PySem.W.plainOver K C=true) (ht:PySem.W.takerIn K C name=some none) (hh:PySem.W.hasDictIn K C=true)
  (hw:PySem.Within mA ns) (hsz:ns.length<=sizeLine)
  (h:∀ h',ObjM h' x dx C (λy=>if y=name then some v else mA y)->Heap.SameBut dx s.heap h'->Q () { s with heap:=h',toks:=s.toks+2 }) :
  wpAny (model prog w) A (setAttr (.ref x) name v) Q E s:=by
 obtain ⟨od,J,hl⟩:=I.look;refine PySem.W.set_plain X J hs (PySem.W.osa_open (s:={ s with toks:=s.toks+1 }) (r:=none) X J hp ht λb=>?_);obtain ⟨cd,hc,hd'⟩:=PySem.W.any_some hh;have hx:s.heap.get? x=some ⟨.ref C,some dx,.plain,#[]⟩:=I.obj;refine wpAny_bind (wpAny_pure (wpAny_bind (wpAny_bind (wpAny_loadPart hx (wpAny_bind (PySem.W.Looks.here (s:={ s with toks:=s.toks+1 }) (PySem.W.looks_clsIn X hc) ?_))))));rw[hd'];refine wpAny_pure (a:=some dx) (wpAny_bind (wpAny_pure (wpAny_bind ?_)));refine wpAny_nsSet1 (s:={ s with toks:=s.toks+1 }) I.ns λh' hn2 hs2=>?_
 obtain ⟨oD,esD,epD,hoD,hdD,hcD⟩:=hn2.count (PySem.Within.cons name v hw);refine wpAny_bind (wpAny_lookBehind hoD (by rw[hdD];exact pastItsLine_dict (Nat.le_trans hcD (by rw[List.length_cons];omega))) ?_);exact wpAny_pure (h _ ⟨(hs2.2 _ (Ne.symm I.ne)).trans I.obj,hn2,I.ne⟩ hs2)
theorem qt6 {R:Result->Shared->Prop} {vs:List Value} {kw:List (Str×Value)} (X:K.In s.heap) (hm:PySem.W.makesIn K C=true)
  (hi:PySem.W.findIn K (.ref C) "__init__" = some (some (.ref f))) (hf:PySem.W.typeIn K (.ref f)=some (.type "function"))
  (h:codeAny (model prog w) (A.under (.builtin "type.__call__" ⟨.ref C :: vs,kw⟩)) (.call (.ref f) ⟨.ref (s.heap.objs.size+1) :: vs,kw⟩) (PySem.W.InitBack (s.heap.objs.size+1) R)
   {s with heap:=(s.heap.push PySem.W.emptyDict).push (PySem.W.instObj C s.heap.objs.size) }) :
  codeAny (model prog w) A (.call (.ref C) ⟨vs,kw⟩) R s:=by
 obtain ⟨hh,g,d,t,os⟩:=s;exact PySem.W.make_core (PySem.W.makes_of X hm) (PySem.W.looks_findIn X hi) (λself=>PySem.W.bind_fn X self hf) (.inl rfl) h
end
def qek (f:Str) (v:V):List (Str×V)->List (Str×V)
 | []=>[(f,v)]
 | (g,x) :: r=>if g=f then (g,v) :: r else (g,x) :: qek f v r
theorem qad (f g:Str) (v:V):∀ fs:List (Str×V),(qek f v fs).lookup g=if g=f then some v else fs.lookup g
 | []=>by
  show List.lookup g [(f,v)]=_
  by_cases h:g=f
  ·have hb:(g == f)=true:=beq_iff_eq.mpr h
   simp only[List.lookup,hb,if_pos h]
  ·have hb:(g == f)=false:=beq_eq_false_iff_ne.mpr h
   simp only[List.lookup,hb,if_neg h]
 | (k,x) :: r=>by
  have ih:=qad f g v r;rw[show qek f v ((k,x) :: r)=(if k=f then (k,v) :: r else (k,x) :: qek f v r) from rfl]
  by_cases hk:k=f
  ·rw[if_pos hk]
   by_cases h:g=k
   ·have hb:(g == k)=true:=beq_iff_eq.mpr h
    simp only[List.lookup,hb,if_pos (h.trans hk)]
   ·have hb:(g == k)=false:=beq_eq_false_iff_ne.mpr h
    simp only[List.lookup,hb,if_neg (λe:g=f=>h (e.trans hk.symm))]
  ·rw[if_neg hk]
   by_cases h:g=k
   ·have hb:(g == k)=true:=beq_iff_eq.mpr h
    simp only[List.lookup,hb,if_neg (λe:g=f=>hk (h.symm.trans e))]
   ·have hb:(g == k)=false:=beq_eq_false_iff_ne.mpr h
    simp only[List.lookup,hb];exact ih
theorem qgx (f:Str) (v:V):∀ fs:List (Str×V),f∈(qek f v fs).map (·.1)/\∀ g,g∈fs.map (·.1)->g∈(qek f v fs).map (·.1)
 | []=>⟨by simp[qek],λg h=>by simp at h⟩
 | (k,x) :: r=>by
  obtain ⟨i1,i2⟩:=qgx f v r;rw[show qek f v ((k,x) :: r)=(if k=f then (k,v) :: r else (k,x) :: qek f v r) from rfl]
  by_cases hk:k=f
  ·rw[if_pos hk]
   subst hk;exact ⟨by simp,λg h=>by simpa using h⟩
  ·rw[if_neg hk]
   refine ⟨?_,λg h=>?_⟩
   ·rw[List.map_cons]
    exact List.mem_cons_of_mem _ i1
   ·rw[List.map_cons] at h ⊢
    rcases List.mem_cons.mp h with e|e
    ·exact List.mem_cons.mpr (.inl e)
    ·exact List.mem_cons_of_mem _ (i2 g e)
theorem qgy (f:Str) (v:V):∀ fs:List (Str×V),(qek f v fs).length<=fs.length+1
 | []=>by simp[qek]
 | (k,x) :: r=>by
  have ih:=qgy f v r;rw[show qek f v ((k,x) :: r)=(if k=f then (k,v) :: r else (k,x) :: qek f v r) from rfl]
  by_cases hk:k=f
  ·rw[if_pos hk,List.length_cons,List.length_cons];omega
  ·rw[if_neg hk,List.length_cons,List.length_cons];omega
theorem RelO.some_of {v:V} {o:Option Value} (r:RelO (some v) o):∃ u,o=some u/\RelV v u:=by
 cases o with
 | none=>exact (show False from r).elim
 | some u=>exact ⟨u,rfl,r⟩
theorem RelO.none_of {o:Option Value} (r:RelO none o):o=none:=by
 cases o with
 | none=>rfl
 | some u=>exact (show False from r).elim
theorem qqt {v:V} {u:Value} (r:RelV v u):PySem.W.handedIn u=true:=by
 cases v with
 | non=>cases (show u=Value.none from r);rfl
 | bl b=>cases (show u=Value.bool b from r);rfl
 | int i=>obtain ⟨t,e⟩:=(show ∃ t,u=Value.int i t from r);cases e;rfl
 | str x=>obtain ⟨t,e⟩:=(show ∃ t,u=Value.str x t from r);cases e;rfl
 | byt b=>obtain ⟨t,e⟩:=(show ∃ t,u=Value.bytes b t from r);cases e;rfl
 | flt b=>obtain ⟨t,e⟩:=(show ∃ t,u=Value.float b t from r);cases e;rfl
 | ref a=>cases (show u=Value.ref a from r);rfl
 | ty n=>cases (show u=Value.type n from r);rfl
section
variable {P:Program} {w:World} {H H':Hp} {h h':Heap} {a C dx:Addr} {fs fs':List (Str×V)}
theorem qjc (hok:HOk P w H h) (e:H a=some (.ins C dx fs)):∃ mA,ObjM h a dx C mA/\(∀ f,RelO (fs.lookup f) (mA f))/\PySem.Within mA (fs.map (·.1))/\fs.length<=1000/\H dx=some (.own a):=by
 obtain ⟨d,z,ne,ob,mA,n,r,q⟩:=(show ObjOk P w H h a (.ins C dx fs) from hok a _ e);exact ⟨mA,⟨ob,n,ne⟩,r,q,z,d⟩
end
structure Cls (K:Frag) (C:Addr):Prop where
 pg:PySem.W.plainGet K C Str.empty=true
 hd:PySem.W.hasDictIn K C=true
 po:PySem.W.plainOver K C=true
 sa:PySem.W.findIn K (.ref C) "__setattr__" = some (some (.builtin "object.__setattr__"))
theorem Cls.get {K:Frag} {C:Addr} (c:Cls K C) (f:Str):PySem.W.plainGet K C f=true:=c.pg
def NoAttr (K:Frag) (C:Addr) (f:Str):Prop:=PySem.W.findIn K (.ref C) f=some none
theorem NoAttr.taker {K:Frag} {C:Addr} {f:Str} (n:NoAttr K C f):PySem.W.takerIn K C f=some none:=by
 unfold PySem.W.takerIn;rw[show PySem.W.findIn K (.ref C) f=some none from n]
 rfl
structure qqu (K:Frag) (C:Addr) (m:Str) (f:Addr):Prop where
 at_:PySem.W.findIn K (.ref C) m=some (some (.ref f))
 fn:PySem.W.isFn K (.ref f)=true
 kp:keepIn K (.ref f)=true
section
variable {X:Cx} {pins:List (Addr×Obj)} {σ:St} {H:Hp} {s:Shared} {a C dx:Addr} {fs:List (Str×V)} {f:Str} {v:V} {A:Around} {E:Value->Shared->Prop}
theorem qo0 {b:Bool} {Q:Value->Shared->Prop} (I:Inv X pins σ H s) (e:H a=some (.ins C dx fs)) (c:Cls X.K C) (n:NoAttr X.K C f) (l:fs.lookup f=some v)
  (h:∀ u s',Inv X pins σ H s'->RelV v u->Q u s'):wpAny (model X.prog X.w) A (getAttr (.ref a) f b) Q E s:=by
 obtain ⟨mA,O,r,_,_,_⟩:=qjc I.hok e;obtain ⟨u,hu,ru⟩:=RelO.some_of (v:=v) (o:=mA f) (by rw[<- l];exact r f);exact qxd I.kIn O (c.get f) c.hd n hu (qqt ru) (h u _ (I.tok _) ru)
theorem qfc {m:Str} {g:Addr} {pl:Sem Bool} {Q:Value×List Value->Shared->Prop} (I:Inv X pins σ H s) (e:H a=some (.ins C dx fs)) (c:Cls X.K C) (k:qqu X.K C m g) (l:fs.lookup m=none)
  (h:Q (.ref g,[.ref a]) s):wpAny (model X.prog X.w) A (getMethod (.ref a) m pl) Q E s:=by
 obtain ⟨mA,O,r,_,_,_⟩:=qjc I.hok e;have hn:mA m=none:=RelO.none_of (by rw[<- l];exact r m);exact qt5 I.kIn O (c.get m) k.at_ k.fn hn h
theorem qo1 {y:V} {u:Value} {Q:Unit->Shared->Prop} (I:Inv X pins σ H s) (e:H a=some (.ins C dx fs)) (c:Cls X.K C) (n:NoAttr X.K C f) (hl:fs.length<1000) (ry:RelV y u)
  (h:∀ s',Inv X pins σ (upd H a (.ins C dx (qek f y fs))) s'->Q () s'):wpAny (model X.prog X.w) A (setAttr (.ref a) f u) Q E s:=by
 obtain ⟨mA,O,r,wi,_,ho⟩:=qjc I.hok e;have hz:(fs.map (·.1)).length<=sizeLine:=by rw[List.length_map,sizeLine_eq];omega
 refine qxe I.kIn O c.sa c.po n.taker c.hd wi hz λh' O' sb=>h _ ?_
 have hd:∃ o,h'.get? dx=some o:=let ⟨o,_,_,e',_⟩:=O'.ns;⟨o,e'⟩
 refine I.write (x:=a) (e:=dx) (by rw[e];exact True.intro) (.inr ho) (λb q hb z=>(sb.2 b hb).trans z) hd ?_;refine ⟨by rw[qa1 O.ne];exact ho,?_,O.ne,O'.obj,_,O'.ns,λg=>?_,λg hg=>?_⟩
 ·have:=qgy f y fs;omega
 ·show RelO ((qek f y fs).lookup g) (if g=f then some u else mA g)
  rw[qad]
  by_cases q:g=f
  ·rw[if_pos q,if_pos q];exact ry
  ·rw[if_neg q,if_neg q];exact r g
 ·by_cases q:g=f
  ·rw[q];exact (qgx f y fs).1
  ·refine (qgx f y fs).2 g (wi g λz=>hg ?_)
   show (if g=f then some u else mA g)=none
   rw[if_neg q];exact z
theorem Inv.made (I:Inv X pins σ H s):Inv X pins σ (upd (upd H s.heap.objs.size (.own (s.heap.objs.size+1))) (s.heap.objs.size+1) (.ins C s.heap.objs.size []))
  {s with heap:=(s.heap.push PySem.W.emptyDict).push (PySem.W.instObj C s.heap.objs.size) }:=by
 have e1:(s.heap.push PySem.W.emptyDict).get? s.heap.objs.size=some PySem.W.emptyDict:=Heap.get?_push_size s.heap rfl;have e2:((s.heap.push PySem.W.emptyDict).push (PySem.W.instObj C s.heap.objs.size)).get? (s.heap.objs.size+1)=some (PySem.W.instObj C s.heap.objs.size):=by
  have:=Heap.get?_push_size (s.heap.push PySem.W.emptyDict) (o:=PySem.W.instObj C s.heap.objs.size) rfl
  rwa [Heap.size_push] at this
 have e3:(s.heap.push PySem.W.emptyDict).Ns s.heap.objs.size (λ_=>none):=⟨PySem.W.emptyDict,#[],_,e1,rfl,(λe he=>absurd he (by simp)),λ_=>rfl⟩;have I1:=I.laid (a:=s.heap.objs.size) (o:=.own (s.heap.objs.size+1)) (h':=s.heap.push PySem.W.emptyDict) (t':=s.toks) (λb u q=>Heap.get?_push_of_some _ q) (Nat.le_refl _) ⟨_,e1⟩;refine I1.laid (a:=s.heap.objs.size+1) (o:=.ins C s.heap.objs.size []) (t':=s.toks) (λb u q=>Heap.get?_push_of_some _ q) (Nat.le_of_eq (Heap.size_push _ _)) ?_;have ne:s.heap.objs.size≠s.heap.objs.size+1:=Nat.ne_of_lt (Nat.lt_succ_self _);refine ⟨by rw[qa1 ne,qba],Nat.zero_le _,ne,e2,λ_=>none,(Heap.Ns1.of_empty e3).at λo q=>Heap.get?_push_of_some _ q,λ_=>True.intro,λy hy=>absurd rfl hy⟩
theorem qxf {prog:Program} {w:World} {env:Env} {e:Expr} {f:Str} {pos:Pos} {s:Shared} {Q:Value->Shared->Prop} (hb:attributeBase e f env (eval e env)=eval e env)
  (h:wpAny (model prog w) A (eval e env) (λo s₁=>wpAny (model prog w) A (getAttr o f true) Q E s₁) E s):wpAny (model prog w) A (eval (.Attribute e f pos) env) Q E s:=
 Attribute_any_ h (by rw[arm_eval_Attribute,hb])
end
inductive qCt (K:Frag) (f:Str) (x:V) (H1:Hp) (Q:VK):Prop
 | mk (a C dx:Addr) (fs:List (Str×V)) (v:V) (hx:x=.ref a) (ho:H1 a=some (.ins C dx fs)) (hc:Cls K C) (hn:NoAttr K C f) (hl:fs.lookup f=some v) (k:Q v H1)
def qCu (K:Frag) (ta:TE) (f:Str):TE:=λσ H Q=>ta σ H λx H1=>qCt K f x H1 Q
section
variable {X:Cx} {o e value:Expr} {f:Str} {pos pos' tpos:Pos} {ta tv:TE}
theorem qaw (he:PE X e ta) (hb:attributeBase e f X.env (eval e X.env)=eval e X.env):PE X (.Attribute e f pos) (qCu X.K ta f):=by
 intro pins s σ H Q I h;refine qxf hb (thn (he pins s σ H _ I h) λu s1 hq__=>?_);obtain ⟨x,H1,I1,rx,a,C,dx,fs,v,ex,ea,c,n,l,q⟩:=hq__;subst ex;obtain rfl:u=Value.ref a:=rx;exact qo0 I1 ea c n l λu' s2 I2 ru=>⟨v,H1,I2,ru,q⟩
end
section
variable {X:Cx} {pins:List (Addr×Obj)} {σ:St} {H:Hp} {s:Shared} {A:Around} {E:Value->Shared->Prop} {Q:Value->Shared->Prop} {c:Value} {b:Bool}
inductive TyOf (K:Frag) (H:Hp):V->Value->Prop where
 | non:TyOf K H .non (.type "NoneType")
 | bl (x:Bool):TyOf K H (.bl x) (.type "bool")
 | int (i:Int):TyOf K H (.int i) (.type "int")
 | str (x:Str):TyOf K H (.str x) (.type "str")
 | flt (x:UInt64):TyOf K H (.flt x) (.type "float")
 | lst {a:Addr} {xs:List V} (e:H a=some (.lst xs)):TyOf K H (.ref a) (.type "list")
 | frz {a:Addr} {o:Obj} {xs:List V} (e:H a=some (.frz o (.lst xs))):TyOf K H (.ref a) (.type "list")
 | tup {a:Addr} {xs:List V} (e:H a=some (.tup xs)):TyOf K H (.ref a) (.type "tuple")
 | dK {a:Addr} {kvs:List (Key×V)} (e:H a=some (.dK kvs)):TyOf K H (.ref a) (.type "dict")
 | dT {a:Addr} {kvs:List (List Key×V)} (e:H a=some (.dT kvs)):TyOf K H (.ref a) (.type "dict")
 | ins {a C dx:Addr} {fs:List (Str×V)} (e:H a=some (.ins C dx fs)) (cl:Cls K C) (ha:PySem.W.findIn K (.ref C) "__class__" = some (some (.builtin "object.__class__")))
   (hn:PySem.W.specialIn K (.builtin "object.__class__") "__get__" = some (some (.builtin "getset_descriptor.__get__"))) (htk:PySem.W.takesIn K (.builtin "object.__class__")=some true)
   (hm:PySem.W.mroIn K C (.type "object")=some true):TyOf K H (.ref a) (.ref C)
theorem qqv {x:V} {u t:Value} (I:Inv X pins σ H s) (rx:RelV x u) (ty:TyOf X.K H x t) (e:PySem.W.kitOne X.K t c=some b) (h:∀ tk,Q (.bool b) { s with toks:=tk }) :
  wpAny (model X.prog X.w) A (call (.builtin "isinstance") [u,c]) Q E s:=by
 cases ty with
 | non=>cases (show u=Value.none from rx);exact PySem.W.kia_one PySem.W.kitx_none I.kIn True.intro e (λz=>nomatch z) h
 | bl y=>cases (show u=Value.bool y from rx);exact PySem.W.kia_one PySem.W.kitx_bool I.kIn True.intro e (λz=>nomatch z) h
 | int i=>obtain ⟨t,q⟩:=(show ∃ t,u=Value.int i t from rx);cases q;exact PySem.W.kia_one PySem.W.kitx_int I.kIn True.intro e (λz=>nomatch z) h
 | str y=>obtain ⟨t,q⟩:=(show ∃ t,u=Value.str y t from rx);cases q;exact PySem.W.kia_one PySem.W.kitx_str I.kIn True.intro e (λz=>nomatch z) h
 | flt y=>obtain ⟨t,q⟩:=(show ∃ t,u=Value.float y t from rx);cases q;exact PySem.W.kia_one PySem.W.kitx_float I.kIn True.intro e (λz=>nomatch z) h
 | @lst a xs ea =>
  cases (show u=Value.ref a from rx)
  obtain ⟨_,_,n,_,h1⟩:=(show ObjOk X.prog X.w H s.heap a (.lst xs) from I.hok a _ ea);exact PySem.W.kia_one PySem.W.kitx_list I.kIn ⟨_,h1,rfl⟩ e (λz=>nomatch z) h
 | @frz a ob xs ea =>
  cases (show u=Value.ref a from rx)
  obtain ⟨_,_,_,n,_,h1⟩:=(show ObjOk X.prog X.w H s.heap a (.frz ob (.lst xs)) from I.hok a _ ea);exact PySem.W.kia_one PySem.W.kitx_list I.kIn ⟨_,h1,rfl⟩ e (λz=>nomatch z) h
 | @tup a xs ea =>
  cases (show u=Value.ref a from rx)
  obtain ⟨_,_,_,p⟩:=(show ObjOk X.prog X.w H s.heap a (.tup xs) from I.hok a _ ea);obtain ⟨o,h1,h2,_⟩:=p;exact PySem.W.kia_one PySem.W.kitx_tuple I.kIn ⟨o,h1,h2⟩ e (λz=>nomatch z) h
 | @dK a kvs ea =>
  cases (show u=Value.ref a from rx)
  obtain ⟨_,_,vs,_,p⟩:=(show ObjOk X.prog X.w H s.heap a (.dK kvs) from I.hok a _ ea);obtain ⟨o,es,ep,h1,h2,_⟩:=p;exact PySem.W.kia_one PySem.W.kitx_dict I.kIn ⟨o,h1,h2.1⟩ e (λz=>nomatch z) h
 | @dT a kvs ea =>
  cases (show u=Value.ref a from rx)
  obtain ⟨_,_,xs,_,o,es,ep,h1,h2,_⟩:=(show ObjOk X.prog X.w H s.heap a (.dT kvs) from I.hok a _ ea);exact PySem.W.kia_one PySem.W.kitx_dict I.kIn ⟨o,h1,h2.1⟩ e (λz=>nomatch z) h
 | @ins a C dx fs ea cl ha hn htk hm =>
  cases (show u=Value.ref a from rx)
  obtain ⟨mA,O,_⟩:=qjc I.hok ea;obtain ⟨od,J,_⟩:=O.look;exact PySem.W.kia_one (PySem.W.kitx_own (cl.get _) cl.hd ha hn htk hm) I.kIn J e (λz=>nomatch z) h
end
open PySem PySem.Spec PyProof.Rows
structure Room (k:Nat) (A:Around):Prop where
 hd:A.handled=none
 dp:A.depth+3*k+5<recursionLimit
 un:A.units+16*k+200<cLine
theorem Room.mono {j k:Nat} {A:Around} (r:Room k A) (h:j<=k):Room j A:=⟨r.hd,by have:=r.dp;omega,by have:=r.un;omega⟩
theorem Room.deeper {k:Nat} {A:Around} (r:Room (k+1) A) (env:Env):Room k (A.deeper env):=
 ⟨r.hd,by have:=r.dp;show A.depth+1+3*k+5<_;omega,by have:=r.un;show A.units+3+16*k+200<_;omega⟩
theorem qo2 {A:Around} {C:Addr} {us:List Value} {kw:List (Str×Value)}:(A.under (.builtin "type.__call__" ⟨.ref C :: us,kw⟩)).depth=A.depth+1:=by
 first|rfl|simp[Around.under,Code.weight,Code.isCreation,Code.isGuard,Code.isCaller,Code.frames,Code.isFrame,guardIds]
theorem qo3 {A:Around} {C:Addr} {us:List Value} {kw:List (Str×Value)}:(A.under (.builtin "type.__call__" ⟨.ref C :: us,kw⟩)).units=A.units+1:=by
 first|rfl|simp[Around.under,Code.cUnits,Code.frames,Code.isFrame]
theorem Room.make {k:Nat} {A:Around} (r:Room (k+1) A) (C:Addr) (us:List Value) (kw:List (Str×Value)):Room k (A.under (.builtin "type.__call__" ⟨.ref C :: us,kw⟩)):=
 ⟨r.hd,by have:=r.dp;rw[qo2];omega,by have:=r.un;rw[qo3];omega⟩
theorem Room.depth {k:Nat} {A:Around} (r:Room k A):A.depth<recursionLimit:=by have:=r.dp;omega
theorem Room.units {k:Nat} {A:Around} (r:Room k A):A.units+64<cLine:=by have:=r.un;omega
def qig:TA:=λ_ H Q=>Q [] H
def qd3 (ta:TE) (tr:TA):TA:=λσ H Q=>ta σ H λx H1=>tr σ H1 λxs H2=>Q (x :: xs) H2
section
variable {X:Cx} {e:Expr} {es:List Expr} {te:TE} {t:TA} {pos:Pos}
theorem qes:PA X [] qig:=λ_ _ _ _ H Q I h=>Calls.spliced_nil ⟨[],H,I,.nil,h⟩
theorem qbl (ha:PE X e te) (hr:PA X es t) (hs:starEach (e :: es) X.env=(false,eval e X.env) :: starEach es X.env:=by rfl):PA X (e :: es) (qd3 te t):=by
 intro pos pins s σ H Q I h;rw[hs]
 show wpAny _ _ (spliced ((false,eval e X.env) :: backTo pos (starEach es X.env))) _ _ s
 refine Calls.spliced_cons (thn (ha pins s σ H _ I h) λu s1 hq__=>?_);obtain ⟨x,H1,I1,r1,q1⟩:=hq__;exact thn (hr pos pins s1 σ H1 _ I1 q1) λus s2 ⟨xs,H2,I2,r2,q2⟩=>⟨x :: xs,H2,I2,.cons r1 r2,q2⟩
end
abbrev Sp:=List V->Hp->VK->XK->Prop
abbrev CXT:=List Env->Hp->Shared->XK->Value->Shared->Prop
structure Env0 (P:Program) (w:World) (K:Frag) (mg:Str->Option Value) (base:Heap) (A:Around) (outer:List Env) (s:Shared) (H:Hp):Prop where
 frames:A.frames=some outer
 mod:Mod K mg base
 bs:∀ b o,base.get? b=some o->s.heap.get? b=some o/\H b=none
 bsz:base.objs.size<=s.heap.objs.size
 funs:s.heap.FunFrames base outer
 frf:∀ b∈frs outer,H b=none
 hok:HOk P w H s.heap
 bare:AllBare s.gens
def CE (outer:List Env) (P:Program) (w:World) (H:Hp) (s:Shared) (Q:VK) (u:Value) (s':Shared):Prop:=
 ∃ v H',s'.os=s.os/\AllBare s'.gens/\Un (frs outer) [] H H' s.heap s'.heap/\HOk P w H' s'.heap/\RelV v u/\Q v H'
def CR (CX:CXT) (outer:List Env) (P:Program) (w:World) (H:Hp) (s:Shared) (Q:VK) (E:XK) (r:Result) (s':Shared):Prop:=
 match r with
 | .ok (.ret u)=>CE outer P w H s Q u s'
 | .ok _=>False
 | .error e=>CX outer H s E e s'
structure qgl (P:Program) (w:World) (K:Frag) (mg:Str->Option Value) (base:Heap) (CX:CXT) (k:Nat) (f:Addr) (fd:FuncData) (ps:List Str) (sp:Sp):Prop where
 len:∀ vs H Q E,sp vs H Q E->vs.length=ps.length
 run:∀ (A:Around) (outer:List Env) (s:Shared) (H:Hp) (args:Args) (us:List Value) (vs:List V) (Q:VK) (E:XK),Room k A->Env0 P w K mg base A outer s H->BindsTo s fd args (ps.zip us)->Vals vs us->sp vs H Q E ->
  codeAny (model P w) A (.call (.ref f) args) (CR CX outer P w H s Q E) s
theorem Env0.make {P:Program} {w:World} {K:Frag} {mg:Str->Option Value} {base:Heap} {A:Around} {outer:List Env} {s:Shared} {H:Hp} (e:Env0 P w K mg base A outer s H) (C:Addr) (us:List Value) (kw:List (Str×Value)) :
  Env0 P w K mg base (A.under (.builtin "type.__call__" ⟨.ref C :: us,kw⟩)) outer s H:=⟨by first|exact e.frames|(simpa [Around.under,Code.envs,Code.isFrame,pushEnvs] using e.frames),e.mod,e.bs,e.bsz,e.funs,e.frf,e.hok,e.bare⟩
section
variable {X:Cx} {pins:List (Addr×Obj)} {σ:St} {H:Hp} {s s':Shared}
theorem Inv.env0 (I:Inv X pins σ H s):Env0 X.prog X.w X.K X.mg X.base X.A X.stack s H:=
 ⟨I.ok.frames,I.ok.mod,I.bs,Nat.le_trans I.ok.bsz I.sz,I.stack,I.stkFree,I.hok,I.bare⟩
theorem Inv.after {Q:VK} {u:Value} (I:Inv X pins σ H s) (h:CE X.stack X.prog X.w H s Q u s'):EP X pins σ Q u s':=by
 obtain ⟨v,H',os,bare,un,hok,r,q⟩:=h;obtain ⟨hh,g,d,t,os'⟩:=s';obtain rfl:os'=s.os:=os;exact ⟨v,H',I.call (h':=hh) (g':=g) (d':=d) (t':=t) (ch:=[]) un hok bare (λb z=>absurd z (by simp)),r,q⟩
end
def qxg (sp:Sp) (dvs:List V) (E:XK) (t:TA):TE:=λσ H Q=>t σ H λvs H1=>sp (vs ++ dvs) H1 Q E
inductive qvr (C:Addr) (m:Str) (x:V) (H:Hp) (k:Prop):Prop
 | mk (a dx:Addr) (fs:List (Str×V)) (hx:x=.ref a) (ho:H a=some (.ins C dx fs)) (hl:fs.lookup m=none) (hk:k)
def qqw (C:Addr) (m:Str) (sp:Sp) (dvs:List V) (E:XK) (ta:TE) (t:TA):TE:=λσ H Q=>ta σ H λx H1=>qvr C m x H1 (t σ H1 λvs H2=>sp (x :: (vs ++ dvs)) H2 Q E)
def Binds (K:Frag) (fd:FuncData) (ps:List Str) (ds:List Value):Prop:=
 ∀ (s:Shared) (us:List Value),K.In s.heap->(us ++ ds).length=ps.length->BindsTo s fd ⟨us,[]⟩ (ps.zip (us ++ ds))
theorem Binds.all {K:Frag} {fd:FuncData} {ps:List Str} (h:∀ us:List Value,us.length=ps.length->bindArgs fd ⟨us,[]⟩=pure (ps.zip us)):Binds K fd ps []:=λs us _ hl=>by
 rw[List.append_nil] at hl ⊢;exact .of_eq (h us hl)
def qgz (CX:CXT) (X:Cx) (E:XK):Prop:=∀ (pins:List (Addr×Obj)) (σ:St) (H:Hp) (s:Shared) (e:Value) (s':Shared),Inv X pins σ H s->CX X.stack H s E e s'->X.xe e s'
section
variable {X:Cx} {CX:CXT} {k:Nat} {f C:Addr} {fd:FuncData} {ps:List Str} {sp:Sp} {dvs:List V} {ds:List Value} {E:XK} {x m:Str} {p pos apos:Pos} {e o:Expr} {es:List Expr} {ta:TE} {t:TA}
theorem qqx {pins:List (Addr×Obj)} {σ:St} {H:Hp} {s:Shared} {Q:VK} {us:List Value} {vs:List V} (F:qgl X.prog X.w X.K X.mg X.base CX k f fd ps sp) (hr:Room k X.A) (hb:Binds X.K fd ps ds) (hd:Vals dvs ds) (hx:qgz CX X E)
  (I:Inv X pins σ H s) (r:Vals vs us) (h:sp (vs ++ dvs) H Q E):wpAny (model X.prog X.w) X.A (call (.ref f) us) (EP X pins σ Q) X.xe s:=by
 have r2:Vals (vs ++ dvs) (us ++ ds):=r.append hd;have hl:(us ++ ds).length=ps.length:=by rw[<- r2.length];exact F.len _ _ _ _ h
 refine wpAny_call (codeAny_mono (F.run X.A X.stack s H ⟨us,[]⟩ (us ++ ds) (vs ++ dvs) Q E hr I.env0 (hb s us I.kIn hl) r2 h) λr s' hq=>?_)
 cases r with
 | error e=>exact hx pins σ H s e s' I hq
 | ok fl =>
  cases fl with
  | ret u=>exact I.after hq
  | next=>exact False.elim hq
  | brk=>exact False.elim hq
  | cont=>exact False.elim hq
theorem qxh (F:qgl X.prog X.w X.K X.mg X.base CX k f fd ps sp) (hr:Room k X.A) (hg:Gl X x) (hm:X.mg x=some (.ref f)) (hk:keepIn X.K (.ref f)=true) (hb:Binds X.K fd ps ds) (hd:Vals dvs ds) (hx:qgz CX X E)
  (ha:PA X (e :: es) t) (hdb:(x == ("__debug__" : Str))=false:=by decide) (he:starEach (e :: es) X.env=(false,eval e X.env) :: starEach es X.env:=by rfl) (hpl:(backTo pos (starEach es X.env)).any (·.1)=false:=by rfl) :
  PE X (.Call (.Name x p) (e :: es) [] pos) (qxg sp dvs E t):=by
 intro pins s σ H Q I h;refine wpAny_Call_Name_kw (qgs I hg hm ?_ hdb);refine PySem.W.callWith_K (h₀:=X.base) I.ok.mod.kin hk (thn (ha pos pins s σ H _ I h) λus s1 ⟨vs,H1,I1,r,q⟩=>⟨I1.kIn,?_⟩) he hpl;exact qqx F hr hb hd hx I1 r q
theorem qqy {pl:Sem Bool} (he:PE X o ta) (c:Cls X.K C) (hm:qqu X.K C m f) (F:qgl X.prog X.w X.K X.mg X.base CX k f fd ps sp) (hr:Room k X.A) (hb:Binds X.K fd ps ds) (hd:Vals dvs ds) (hx:qgz CX X E) (ha:PA X (e :: es) t)
  (hst:starEach (e :: es) X.env=(false,eval e X.env) :: starEach es X.env:=by rfl) (hpl:(backTo pos (starEach es X.env)).any (·.1)=false:=by rfl)
  (ht:eval (.Call (.Attribute o m apos) (e :: es) [] pos) X.env=(do
   let ov <- eval o X.env
   standAt apos.atName
   let (f,first) <- holding [ov] (getMethod ov m pl)
   callWith pos f first (backTo pos (starEach (e :: es) X.env)) (backToKw pos (keywordEach [] X.env))):=by rfl) :
  PE X (.Call (.Attribute o m apos) (e :: es) [] pos) (qqw C m sp dvs E ta t):=by
 intro pins s σ H Q I h;refine PySem.W.methodCall_KW (pl:=pl) (thn (he pins s σ H _ I h) λu s1 hq__=>?_) ht;obtain ⟨x,H1,I1,rx,a,dx,fs,ex,ea,l,q⟩:=hq__;subst ex;obtain rfl:u=Value.ref a:=rx;refine qfc I1 ea c hm l ?_;refine PySem.W.callWith_K (first:=[.ref a]) (h₀:=X.base) I.ok.mod.kin hm.kp (thn (ha pos pins s1 σ H1 _ I1 q) λus s2 ⟨vs,H2,I2,r,q2⟩=>⟨I2.kIn,?_⟩) hst hpl;exact qqx (us:=.ref a :: us) (vs:=.ref a :: vs) F hr hb hd hx I2 (.cons rfl r) q2
theorem qt7 {pl:Sem Bool} (he:PE X o ta) (c:Cls X.K C) (hm:qqu X.K C m f) (F:qgl X.prog X.w X.K X.mg X.base CX k f fd ps sp) (hr:Room k X.A) (hb:Binds X.K fd ps ds) (hd:Vals dvs ds) (hx:qgz CX X E)
  (ht:eval (.Call (.Attribute o m apos) [] [] pos) X.env=(do
   let ov <- eval o X.env
   standAt apos.atName
   let (f,first) <- holding [ov] (getMethod ov m pl)
   callWith pos f first (backTo pos (starEach [] X.env)) (backToKw pos (keywordEach [] X.env))):=by rfl) :
  PE X (.Call (.Attribute o m apos) [] [] pos) (qqw C m sp dvs E ta qig):=by
 intro pins s σ H Q I h;refine PySem.W.methodCall_KW (pl:=pl) (thn (he pins s σ H _ I h) λu s1 hq__=>?_) ht;obtain ⟨x,H1,I1,rx,a,dx,fs,ex,ea,l,q⟩:=hq__;subst ex;obtain rfl:u=Value.ref a:=rx;refine qfc I1 ea c hm l ?_;exact PySem.W.callWith_K0 (first:=[.ref a]) I1.kIn hm.kp (qqx (us:=[.ref a]) (vs:=[.ref a]) F hr hb hd hx I1 (.cons rfl .nil) q)
structure Mk (K:Frag) (C f:Addr):Prop where
 makes:PySem.W.makesIn K C=true
 init:PySem.W.findIn K (.ref C) "__init__" = some (some (.ref f))
 fn:PySem.W.isFn K (.ref f)=true
 kp:keepIn K (.ref C)=true
theorem qt8 {pins:List (Addr×Obj)} {σ:St} {H:Hp} {s:Shared} {Q:VK} {us:List Value} {vs:List V} (M:Mk X.K C f) (F:qgl X.prog X.w X.K X.mg X.base CX k f fd ps sp) (hr:Room (k+1) X.A) (hb:Binds X.K fd ps ds) (hd:Vals dvs ds)
  (hx:qgz CX X E) (I:Inv X pins σ H s) (r:Vals vs us)
  (h:∀ x dx,H x=none->H dx=none->dx≠x->sp (.ref x :: (vs ++ dvs)) (upd (upd H dx (.own x)) x (.ins C dx [])) (λv H2=>v=.non/\Q (.ref x) H2) E) :
  wpAny (model X.prog X.w) X.A (call (.ref C) us) (EP X pins σ Q) X.xe s:=by
 have hq:=h (s.heap.objs.size+1) s.heap.objs.size (I.hok.fresh (Nat.le_succ _)) (I.hok.fresh (Nat.le_refl _)) (Nat.ne_of_lt (Nat.lt_succ_self _));have I2:=Inv.made (C:=C) I;have r2:Vals (V.ref (s.heap.objs.size+1) :: (vs ++ dvs)) (Value.ref (s.heap.objs.size+1) :: (us ++ ds)):=.cons rfl (r.append hd);have hl:(Value.ref (s.heap.objs.size+1) :: us ++ ds).length=ps.length:=by
  have e:=r2.length;rw[F.len _ _ _ _ hq] at e;exact e.symm
 refine wpAny_call (qt6 (f:=f) I.kIn M.makes M.init (beq_iff_eq.mp M.fn) (codeAny_mono (F.run _ X.stack _ _ ⟨Value.ref (s.heap.objs.size+1) :: us,[]⟩ (Value.ref (s.heap.objs.size+1) :: (us ++ ds)) _ _ E (hr.make C us [])
  (I2.env0.make C us []) (hb _ (Value.ref (s.heap.objs.size+1) :: us) I2.kIn hl) r2 hq) λr s' hq'=>?_))
 cases r with
 | error e=>exact hx pins σ _ _ e s' I2 hq'
 | ok fl =>
  cases fl with
  | ret u =>
   obtain ⟨v,H',I3,rv,ev,q3⟩:=I2.after hq';subst ev;exact ⟨rv,⟨V.ref (s.heap.objs.size+1),H',I3,rfl,q3⟩⟩
  | next=>exact False.elim hq'
  | brk=>exact False.elim hq'
  | cont=>exact False.elim hq'
end
section
variable {X:Cx} {CX:CXT} {k:Nat} {f C:Addr} {fd:FuncData} {ps ks:List Str} {sp:Sp} {E:XK} {x m:Str} {p pos apos kpos:Pos} {e o:Expr} {es:List Expr} {kws:List Keyword} {te ta:TE} {t tk:TA} {nm:Option Str}
variable {g:List Value->List Value->List Value} {gV:List V->List V->List V}
end
structure qaf (N P:List Str) (sc:Scope):Prop where
 kind:sc.kind=.function
 co:sc.isCoroutine=false
 gen:sc.isGenerator=false
 nd:N.Nodup
 pre:N.take P.length=P
 par:∀ x∈P,sc.names.lookup x=some .local\/sc.names.lookup x=some .cell
 nofree:∀ y∈sc.names,y.2≠.free
theorem qki {kindOf:Str->Option NameKind} {x:Str}:∀ {binds:List (Str×Value)} {m:Str->Option Value},(∀ v,(x,v) ∉ binds)->bindL kindOf binds m x=m x
 | [],_,_=>rfl
 | (n,v) :: r,m,h=>by
  unfold bindL;rw[qki λw hw=>h w (List.mem_cons_of_mem _ hw)]
  split
  ·have:x≠n:=by rintro rfl;exact h v List.mem_cons_self
   simp[this]
  ·rfl
theorem qkj {kindOf:Str->Option NameKind} {x:Str}:∀ {binds:List (Str×Value)} {m:Str->Option Value},(∀ v,(x,v) ∉ binds)->bindC kindOf binds m x=m x
 | [],_,_=>rfl
 | (n,v) :: r,m,h=>by
  unfold bindC;rw[qkj λw hw=>h w (List.mem_cons_of_mem _ hw)]
  split
  ·rfl
  ·have:x≠n:=by rintro rfl;exact h v List.mem_cons_self
   simp[this]
theorem qkk {kindOf:Str->Option NameKind} {x:Str} {v:Value}:∀ {P:List Str} {vs:List Value} {i:Nat} {m:Str->Option Value},P.Nodup->P[i]?=some x->vs[i]?=some v->kindOf x=some .local ->
  bindL kindOf (P.zip vs) m x=some v
 | [],_,_,_,_,h,_,_=>by simp at h
 | _ :: _,[],_,_,_,_,h,_=>by simp at h
 | p :: P,w :: vs,0,m,nd,h1,h2,hk=>by
  simp at h1 h2;subst h1;subst h2
  show bindL kindOf ((p,w) :: P.zip vs) m p=_
  unfold bindL;rw[qki λv hv=>(List.nodup_cons.mp nd).1 (List.of_mem_zip hv).1,if_pos hk]
  simp
 | p :: P,w :: vs,i+1,m,nd,h1,h2,hk=>by
  show bindL kindOf ((p,w) :: P.zip vs) m x=_
  unfold bindL;exact qkk (i:=i) (List.nodup_cons.mp nd).2 (by simpa using h1) (by simpa using h2) hk
theorem qkl {kindOf:Str->Option NameKind} {x:Str} {v:Value}:∀ {P:List Str} {vs:List Value} {i:Nat} {m:Str->Option Value},P.Nodup->P[i]?=some x->vs[i]?=some v->kindOf x≠some .local ->
  bindC kindOf (P.zip vs) m x=some v
 | [],_,_,_,_,h,_,_=>by simp at h
 | _ :: _,[],_,_,_,_,h,_=>by simp at h
 | p :: P,w :: vs,0,m,nd,h1,h2,hk=>by
  simp at h1 h2;subst h1;subst h2
  show bindC kindOf ((p,w) :: P.zip vs) m p=_
  unfold bindC;rw[qkj λv hv=>(List.nodup_cons.mp nd).1 (List.of_mem_zip hv).1,if_neg hk]
  simp
 | p :: P,w :: vs,i+1,m,nd,h1,h2,hk=>by
  show bindC kindOf ((p,w) :: P.zip vs) m x=_
  unfold bindC;exact qkl (i:=i) (List.nodup_cons.mp nd).2 (by simpa using h1) (by simpa using h2) hk
def start (N:List Str) (vs:List V):St:=vs.map some ++ List.replicate (N.length-vs.length) none
def qqb (CX:CXT) (P:Program) (w:World) (K:Frag) (mg:Str->Option Value) (base:Heap) (N:List Str) (qual:Str) (scope:Scope) (f:Addr) (cd:Value) (A:Around) (outer:List Env) (s:Shared) (H:Hp) (E:XK):Cx where
 prog:=P
 w:=w
 K:=K
 mg:=mg
 base:=base
 A:=A.deeper (envOfC qual scope s.heap.objs.size f cd)
 N:=N
 s₀:=s
 H₀:=H
 env:=envOfC qual scope s.heap.objs.size f cd
 outer:=outer
 stack:=envOfC qual scope s.heap.objs.size f cd :: outer
 ex:=[]
 calm:=true
 fn:=λ_=>true
 pn:=[]
 xe:=λe s'=>wpAny (model P w) (A.deeper (envOfC qual scope s.heap.objs.size f cd)) (leaving (envOfC qual scope s.heap.objs.size f cd) e) (λ_ s''=>CX outer H s E e s'') (λe' s''=>CX outer H s E e' s'') s'
theorem qng {sc:Scope} {n:Nat} {x:Str} (h:sc.names.lookup x=some .cell):∃ c,(cellsFrom n sc.names []).lookup x=some c:=by
 have q:=PySem.W.cellsFrom_some sc.names n [] (.inl h);exact Option.isSome_iff_exists.mp q
theorem qqz {CX:CXT} {P:Program} {w:World} {K:Frag} {mg:Str->Option Value} {base:Heap} {N ps:List Str} {qual:Str} {scope:Scope} {f:Addr} {cd:Value} {A:Around} {outer:List Env} {s s1:Shared} {H:Hp} {E:XK} {us:List Value} {vs:List V}
  (S:qaf N ps scope) (hd:A.handled=none) (e0:Env0 P w K mg base A outer s H) (hl:vs.length=ps.length) (r:Vals vs us)
  (x:InCallC s s.heap.objs.size (bindL (envOfC qual scope s.heap.objs.size f cd).kindOf (ps.zip us) λ_=>none) (cellsFrom (s.heap.objs.size+1) scope.names []) (bindC (envOfC qual scope s.heap.objs.size f cd).kindOf (ps.zip us) λ_=>none) s1) :
  Inv (qqb CX P w K mg base N qual scope f cd A outer s H E) [] (start N vs) H s1:=by
 have hpl:ps.length<=N.length:=by have:=congrArg List.length S.pre;rw[List.length_take] at this;omega
 obtain ⟨h1,tk,rfl,hk⟩:=x.done;have noA:∀ b:Addr,b ∉ (qqb CX P w K mg base N qual scope f cd A outer s H E).ex:=λb z=>absurd (show b∈([]:List Addr) from z) (by simp)
 refine ⟨⟨e0.mod,S.kind,rfl,rfl,Nat.le_refl _,λy z c h1 h2=>?_,λy hy=>?_,λy c _ h=>?_,λ_=>hd,Around.frames_deeper e0.frames,.inr ⟨rfl,rfl⟩,λb z=>absurd z (noA b),e0.bs,e0.bsz,λb _ _=>noA b,λb z=>absurd z (noA b),e0.funs,e0.frf⟩,
  rfl,e0.bare,Un.kept hk,⟨_,x.toInCall.ns,λi y v h1 h2 h3=>?_⟩,λy c h=>⟨_,x.cell y c h⟩,e0.hok.fresh (Nat.le_refl _),λy c h=>?_,λp hp=>absurd (show p∈([]:List (Addr×Obj)) from hp) (by simp),e0.hok.kept hk,?_⟩
 ·exact name_of_addr x.apart (PySem.mem_of_lookup h1) (PySem.mem_of_lookup h2)
 ·have hy:scope.names.lookup y=some .cell\/scope.names.lookup y=some .free:=hy
  rcases hy with hy|hy
  ·exact qng hy
  ·exact absurd rfl (S.nofree _ (PySem.mem_of_lookup hy))
 ·exact Nat.le_of_lt (x.above y c (PySem.mem_of_lookup h))
 ·have hi:i<vs.length:=by
   unfold start at h2
   by_cases hi:i<vs.length
   ·exact hi
   ·rw[List.getElem?_append_right (by simpa using hi)] at h2
    rw[List.getElem?_replicate] at h2
    split at h2<;>cases h2
  have ha:vs[i]?=some v:=by
   unfold start at h2;rw[List.getElem?_append_left (by simpa using hi),List.getElem?_map] at h2
   cases e:vs[i]? with
   | none=>rw[e] at h2;cases h2
   | some a=>rw[e] at h2;cases h2;rfl
  obtain ⟨u,hu,rv⟩:=r.get ha;have hp:ps[i]?=some y:=by
   rw[<- S.pre,List.getElem?_take_of_lt (by omega)];exact h1
  have ndP:ps.Nodup:=by rw[<- S.pre];exact S.nd.sublist (List.take_sublist _ _)
  refine ⟨u,rv,?_⟩
  rcases S.par y (List.mem_of_getElem? hp) with k|k
  ·exact .inl ⟨k,qkk ndP hp hu k⟩
  ·obtain ⟨c,e⟩:=qng (n:=s.heap.objs.size+1) k
   refine .inr ⟨.inl k,c,e,?_⟩;have q:=x.cell y c e;rw[qkl ndP hp hu (by show scope.names.lookup y≠_;rw[k];decide)] at q;exact q
 ·exact e0.hok.fresh (Nat.le_of_lt (x.above y c (PySem.mem_of_lookup h)))
 ·unfold start
  show _=N.length
  rw[List.length_append,List.length_map,List.length_replicate];omega
theorem qt9 {CX:CXT} {P:Program} {w:World} {K:Frag} {mg:Str->Option Value} {base:Heap} {k:Nat} {f:Addr} {name qual:Str} {params:Arguments} {body:List Stmt} {scope:Scope} {dV kV doc pm cdv ct oc:Value} {an od:Option Addr}
  {osl:Array (Option Value)} {N ps:List Str} {sp:Sp} (lk:K.lookup f=some ⟨oc,od,.func (fnOf name qual params body scope dV kV doc pm an cdv ct),osl⟩) (hcd:codeIn K cdv qual=true) (S:qaf N ps scope)
  (len:∀ vs H Q E,sp vs H Q E->vs.length=ps.length)
  (hbody:∀ (A:Around) (outer:List Env) (s:Shared) (H:Hp) (vs:List V) (Q:VK) (E:XK),Room k (A.deeper (envOfC qual scope s.heap.objs.size f cdv))->sp vs H Q E ->
   ∃ t,PSs (qqb CX P w K mg base N qual scope f cdv A outer s H E) body t/\t { nx:=λ_ H'=>Q .non H',rt:=Q } (start N vs) H) :
  qgl P w K mg base CX (k+1) f (fnOf name qual params body scope dV kV doc pm an cdv ct) ps sp:=by
 refine ⟨len,λA outer s H args us vs Q E hr e0 hb r hsp=>?_⟩;have hl:=len _ _ _ _ hsp;have KX:K.In s.heap:=e0.mod.kin.keeps λb o e=>(e0.bs b o e).1
 have lim:s.heap.NoLimit:=e0.mod.nolimit.keeps λb o e=>(e0.bs b o e).1
 have hkind:∀ y∈ps.zip us,scope.names.lookup y.1=some .local\/(scope.names.lookup y.1=some .cell/\((cellsFrom (s.heap.objs.size+1) scope.names []).lookup y.1).isSome=true):=fun ⟨n,v⟩ hy=>by
  rcases S.par n (List.of_mem_zip hy).1 with q|q
  ·exact .inl q
  ·exact .inr ⟨q,PySem.W.cellsFrom_some _ _ _ (.inl q)⟩
 refine codeAny_call_function hr.depth (KX _ _ lk) rfl S.co S.gen rfl (PySem.W.codeRec_of KX hcd) (hb _ _ _ _ ?_);refine wpAny_newFunctionEnv_cells S.kind hkind λenv he s1 x=>?_
 subst he;refine ⟨lim.keeps x.toInCall.keep,codeAny_func ?_⟩;obtain ⟨t,ht,hq⟩:=hbody A outer s H vs Q E (hr.deeper _) hsp;have I:Inv (qqb CX P w K mg base N qual scope f cdv A outer s H E) [] (start N vs) H s1:=qqz S hr.hd e0 hl r x;refine wpAny_mono (ht [] s1 (start N vs) H _ I hq) (λfl s' hs=>?_) λe s' hs=>hs
 have fin:∀ {σ':St} {H':Hp} {v:V} {u:Value},Inv (qqb CX P w K mg base N qual scope f cdv A outer s H E) [] σ' H' s'->RelV v u->Q v H'->CE outer P w H s Q u s':=
  fun {σ' H' v u} J rv q=>⟨v,H',J.os,J.bare,J.base,J.hok,rv,q⟩
 cases fl with
 | ret u =>
  obtain ⟨v,σ',H',J,rv,q⟩:=hs;exact fin J rv q
 | next =>
  obtain ⟨σ',H',J,q⟩:=hs;exact fin (v:=V.non) (u:=Value.none) J rfl q
 | brk =>
  obtain ⟨_,_,_,q⟩:=hs;exact False.elim q
 | cont =>
  obtain ⟨_,_,_,q⟩:=hs;exact False.elim q
open PySem PySem.Spec PyProof.Rows
section
variable {X:Cx} {x:Str} {p pos:Pos} {e:Expr} {es:List Expr} {t:TA} {id T:String} {r:List V->Hp->VK->Prop}
def tCB (r:List V->Hp->VK->Prop) (t:TA):TE:=λσ H Q=>t σ H λvs H1=>r vs H1 Q
theorem qag (hc:CallR X (.builtin id) r) (hg:Gl X x) (hm:X.mg x=none) (hv:bootBuiltins x=some (.builtin id)) (ha:PA X (e :: es) t) (hn:x ≠ "__name__" :=by decide) (hdb:(x == ("__debug__" : Str))=false:=by decide)
  (he:starEach (e :: es) X.env=(false,eval e X.env) :: starEach es X.env:=by rfl) (hpl:(backTo pos (starEach es X.env)).any (·.1)=false:=by rfl):PE X (.Call (.Name x p) (e :: es) [] pos) (tCB r t):=by
 intro pins s σ H Q I h;refine wpAny_Call_Name_kw (qkd I hg hm hv ?_ hn hdb);exact PyProof.Rows.callWith_builtin1 (thn (ha pos pins s σ H _ I h) λus s1 ⟨vs,H1,I1,r1,q1⟩=>hc pins s1 σ H1 vs us Q I1 r1 q1) he hpl
theorem qbt (hc:CallR X (.type T) r) (hg:Gl X x) (hm:X.mg x=none) (hv:bootBuiltins x=some (.type T)) (ha:PA X (e :: es) t) (hn:x ≠ "__name__" :=by decide) (hdb:(x == ("__debug__" : Str))=false:=by decide)
  (he:starEach (e :: es) X.env=(false,eval e X.env) :: starEach es X.env:=by rfl) (hpl:(backTo pos (starEach es X.env)).any (·.1)=false:=by rfl):PE X (.Call (.Name x p) (e :: es) [] pos) (tCB r t):=by
 intro pins s σ H Q I h;refine wpAny_Call_Name_kw (qkd I hg hm hv ?_ hn hdb);exact PyProof.Rows.callWith_type1 (thn (ha pos pins s σ H _ I h) λus s1 ⟨vs,H1,I1,r1,q1⟩=>hc pins s1 σ H1 vs us Q I1 r1 q1) he hpl
end
end L2
namespace HT
open PySem PyProof.Rows
section
open PySem.SeqAt
open PySem.AutoSeq1 (wpAny_loadPart')
open PySem.MeetsSeq PySem.MeetsSeq2 PySem.MeetsSeq3
end
section
variable {prog:Program} {w:World} {A:Around} {E:Value->Shared->Prop} {s:Shared}
theorem cat_tup {t b:Addr} {vs ws:List Value} {Q:Value->Shared->Prop} (ht:IsTup s.heap t vs.toArray) (hb:IsTup s.heap b ws.toArray) (hv:vs≠[])
  (h1:ws=[]->Q (.ref t) s) (h2:ws≠[]->Q (.ref s.heap.objs.size) { s with heap:=s.heap.push { cls:=.type "tuple",data:=.seq (vs ++ ws).toArray } })
  (hsz:vs.length+ws.length<=sizeLine):wpAny (model prog w) A (binaryOp .Add (.ref t) (.ref b)) Q E s:=by
 obtain ⟨⟨cls,dd,data,sl⟩,ho,hc,n,hd⟩:=id ht;obtain ⟨⟨cls2,dd2,data2,sl2⟩,ho2,hc2,n2,hd2⟩:=id hb;simp only at hc hd hc2 hd2;subst hc hd hc2 hd2;have e:vs.toArray ++ ws.toArray=(vs ++ ws).toArray:=by simp
 by_cases hw:ws=[]
 ·exact concat_meets ⟨_,ho,rfl⟩ ⟨_,ho2,rfl⟩ noFill_tuple_add seq_tuple_add PySem.F.slot_tuple_add PySem.F.entry_tuple_add (PySem.F.args_tuple_add_2 _ _)
   (tuple_addW1 t b vs.toArray ws.toArray n n2 dd dd2 sl sl2 (by simpa using hv) (by simp[hw])) ⟨ho,ho2,h1 hw⟩
 ·refine concat_meets ⟨_,ho,rfl⟩ ⟨_,ho2,rfl⟩ noFill_tuple_add seq_tuple_add PySem.F.slot_tuple_add PySem.F.entry_tuple_add (PySem.F.args_tuple_add_2 _ _)
   (tuple_addW2 t b vs.toArray ws.toArray n n2 dd dd2 sl sl2 (by simpa using hv) (by simpa using hw) (by rw[List.size_toArray,List.size_toArray];exact hsz)) ⟨ho,ho2,?_⟩
  rw[e];exact h2 hw
def sIx (n d:Nat):Option Int->Nat
 | none=>d
 | some v=>if v<0 then (v+(n:Int)).toNat else min v.toNat n
theorem sIx_none (n d:Nat):sIx n d none=d:=rfl
theorem sIx_nat (n d k:Nat):sIx n d (some (k:Int))=min k n:=by
 show (if (k:Int)<0 then ((k:Int)+(n:Int)).toNat else min (k:Int).toNat n)=min k n
 rw[if_neg (by omega),Int.toNat_natCast]
theorem qz1 (n d:Nat) (hd:d<=n) (o:Option Int):sIx n d o<=n:=by
 cases o with
 | none=>exact hd
 | some v =>
  show (if v<0 then (v+(n:Int)).toNat else min v.toNat n)<=n
  by_cases hv:v<0
  ·rw[if_pos hv];omega
  ·rw[if_neg hv];exact Nat.min_le_right _ _
theorem qq0 (v:Int) (n d:Nat):(if v<0 then max (v+(n:Int)) 0 else min v (n:Int))=((sIx n d (some v):Nat):Int):=by
 show (if v<0 then max (v+(n:Int)) 0 else min v (n:Int))=(((if v<0 then (v+(n:Int)).toNat else min v.toNat n):Nat):Int)
 by_cases hv:v<0
 ·simp only[if_pos hv];omega
 ·simp only[if_neg hv];omega
theorem qo4 (lo hi:Option Int) (n:Nat):Builtin.Slice.sliceAdjust lo hi 1 (n:Int)=(((sIx n 0 lo:Nat):Int),((sIx n n hi:Nat):Int)):=by
 have h1:¬ ((1:Int)<0):=by omega
 unfold Builtin.Slice.sliceAdjust;simp only[h1,if_false];refine Prod.ext ?_ ?_
 ·cases lo with
  | none=>rfl
  | some v=>exact qq0 v n 0
 ·cases hi with
  | none=>rfl
  | some v=>exact qq0 v n n
theorem qo5 (i j:Nat):Builtin.Slice.slicePlaces (i:Int) (j:Int) 1=j-i:=by
 unfold Builtin.Slice.slicePlaces;have h1:(1:Int)>0:=by omega
 simp only[h1,if_true,Int.ediv_one]
 split<;>omega
theorem qio {v:Value} {o:Option Int} {Q:Option Int->Shared->Prop} (p:IsPart v o) (h:Q o s):wpAny (model prog w) A (Builtin.Slice.slicePartIndex v) Q E s:=by
 cases p with
 | none=>exact slicePart_none h
 | int i t=>exact slicePart_int h
theorem qgg {sl:Addr} {vl vu:Value} {lo hi:Option Int} {n:Nat} {Q:Int×Int×Nat->Shared->Prop} (hs:s.heap.IsSliceOf sl vl vu .none) (pl:IsPart vl lo) (pu:IsPart vu hi)
  (h:Q (((sIx n 0 lo:Nat):Int),1,sIx n n hi-sIx n 0 lo) s):wpAny (model prog w) A (Builtin.Slice.sliceApplied (.ref sl) (pure (n:Int))) Q E s:=by
 obtain ⟨os,hos,hcs,hds⟩:=id hs;unfold Builtin.Slice.sliceApplied Builtin.Slice.sliceFields;refine wpAny_bind (wpAny_bind (wpAny_field hos hds (x:=vl) rfl (wpAny_bind (wpAny_field hos hds (x:=vu) rfl (wpAny_bind (wpAny_field hos hds (x:=.none) rfl (wpAny_pure ?_)))))));refine wpAny_bind (slicePart_none ?_)
 show wpAny _ _ (if ((1:Int) == 0)=true then _ else _) _ _ s
 rw[if_neg (by decide)];refine wpAny_bind (qio pl (wpAny_bind (qio pu (wpAny_bind (wpAny_pure ?_)))))
 show wpAny _ _ (match Builtin.Slice.sliceAdjust lo hi 1 (n:Int) with|(lo,hi)=>pure (lo,(1:Int),Builtin.Slice.slicePlaces lo hi 1)) _ _ s
 rw[qo4 lo hi n]
 show wpAny _ _ (pure (((sIx n 0 lo:Nat):Int),(1:Int),Builtin.Slice.slicePlaces ((sIx n 0 lo:Nat):Int) ((sIx n n hi:Nat):Int) 1)) _ _ s
 rw[qo5];exact wpAny_pure h
theorem qua (xs:Array Value) (i k:Nat):((List.range k).filterMap fun (m:Nat)=>xs[((i:Int)+(m:Int)*1).toNat]?).toArray=((xs.toList.drop i).take k).toArray:=by
 have e:(fun (m:Nat)=>xs[((i:Int)+(m:Int)*1).toNat]?)=λm=>xs[i+m]?:=by
  funext m
  have:((i:Int)+(m:Int)*1).toNat=i+m:=by omega
  rw[this]
 rw[e];have:=pick_run xs i k;rw[List.filterMap_map] at this;have e2:((λx=>xs[x]?) ∘ λx=>i+x)=λm=>xs[i+m]?:=rfl
 rw[e2] at this;rw[this]
theorem getItem_tuple_cut {t sl:Addr} {items:Array Value} {vl vu:Value} {lo hi:Option Int} {Q:Value->Shared->Prop} (ht:IsTup s.heap t items) (hs:s.heap.IsSliceOf sl vl vu .none) (pl:IsPart vl lo) (pu:IsPart vu hi)
  (hw:¬ (sIx items.size 0 lo=0/\sIx items.size items.size hi=items.size))
  (h:Q (.ref s.heap.objs.size) { s with heap:=s.heap.push { cls:=.type "tuple",data:=.seq ((items.toList.drop (sIx items.size 0 lo)).take (sIx items.size items.size hi-sIx items.size 0 lo)).toArray } })
  (hsz:items.size<=sizeLine):wpAny (model prog w) A (getItem (.ref t) (.ref sl)) Q E s:=by
 have htake:sizeOk (.seq ((items.toList.drop (sIx items.size 0 lo)).take (sIx items.size items.size hi-sIx items.size 0 lo)).toArray):=by
  show ((items.toList.drop (sIx items.size 0 lo)).take (sIx items.size items.size hi-sIx items.size 0 lo)).toArray.size<=sizeLine
  rw[List.size_toArray,List.length_take,List.length_drop,Array.length_toList];omega
 have hj:sIx items.size items.size hi<=items.size:=qz1 _ _ (Nat.le_refl _) hi;obtain ⟨os,hos,hcs,hds⟩:=id hs;have hTs:s.TypeIs (.ref sl) "slice" :=⟨os,hos,hcs⟩;unfold getItem
 try with_reducible refine wpAny_holding ?_
 first|refine wpAny_bind (wpAny_pure ?_)|skip
 refine wpAny_bind (wpAny_sequenceKey ht.typeIs (by decide) ?_);refine wpAny_bind (wpAny_callSpecial?_slot (name:=Str.ofString "__getitem__") ht.typeIs PyProof.Rows.slot_tuple_getitem
  (wpAny_call_entry PyProof.Rows.slot_tuple_getitem ht.typeIs entry_tuple_getitem ?_ (args_tuple_getitem _ _)))
 show wpAny _ _ (Builtin.Tuple.tupleItemsOf (.ref t) >>= _) _ _ s
 refine wpAny_bind (tupleItemsOf_ ht ?_);refine wpAny_bind (wpAny_typeOf hTs ?_);rw[if_pos (by decide)];refine wpAny_bind (qgg hs pl pu ?_);have hno:¬ ((((sIx items.size 0 lo:Nat):Int) == 0 && (1:Int) == 1 && (sIx items.size items.size hi-sIx items.size 0 lo) == items.size)=true):=by
  intro q;rw[Bool.and_eq_true,Bool.and_eq_true] at q;have q1:((sIx items.size 0 lo:Nat):Int)=0:=eq_of_beq q.1.1;have q2:sIx items.size items.size hi-sIx items.size 0 lo=items.size:=eq_of_beq q.2;exact hw ⟨by omega,by omega⟩
 show wpAny _ _ (if (((sIx items.size 0 lo:Nat):Int) == 0 && (1:Int) == 1 && (sIx items.size items.size hi-sIx items.size 0 lo) == items.size)=true then _ else _) _ _ s
 rw[if_neg hno,qua]
 first
  | exact wpAny_bind (m:=Builtin.Tuple.tupleExact _) (wpAny_newObj_type (wpAny_pure ⟨_,rfl,wpAny_pure h⟩) htake)
  | exact wpAny_bind (m:=Builtin.Tuple.tupleExact _) (wpAny_newObj_type (wpAny_bind (wpAny_pure (wpAny_pure ⟨_,rfl,wpAny_pure h⟩))) htake)
  | exact wpAny_bind (wpAny_bind (m:=Builtin.Tuple.tupleExact _) (wpAny_newObj_type (wpAny_pure (wpAny_pure ⟨_,rfl,wpAny_pure h⟩)) htake))
  | exact wpAny_bind (wpAny_bind (m:=Builtin.Tuple.tupleExact _) (wpAny_newObj_type (wpAny_pure ⟨_,rfl,wpAny_pure h⟩) htake))
end
end HT
namespace L2
open PySem PySem.Spec PyProof.Rows
abbrev TO:=St->Hp->(Option Int->Hp->Prop)->Prop
def PO (X:Cx) (e:Option Expr) (t:TO):Prop:=
 ∀ (pins:List (Addr×Obj)) (s:Shared) (σ:St) (H:Hp) (Q:Option Int->Hp->Prop),Inv X pins σ H s->t σ H Q ->
  wpAny (model X.prog X.w) X.A (evalPart e X.env) (λu s'=>∃ o H',Inv X pins σ H' s'/\IsPart u o/\Q o H') X.xe s
def qxi:TO:=λ_ H Q=>Q none H
inductive tPartS (x:V) (H:Hp) (Q:Option Int->Hp->Prop):Prop
 | mk (i:Int) (h:x=.int i) (k:Q (some i) H)
def qCv (t:TE):TO:=λσ H Q=>t σ H λx H1=>tPartS x H1 Q
theorem intsAre_of {ns:List Int}:∀ {us:List Value},Vals (ns.map V.int) us->IntsAre us ns:=by
 induction ns with
 | nil=>intro us r;rw[List.map_nil] at r;cases r;exact .nil
 | cons n ns ih =>
  intro us r;rw[List.map_cons] at r
  cases r with
  | cons r1 r2 =>
   obtain ⟨t,e⟩:=r1;subst e;exact .cons n t (ih r2)
section
variable {X:Cx} {e:Expr} {te:TE} {lo hi:Option Expr} {tl th:TO} {pos p2:Pos}
theorem qg0:PO X none qxi:=by
 intro pins s σ H Q I h;rw[evalPart_none];exact wpAny_pure ⟨none,H,I,.none,h⟩
theorem qee (h:PE X e te):PO X (some e) (qCv te):=by
 intro pins s σ H Q I hw;rw[evalPart_some];refine thn (h pins s σ H _ I hw) λu s1 hq__=>?_
 obtain ⟨x,H1,I1,r1,q1⟩:=hq__;obtain ⟨i,rfl,q⟩:=q1;obtain ⟨t,rfl⟩:=r1;exact ⟨some i,H1,I1,.int i t,q⟩
def SlR (X:Cx) (r:V->Option Int->Option Int->Hp->VK->Prop):Prop:=
 ∀ (pins:List (Addr×Obj)) (s:Shared) (σ:St) (H:Hp) (x:V) (v vl vu:Value) (lo hi:Option Int) (sl:Addr) (Q:VK),Inv X pins σ H s->RelV x v->s.heap.IsSliceOf sl vl vu .none->IsPart vl lo->IsPart vu hi->r x lo hi H Q ->
  ∃ T id,typeLookup (.type T) "__getitem__" = pure (some (.builtin id))/\s.TypeIs v T/\wpAny (model X.prog X.w) X.A (getItem v (.ref sl)) (EP X pins σ Q) X.xe s
def tSl (r:V->Option Int->Option Int->Hp->VK->Prop) (te:TE) (tl th:TO):TE:=λσ H Q=>te σ H λx H1=>tl σ H1 λl H2=>th σ H2 λu H3=>r x l u H3 Q
theorem qdx {r:V->Option Int->Option Int->Hp->VK->Prop} (hr:SlR X r) (he:PE X e te) (hl:PO X lo tl) (hu:PO X hi th):PE X (.Subscript e (.Slice lo hi none p2) pos) (tSl r te tl th):=by
 intro pins s σ H Q I h;refine Subscript_ (thn (he pins s σ H _ I h) λv s1 hq__=>?_);obtain ⟨x,H1,I1,r1,q1⟩:=hq__;refine wpAny_Slice (thn (hl pins s1 σ H1 _ I1 q1) λvl s2 ⟨l,H2,I2,pl,q2⟩=>thn (hu pins s2 σ H2 _ I2 q2) λvu s3 hq__=>?_);obtain ⟨u,H3,I3,pu,q3⟩:=hq__;rw[evalPart_none];refine wpAny_pure ?_;have I4:Inv X pins σ H3 { s3 with heap:=s3.heap.push { cls:=.type "slice",data:=.fields #[vl,vu,.none] } }:=I3.kept (t':=s3.toks) λb ob q=>Heap.get?_push_of_some _ q
 obtain ⟨T,id,hT,ht,hg⟩:=hr pins { s3 with heap:=s3.heap.push { cls:=.type "slice",data:=.fields #[vl,vu,.none] } } σ H3 x v vl vu l u s3.heap.objs.size Q I4 r1 (Heap.IsSliceOf.new ..) pl pu q3
 show wpAny (model X.prog X.w) X.A (subscriptTail e (.Slice lo hi none p2) v (.ref s3.heap.objs.size)) (EP X pins σ Q) X.xe { s3 with heap:=s3.heap.push { cls:=.type "slice",data:=.fields #[vl,vu,.none] } }
 exact tail_any (ops:=[.ref s3.heap.objs.size,v]) ht hT hg (by with_unfolding_all rfl)
def qkm (xs:List V) (lo hi:Option Int):List V:=(xs.drop (HT.sIx xs.length 0 lo)).take (HT.sIx xs.length xs.length hi-HT.sIx xs.length 0 lo)
theorem qef (xs:List V) (lo hi:Option Int):(qkm xs lo hi).length<=xs.length:=by
 unfold qkm;rw[List.length_take,List.length_drop];omega
def qEh (K:Frag):V->Option Int->Option Int->Hp->VK->Prop:=λx lo hi H Q=>∃ a xs,x=.ref a/\SqT K H a xs /\
 ¬ (HT.sIx xs.length 0 lo=0/\HT.sIx xs.length xs.length hi=xs.length)/\∀ p,H p=none->Q (.ref p) (upd H p (.tup (qkm xs lo hi)))
theorem qz2:SlR X (qEh X.K):=by
 intro pins s σ H x v vl vu lo hi sl Q I rx hs pl pu h;obtain ⟨a,xs,rfl,hx,hw,q⟩:=h;cases rx;obtain ⟨its,r,ht,hz⟩:=I.tuple hx;have hlen:its.toArray.size=xs.length:=by rw[List.size_toArray];exact r.length.symm
 refine ⟨"tuple",_,PyProof.Rows.slot_tuple_getitem.lookup,ht.typeIs,?_⟩;refine HT.getItem_tuple_cut ht hs pl pu (by rw[hlen];exact hw) ?_ (by rw[hlen];exact hz);rw[hlen];refine ⟨.ref s.heap.objs.size,_,I.laid (t':=s.toks) (o:=.tup (qkm xs lo hi)) (λb ob q=>Heap.get?_push_of_some _ q) (Nat.le_refl _) ?_,rfl,q _ (I.hok.fresh (Nat.le_refl _))⟩;exact ⟨Nat.le_trans (qef xs lo hi) hz,_,(r.drop (HT.sIx xs.length 0 lo)).take (HT.sIx xs.length xs.length hi-HT.sIx xs.length 0 lo),IsTup.new _ _⟩
def qCw (K:Frag):R2:=λx y H Q=>∃ a b xs ys,x=.ref a/\y=.ref b/\SqT K H a xs/\SqT K H b ys/\xs≠[]/\xs.length+ys.length<=sizeLine /\
 (ys=[]->Q (.ref a) H)/\(ys≠[]->∀ p,H p=none->Q (.ref p) (upd H p (.tup (xs ++ ys))))
theorem Vals.nil_iff {xs:List V} {us:List Value} (r:Vals xs us):us=[]↔xs=[]:=by
 cases r with
 | nil=>simp
 | cons _ _=>simp
theorem op_catT:OpR X (binaryOp .Add) (qCw X.K):=by
 intro pins s σ H x y v u Q I rx ry h;obtain ⟨a,b,xs,ys,rfl,rfl,ha,hb,hx,hz,q1,q2⟩:=h;cases rx;cases ry;obtain ⟨its,r1,p1,_⟩:=I.tuple ha;obtain ⟨its2,r2,p2,_⟩:=I.tuple hb;refine HT.cat_tup p1 p2 (λz=>hx (r1.nil_iff.mp z)) (λz=>⟨.ref a,H,I,rfl,q1 (r2.nil_iff.mp z)⟩) (λz=>?_) (by rw[<- r1.length,<- r2.length];exact hz);refine ⟨.ref s.heap.objs.size,_,I.laid (t':=s.toks) (o:=.tup (xs ++ ys)) (λb ob q=>Heap.get?_push_of_some _ q) (Nat.le_refl _) ?_,rfl,q2 (λw=>z (r2.nil_iff.mpr w)) _ (I.hok.fresh (Nat.le_refl _))⟩;exact ⟨by rw[List.length_append];exact hz,_,r1.append r2,IsTup.new _ _⟩
end
open PySem PySem.Spec PyProof.Rows
def ixN (n:Nat) (i:Int):Option Nat:=if 0<=i then (if i<n then some i.toNat else none) else if -(n:Int)<=i then some (i+n).toNat else none
def atI {α:Type} (xs:List α) (i:Int):Option α:=(ixN xs.length i).bind λj=>xs[j]?
theorem qxj {n:Nat} {i:Int} {j:Nat} (h:ixN n i=some j):seqIndex? i n=some j/\j<n /\ -(n:Int)<=i/\i<n:=by
 unfold ixN at h
 by_cases h0:0<=i
 ·rw[if_pos h0] at h
  by_cases h1:i<n
  ·rw[if_pos h1] at h
   have e:i.toNat=j:=Option.some.inj h;exact ⟨by rw[seqIndex_of h0 h1,e],by omega,by omega,h1⟩
  ·rw[if_neg h1] at h;cases h
 ·rw[if_neg h0] at h
  by_cases h1:-(n:Int)<=i
  ·rw[if_pos h1] at h
   have e:(i+n).toNat=j:=Option.some.inj h;exact ⟨by rw[seqIndex_neg (by omega) h1,e],by omega,h1,by omega⟩
  ·rw[if_neg h1] at h;cases h
theorem qq1 {α:Type} {xs:List α} {i:Int} {v:α} (h:atI xs i=some v):∃ j,seqIndex? i xs.length=some j/\xs[j]?=some v/\j<xs.length /\ -(xs.length:Int)<=i/\i<xs.length:=by
 unfold atI at h
 cases e:ixN xs.length i with
 | none=>rw[e] at h;cases h
 | some j =>
  rw[e] at h;obtain ⟨h1,h2,h3,h4⟩:=qxj e;exact ⟨j,h1,h,h2,h3,h4⟩
theorem qjd {α:Type} {xs:List α} {j:Nat} {v:α} (h:xs[j]?=some v):atI xs (j:Int)=some v:=by
 have hj:j<xs.length:=(List.getElem?_eq_some_iff.mp h).1;have e:ixN xs.length (j:Int)=some j:=by
  unfold ixN;rw[if_pos (by omega),if_pos (by omega)];simp
 unfold atI;rw[e];exact h
def qmr (b:Expr):Prop:=∀ o i,subscripted b false o i=operate [o,i] (getItem o i)
def IxR (X:Cx) (r:R2):Prop:=
 ∀ (value slice:Expr) (pins:List (Addr×Obj)) (s:Shared) (σ:St) (H:Hp) (x y:V) (v u:Value) (Q:VK),Inv X pins σ H s->RelV x v->RelV y u->r x y H Q ->
  subscripted slice false v u=operate [v,u] (getItem v u)->wpAny (model X.prog X.w) X.A (subscriptTail value slice v u) (EP X pins σ Q) X.xe s
def MtR (X:Cx) (id:String) (r:V->List V->Hp->VK->Prop):Prop:=
 ∀ (pins:List (Addr×Obj)) (s:Shared) (σ:St) (H:Hp) (x:V) (xs:List V) (v:Value) (us:List Value) (Q:VK),Inv X pins σ H s->RelV x v->Vals xs us->r x xs H Q ->
  wpAny (model X.prog X.w) X.A (call (.builtin id) (v :: us)) (EP X pins σ Q) X.xe s
section
variable {X:Cx} {a b:Expr} {ta tb:TE} {pos:Pos}
theorem qxk {r:R2} (hr:IxR X r) (ha:PE X a ta) (hb:PE X b tb) (hs:qmr b):PE X (.Subscript a b pos) (tOp r ta tb):=by
 intro pins s σ H Q I h;exact Subscript_ (qB9 ha hb I h λv u s2 x y H2 I2 rx ry q=>hr a b pins s2 σ H2 x y v u Q I2 rx ry q (hs _ _))
inductive rIxLS (K:Frag) (x y:V) (H:Hp) (Q:VK):Prop
 | mk (p:Addr) (xs:List V) (i:Int) (v:V) (hx:x=.ref p) (hy:y=.int i) (hs:SqL K H p xs) (ha:atI xs i=some v) (k:Q v H)
def qDu (K:Frag):R2:=λx y H Q=>rIxLS K x y H Q
inductive rIxTS (K:Frag) (x y:V) (H:Hp) (Q:VK):Prop
 | mk (p:Addr) (xs:List V) (i:Int) (v:V) (hx:x=.ref p) (hy:y=.int i) (hs:SqT K H p xs) (ha:atI xs i=some v) (k:Q v H)
def qCx (K:Frag):R2:=λx y H Q=>rIxTS K x y H Q
theorem qxl:IxR X (qDu X.K):=by
 intro value slice pins s σ H x y v u Q I rx ry h hs;obtain ⟨p,xs,i,z,rfl,rfl,hq,he,q⟩:=h;cases rx;obtain ⟨t,rfl⟩:=ry;obtain ⟨its,r,pl,hz⟩:=I.list hq;obtain ⟨j,h1,h2,h3,h4,h5⟩:=qq1 he;obtain ⟨w,ew,rw'⟩:=r.get h2;have hl:=r.length;have hn:=qnf;have fin:EP X pins σ Q w s:=⟨z,H,I,rw',q⟩
 by_cases h0:0<=i
 ·have hj:i.toNat=j:=by
   rw[seqIndex_of h0 h5] at h1;exact Option.some.inj h1
  exact item_listR pl.isList h0 (by omega) (by rw[hj];simpa using ew) fin hs
 ·have hj:(i+(its.toArray.size:Int)).toNat=j:=by
   rw[seqIndex_neg (by omega) h4] at h1;rw[List.size_toArray,<- hl];exact Option.some.inj h1
  exact subscriptTail_builtinR (x:=w) pl.isList.typeIs slot_list_getitem.lookup
   (wpAny_getItem_list_neg (Q:=λr s'=>r=w/\EP X pins σ Q r s') pl.isList (by omega) (by rw[List.size_toArray]<;>omega) (by omega) (by rw[hj];simpa using ew) ⟨rfl,fin⟩) hs
theorem qvs:IxR X (qCx X.K):=by
 intro value slice pins s σ H x y v u Q I rx ry h hs;obtain ⟨p,xs,i,z,rfl,rfl,hq,he,q⟩:=h;cases rx;obtain ⟨t,rfl⟩:=ry;obtain ⟨its,r,pl,hz⟩:=I.tuple hq;obtain ⟨j,h1,h2,h3,h4,h5⟩:=qq1 he;obtain ⟨w,ew,rw'⟩:=r.get h2;have hl:=r.length;have hn:=qnf;have fin:EP X pins σ Q w s:=⟨z,H,I,rw',q⟩;exact subscriptTail_builtinR (x:=w) pl.typeIs slot_tuple_getitem.lookup
  (getItem_tuple (j:=j) (Q:=λr s'=>r=w/\EP X pins σ Q r s') pl (by omega) (by omega) (by rw[List.size_toArray,<- hl];exact h1) (by simpa using ew) ⟨rfl,fin⟩) hs
theorem qkn (lo hi:Option Int) (n:Nat):(sliceBounds lo hi none n).1=((HT.sIx n 0 lo:Nat):Int)/\(sliceBounds lo hi none n).2.1=((HT.sIx n n hi:Nat):Int)/\(sliceBounds lo hi none n).2.2=1:=by
 refine ⟨?_,?_,rfl⟩
 ·cases lo with
  | none=>simp[sliceBounds,HT.sIx]
  | some i =>
   simp only[sliceBounds,HT.sIx,Option.getD_none,show (1:Int)>0 by decide,if_true]
   by_cases h:i<0
   ·simp only[h,if_true]<;>omega
   ·simp only[h,if_false]<;>omega
 ·cases hi with
  | none=>simp[sliceBounds,HT.sIx]
  | some i =>
   simp only[sliceBounds,HT.sIx,Option.getD_none,show (1:Int)>0 by decide,if_true]
   by_cases h:i<0
   ·simp only[h,if_true]<;>omega
   ·simp only[h,if_false]<;>omega
theorem qje (its:List Value) (lo hi:Option Int):slicePick its.toArray lo hi none=((its.drop (HT.sIx its.length 0 lo)).take (HT.sIx its.length its.length hi-HT.sIx its.length 0 lo)).toArray:=by
 obtain ⟨h1,h2,h3⟩:=qkn lo hi its.toArray.size;unfold slicePick;rw[h1,h2,h3];simp only[sliceRange_one,pick_run,List.size_toArray]<;>rfl
def qEi (K:Frag):V->Option Int->Option Int->Hp->VK->Prop:=λx lo hi H Q=>∃ a xs,x=.ref a/\SqL K H a xs/\∀ p,H p=none->Q (.ref p) (upd H p (.lst (qkm xs lo hi)))
theorem qxm:SlR X (qEi X.K):=by
 intro pins s σ H x v vl vu lo hi sl Q I rx hs pl pu h;obtain ⟨a,xs,rfl,hx,q⟩:=h;cases rx;obtain ⟨its,r,ht,hz⟩:=I.list hx;have hlen:=r.length;refine ⟨"list",_,slot_list_getitem.lookup,ht.isList.typeIs,?_⟩;refine wpAny_getItem_list_slice ht.isList hs pl pu .none (by simp) ?_ (by rw[List.size_toArray]<;>omega);rw[qje,<- hlen];refine ⟨.ref s.heap.objs.size,_,I.laid (t':=s.toks) (o:=.lst (qkm xs lo hi)) (λb ob q=>Heap.get?_push_of_some _ q) (Nat.le_refl _) ?_,rfl,q _ (I.hok.fresh (Nat.le_refl _))⟩;exact ⟨Nat.le_trans (qef xs lo hi) hz,_,0,(r.drop (HT.sIx xs.length 0 lo)).take (HT.sIx xs.length xs.length hi-HT.sIx xs.length 0 lo),Heap.get?_push_size _ rfl⟩
def qjf:V->Bool
 | .non=>true
 | .bl _=>true
 | .int _=>true
 | .str _=>true
 | _=>false
def eqV:V->V->Bool
 | .non,.non=>true
 | .bl a,.bl b=>a == b
 | .bl a,.int b=>(if a then 1 else 0) == b
 | .int a,.bl b=>a == (if b then 1 else 0)
 | .int a,.int b=>a == b
 | .str a,.str b=>a == b
 | _,_=>false
theorem qz3 {A:Around} {s:Shared} {y x:V} {u v:Value} (ry:RelV y u) (rx:RelV x v) (fy:qjf y=true) (fx:qjf x=true):SeqAt.EqAt A s u v (eqV y x):=by
 cases y with
 | non =>
  cases ry
  cases x with
  | non=>cases rx;exact SeqAt.EqAt.same _
  | bl b=>cases rx;exact SeqAt.EqAt.none_bool b
  | int b=>obtain ⟨t,rfl⟩:=rx;exact SeqAt.EqAt.none_int b t
  | str b=>obtain ⟨t,rfl⟩:=rx;exact SeqAt.EqAt.none_str b t
  | _=>exact absurd (show false=true from fx) Bool.false_ne_true
 | bl a =>
  cases ry
  cases x with
  | non=>cases rx;exact SeqAt.EqAt.bool_none a
  | bl b=>cases rx;exact SeqAt.EqAt.bool_bool a b
  | int b=>obtain ⟨t,rfl⟩:=rx;exact SeqAt.EqAt.bool_int a b t
  | str b=>obtain ⟨t,rfl⟩:=rx;exact SeqAt.EqAt.bool_str a b t
  | _=>exact absurd (show false=true from fx) Bool.false_ne_true
 | int a =>
  obtain ⟨t',rfl⟩:=ry
  cases x with
  | non=>cases rx;exact SeqAt.EqAt.int_none a t'
  | bl b=>cases rx;exact SeqAt.EqAt.int_bool a t' b
  | int b=>obtain ⟨t,rfl⟩:=rx;exact SeqAt.EqAt.int_int a t' b t
  | str b=>obtain ⟨t,rfl⟩:=rx;exact SeqAt.EqAt.int_str a t' b t
  | _=>exact absurd (show false=true from fx) Bool.false_ne_true
 | str a =>
  obtain ⟨t',rfl⟩:=ry
  cases x with
  | non=>cases rx;exact SeqAt.EqAt.str_none a t'
  | bl b=>cases rx;exact SeqAt.EqAt.str_bool a t' b
  | int b=>obtain ⟨t,rfl⟩:=rx;exact SeqAt.EqAt.str_int a t' b t
  | str b=>obtain ⟨t,rfl⟩:=rx;exact SeqAt.EqAt.str_str a t' b t
  | _=>exact absurd (show false=true from fx) Bool.false_ne_true
 | _=>exact absurd (show false=true from fy) Bool.false_ne_true
def eqU (x:V) (u:Value):Bool:=match u with
 | .none=>eqV .non x
 | .bool b=>eqV (.bl b) x
 | .int i _=>eqV (.int i) x
 | .str z _=>eqV (.str z) x
 | _=>false
theorem qvt {x y:V} {u:Value} (r:RelV y u) (f:qjf y=true):eqU x u=eqV y x:=by
 cases y with
 | non=>cases r;rfl
 | bl b=>cases r;rfl
 | int i=>obtain ⟨t,rfl⟩:=r;rfl
 | str z=>obtain ⟨t,rfl⟩:=r;rfl
 | _=>exact absurd (show false=true from f) Bool.false_ne_true
theorem qms {x:V}:∀ {xs:List V} {us:List Value},Vals xs us->xs.all qjf=true->us.any (eqU x)=xs.any λy=>eqV y x
 | _,_,.nil,_=>rfl
 | y :: xs,u :: us,.cons r t,f=>by
  rw[List.all_cons,Bool.and_eq_true] at f;rw[List.any_cons,List.any_cons,qvt r f.1,qms t f.2]
theorem qjg {A:Around} {s:Shared} {x:V} {v:Value} (rx:RelV x v) (fx:qjf x=true):∀ {xs:List V} {us:List Value},Vals xs us->xs.all qjf=true->∀ u∈us,SeqAt.EqAt A s u v (eqU x u)
 | _,_,.nil,_=>λu hu=>by cases hu
 | y :: xs,u :: us,.cons r t,f=>λu' hu=>by
  rw[List.all_cons,Bool.and_eq_true] at f
  rcases List.mem_cons.mp hu with rfl|hu
  ·rw[qvt r f.1];exact qz3 r rx f.1 fx
  ·exact qjg rx fx t f.2 u' hu
def inV (x:V) (xs:List V):Bool:=xs.any λy=>eqV y x
def rIn (K:Frag) (neg:Bool):R2:=λx y H Q=>∃ p xs,y=.ref p/\(SqL K H p xs\/SqT K H p xs)/\qjf x=true/\xs.all qjf=true/\Q (.bl (if neg then !inV x xs else inV x xs)) H
theorem qq2:OpR X (compareOp .In) (rIn X.K false):=by
 intro pins s σ H x y v u Q I rx ry h;obtain ⟨p,xs,rfl,hq,fx,fs,q⟩:=h;cases ry
 rcases hq with hq|hq
 ·obtain ⟨its,r,pl,hz⟩:=I.list hq
  refine SeqAt.in_listAt (eqU x) pl.isList (λw hw=>qjg rx fx r fs w (by simpa using hw)) ⟨.bl _,H,I,rfl,?_⟩;rw[show its.toArray.any (eqU x)=its.any (eqU x) by simp,qms r fs];exact q
 ·obtain ⟨its,r,pl,hz⟩:=I.tuple hq
  refine SeqAt.in_tupleAt (eqU x) pl (λw hw=>qjg rx fx r fs w (by simpa using hw)) ⟨.bl _,H,I,rfl,?_⟩;rw[show its.toArray.any (eqU x)=its.any (eqU x) by simp,qms r fs];exact q
theorem qal:CallR X (.builtin "len") (λxs H Q=>∃ p ys,xs=[.ref p]/\(SqL X.K H p ys\/SqT X.K H p ys)/\Q (.int ys.length) H):=by
 intro pins s σ H xs us Q I r h;obtain ⟨p,ys,rfl,hq,q⟩:=h;obtain ⟨u,rfl,rx⟩:=vals1 r;cases rx;have hn:=qnf
 rcases hq with hq|hq
 ·obtain ⟨its,r',pl,hz⟩:=I.list hq
  have hlen:=r'.length;exact Calls.call_len_list pl.isList (by simp only[List.size_toArray]<;>omega) ⟨.int ys.length,H,I.tok _,⟨s.toks+1,by rw[List.size_toArray,hlen]⟩,q⟩
 ·obtain ⟨its,r',pl,hz⟩:=I.tuple hq
  have hlen:=r'.length;exact len_tuple pl (by simp only[List.size_toArray]<;>omega) ⟨.int ys.length,H,I.tok _,⟨s.toks+1,by rw[List.size_toArray,hlen]⟩,q⟩
theorem call_list_of:CallR X (.type "list") (λxs H Q=>∃ p ys,xs=[.ref p]/\(SqL X.K H p ys\/SqT X.K H p ys)/\∀ l,H l=none->Q (.ref l) (upd H l (.lst ys))):=by
 intro pins s σ H xs us Q I r h;obtain ⟨p,ys,rfl,hq,q⟩:=h;obtain ⟨u,rfl,rx⟩:=vals1 r;cases rx;have fin:∀ (its:List Value),Vals ys its->ys.length<=sizeLine->∀ (h':Heap) (c':Nat),(∀ b o',s.heap.get? b=some o'->h'.get? b=some o') ->
   h'.get? s.heap.objs.size=some { cls:=.type "list",dict:=none,data:=.seq its.toArray c',slots:=#[] }->EP X pins σ Q (.ref s.heap.objs.size) { s with heap:=h' }:=λits r' hz h' c' kp e =>
  ⟨.ref s.heap.objs.size,_,I.laid (t':=s.toks) kp (Nat.le_refl _) (show ObjOk X.prog X.w _ h' _ (.lst ys) from ⟨hz,its,c',r',e⟩),rfl,q _ (I.hok.fresh (Nat.le_refl _))⟩
 rcases hq with hq|hq
 ·obtain ⟨its,r',pl,hz⟩:=I.list hq
  have hlen:=r'.length;obtain ⟨o,ho,hc,n,hd⟩:=pl.isList;exact call_list_seq p (.inl rfl) ho hc hd (λh' c' kp e=>fin its r' hz h' c' kp e) (by simp only[List.size_toArray]<;>omega)
 ·obtain ⟨its,r',pl,hz⟩:=I.tuple hq
  have hlen:=r'.length;obtain ⟨o,ho,hc,n,hd⟩:=pl;exact call_list_seq p (.inr rfl) ho hc hd (λh' c' kp e=>fin its r' hz h' c' kp e) (by simp only[List.size_toArray]<;>omega)
def tyV (K:Frag) (T:String) (x:V) (H:Hp):Prop:=match x with
 | .str _=>T = "str"
 | .int _=>T = "int"
 | .ref p=>(T = "list" /\ ∃ xs,SqL K H p xs)\/(T = "tuple" /\ ∃ o,K.lookup p=some o/\o.cls=.type "tuple" /\ o.dict=none) \/
   (T = "dict" /\ ((∃ kvs,H p=some (.dK kvs))\/∃ kvs,H p=some (.dT kvs)))\/(T = "set" /\ ∃ S n,H p=some (.set S n))
 | _=>False
theorem qz4 {pins:List (Addr×Obj)} {σ:St} {H:Hp} {s:Shared} {T:String} {x:V} {v:Value} (I:Inv X pins σ H s) (r:RelV x v) (ty:tyV X.K T x H) :
  s.TypeIs v T/\∀ a,v=.ref a->∃ ob,s.heap.get? a=some ob/\ob.dict=none:=by
 cases x with
 | str z =>
  obtain ⟨t,rfl⟩:=r
  cases (show T = "str" from ty)
  exact ⟨typeIs_str s z t,λ_ e=>nomatch e⟩
 | int i =>
  obtain ⟨t,rfl⟩:=r
  cases (show T = "int" from ty)
  exact ⟨typeIs_int s i t,λ_ e=>nomatch e⟩
 | ref p =>
  cases r
  rcases ty with ⟨rfl,xs,hq⟩|⟨rfl,o,hk,hc,hd⟩|⟨rfl,hk⟩|⟨rfl,S,n,hk⟩
  ·obtain ⟨its,_,pl,_⟩:=I.list hq
   refine ⟨pl.isList.typeIs,λa e=>?_⟩;cases e;obtain ⟨o,n,e,c,hd,_⟩:=pl;exact ⟨o,e,hd⟩
  ·refine ⟨⟨o,I.kIn p o hk,hc⟩,λa e=>?_⟩
   cases e;exact ⟨o,I.kIn _ o hk,hd⟩
  ·have z:∃ o,s.heap.get? p=some o/\o.ExactDict:=by
    rcases hk with ⟨kvs,hk⟩|⟨kvs,hk⟩
    ·obtain ⟨_,_,_,_,o,_,_,e,ex,_⟩:=I.hok p _ hk
     exact ⟨o,e,ex⟩
    ·obtain ⟨_,_,_,_,o,_,_,e,ex,_⟩:=I.hok p _ hk
     exact ⟨o,e,ex⟩
   obtain ⟨o,e,ex⟩:=z;refine ⟨⟨o,e,ex.1⟩,λa e2=>?_⟩;cases e2;exact ⟨o,e,ex.2.1⟩
  ·obtain ⟨o,_,_,_,e,ex,_⟩:=I.hok p _ hk
   refine ⟨⟨o,e,ex.1⟩,λa e2=>?_⟩;cases e2;exact ⟨o,e,ex.2.1⟩
 | _=>exact False.elim ty
def tBM (K:Frag) (T:String) (r:V->List V->Hp->VK->Prop) (to:TE) (t:TA):TE:=λσ H Q=>to σ H λx H1=>tyV K T x H1/\t σ H1 λxs H2=>r x xs H2 Q
variable {o e:Expr} {es:List Expr} {to:TE} {t:TA} {name:Str} {apos cpos:Pos} {T id:String} {r:V->List V->Hp->VK->Prop}
theorem qxn (pa:PlainAttrs T) (slot:Slot T name id) (hty:typeOf (.builtin id)=pure (.type "method_descriptor")) (hm:MtR X id r) (ho:PE X o to) (ha:PA X (e :: es) t)
  (hbase:attributeBase o name X.env (eval o X.env)=eval o X.env:=by rfl)
  (hfew:((backTo cpos (starEach (e :: es) X.env)).all (λx=>!x.1) && (backToKw cpos (keywordEach [] X.env)).all (λx=>x.1.isSome)
   && decide ((e :: es).length+([]:List Keyword).length+(if ([]:List Keyword).isEmpty then 0 else 1)<30))=true:=by rfl)
  (hline:(apos.endLine == cpos.line)=true:=by rfl) (hs:starEach (e :: es) X.env=(false,eval e X.env) :: starEach es X.env:=by rfl) (hplain:(backTo cpos (starEach es X.env)).any (·.1)=false:=by rfl) :
  PE X (.Call (.Attribute o name apos) (e :: es) [] cpos) (tBM X.K T r to t):=by
 intro pins s σ H Q I h;refine wpAny_Call_method_late hbase hfew hline rfl (thn (ho pins s σ H _ I h) λv s1 hq__=>?_);obtain ⟨x,H1,I1,r1,ty,q1⟩:=hq__;obtain ⟨h1,h2⟩:=qz4 I1 r1 ty;refine ⟨T,id,pa,slot,hty,h1,h2,?_⟩;have hA:=ha cpos pins s1 σ H1 _ I1 q1;rw[hs] at hA ⊢;refine Calls.callWith_builtin (by show (false || (backTo cpos (starEach es X.env)).any (·.1))=false;rw[hplain]<;>rfl) (Calls.evalArgs_plain ?_);exact thn hA λus s2 ⟨vs,H2,I2,r2,q2⟩=>hm pins s2 σ H2 x vs v us Q I2 r1 r2 q2
end
open PySem PySem.Spec PyProof.Rows
def MtM (X:Cx) (id:String) (r:V->List V->Hp->VK->Prop):Prop:=
 ∀ (pins:List (Addr×Obj)) (s:Shared) (σ:St) (H:Hp) (x:V) (xs:List V) (v:Value) (us:List Value) (Q:VK),Inv X pins σ H s->RelV x v->Vals xs us->r x xs H Q ->
  wpAny (model X.prog X.w) X.A (call (.builtin id) (v :: us)) (EP X pins σ Q) X.xe s
theorem Vals.one:∀ {x:V} {us:List Value},Vals [x] us->∃ u,us=[u]/\RelV x u
 | _,_,.cons r .nil=>⟨_,rfl,r⟩
section
variable {X:Cx} {pins:List (Addr×Obj)} {σ:St} {H:Hp} {s:Shared} {l b:Addr} {xs ys zs:List V}
theorem Inv.lset {its its':List Value} {n:Nat} {f:Array Value->Array Value} {t':Nat} (I:Inv X pins σ H s) (hH:H l=some (.lst xs))
  (e:s.heap.get? l=some { cls:=.type "list",data:=.seq its.toArray n }) (hf:f its.toArray=its'.toArray) (hv:Vals ys its') (hz:ys.length<=sizeLine) :
  Inv X pins σ (upd H l (.lst ys)) { s with heap:=s.heap.update l (Obj.mapSeq f),toks:=t' }:=by
 have q:=PySem.IsL.update e f;rw[hf] at q;refine I.write (x:=l) (e:=l) (by rw[hH];exact trivial) (.inl rfl) (λb' u hb hu=>(Heap.get?_update_other s.heap (Obj.mapSeq f) (Ne.symm hb)).trans hu) ⟨_,q⟩ ?_;exact ⟨hz,its',_,hv,q⟩
theorem Inv.lnew {its:List Value} {t':Nat} (I:Inv X pins σ H s) (hv:Vals ys its) (hz:ys.length<=sizeLine) :
  Inv X pins σ (upd H s.heap.objs.size (.lst ys)) { s with heap:=s.heap.push { cls:=.type "list",data:=.seq its.toArray },toks:=t' }:=
 I.laid (λ_ _ q=>Heap.get?_push_of_some _ q) (Nat.le_refl _) ⟨hz,its,0,hv,Heap.get?_push_size _ rfl⟩
theorem Inv.fresh (I:Inv X pins σ H s):H s.heap.objs.size=none:=I.hok.fresh (Nat.le_refl _)
theorem Inv.lstM (I:Inv X pins σ H s) (hH:H l=some (.lst xs)):xs.length<=sizeLine/\∃ (its:List Value) (n:Nat),Vals xs its/\xs.length=its.length/\s.heap.get? l=some { cls:=.type "list",data:=.seq its.toArray n }:=by
 obtain ⟨z,its,n,r,e⟩:=I.hok l _ hH;exact ⟨z,its,n,r,r.length,e⟩
theorem qub {n:Nat} (h:n<=sizeLine):Builtin.List.listTooLong n=false:=by
 unfold Builtin.List.listTooLong;exact decide_eq_false (by omega)
end
section
variable {X:Cx}
def qxo:V->List V->Hp->VK->Prop:=λx vs H Q=>∃ l xs y,x=.ref l/\vs=[y]/\H l=some (.lst xs)/\xs.length<sizeLine/\Q .non (upd H l (.lst (xs ++ [y])))
theorem mt_append:MtM X "list.append" qxo:=by
 intro pins s σ H x vs v us Q I rx rv h;obtain ⟨l,xs,y,rfl,rfl,hH,hz,q⟩:=h;cases rx;obtain ⟨u,rfl,ru⟩:=rv.one;obtain ⟨z,its,n,r,hl,e⟩:=I.lstM hH;refine call_meets F.slot_list_append ⟨_,e,rfl⟩ F.entry_list_append (F.args_list_append_2 _ _) (PySem.list_append l its.toArray n u (by rw[List.size_toArray];omega)) ⟨e,?_⟩;refine ⟨.non,_,I.lset (its':=its ++ [u]) hH e (by simp) (r.append (.cons ru .nil)) ?_,rfl,q⟩;rw[List.length_append,List.length_singleton];omega
def qxp:V->List V->Hp->VK->Prop:=λx vs H Q=>∃ l b xs zs,x=.ref l/\vs=[.ref b]/\H l=some (.lst xs)/\H b=some (.lst zs)/\xs.length+zs.length<=sizeLine/\Q .non (upd H l (.lst (xs ++ zs)))
theorem mt_extend:MtM X "list.extend" qxp:=by
 intro pins s σ H x vs v us Q I rx rv h;obtain ⟨l,b,xs,zs,rfl,rfl,hH,hB,hz,q⟩:=h;cases rx;obtain ⟨u,rfl,ru⟩:=rv.one;cases ru;obtain ⟨z,its,n,r,hl,e⟩:=I.lstM hH;obtain ⟨z2,its2,n2,r2,hl2,e2⟩:=I.lstM hB;have hsz:its.toArray.size+its2.toArray.size<=sizeLine:=by rw[List.size_toArray,List.size_toArray];omega
 have hlong:¬ (!its.toArray.isEmpty && Builtin.List.listTooLong (its.toArray.size+its2.toArray.size))=true:=by
  rw[qub hsz,Bool.and_false];exact Bool.false_ne_true
 refine call_meets F.slot_list_extend ⟨_,e,rfl⟩ F.entry_list_extend (F.args_list_extend_2 _ _)
  (AutoSeq1.list_extend_list_list_0 l its.toArray n b its2.toArray n2 hlong (by rw[List.size_toArray];omega) (by omega)) ⟨e,e2,?_⟩
 refine ⟨.non,_,I.lset (its':=its ++ its2) hH e (by simp) (r.append r2) ?_,rfl,q⟩;rw[List.length_append];omega
def qEj:R2:=λx y H Q=>∃ l b xs zs,x=.ref l/\y=.ref b/\H l=some (.lst xs)/\H b=some (.lst zs)/\xs.length+zs.length<=sizeLine/\∀ p,H p=none->Q (.ref p) (upd H p (.lst (xs ++ zs)))
theorem op_cat:OpR X (binaryOp .Add) qEj:=by
 intro pins s σ H x y v u Q I rx ry h;obtain ⟨l,b,xs,zs,rfl,rfl,hH,hB,hz,q⟩:=h;cases rx;cases ry;obtain ⟨z,its,n,r,hl,e⟩:=I.lstM hH;obtain ⟨z2,its2,n2,r2,hl2,e2⟩:=I.lstM hB;refine PySem.P.add_list e e2 ?_ (by rw[List.size_toArray,List.size_toArray];omega);have ea:its.toArray ++ its2.toArray=(its ++ its2).toArray:=by simp
 rw[ea];exact ⟨.ref _,_,I.lnew (t':=s.toks) (r.append r2) (by rw[List.length_append];omega),rfl,q _ I.fresh⟩
end
section
variable {prog:Program} {w:World} {A:Around} {E:Value->Shared->Prop} {s:Shared}
end
section
variable {X:Cx}
end
open PySem PySem.Spec PyProof.Rows
section
variable {κ:Type} [DecidableEq κ]
def qcc (kvs:List (κ×V)) (k:κ):Option V:=(kvs.find? λkv=>decide (kv.1=k)).map (·.2)
def putK (kvs:List (κ×V)) (k:κ) (v:V):List (κ×V):=
 if (kvs.any λkv=>decide (kv.1=k))=true then kvs.map (λkv=>if kv.1=k then (kv.1,v) else kv) else kvs ++ [(k,v)]
theorem qbu {p:κ×V} {r:List (κ×V)} {k:κ} (e:p.1=k):qcc (p :: r) k=some p.2:=by simp[qcc,List.find?_cons,e]
theorem qbv {p:κ×V} {r:List (κ×V)} {k:κ} (e:¬ p.1=k):qcc (p :: r) k=qcc r k:=by simp[qcc,List.find?_cons,e]
theorem qgm (k:κ):∀ kvs:List (κ×V),(kvs.any λkv=>decide (kv.1=k))=(qcc kvs k).isSome
 | []=>rfl
 | p :: r=>by
  rw[List.any_cons]
  by_cases e:p.1=k
  ·simp only[qbu e,decide_eq_true e,Bool.true_or,Option.isSome_some]
  ·rw[qbv e,decide_eq_false e,Bool.false_or];exact qgm k r
theorem qnh (k j:κ) (y:V):∀ kvs:List (κ×V),qcc (kvs.map λkv=>if kv.1=k then (kv.1,y) else kv) j=(qcc kvs j).map λx=>if j=k then y else x
 | []=>rfl
 | p :: r=>by
  have ih:=qnh k j y r;rw[List.map_cons]
  by_cases h:p.1=k
  ·rw[if_pos h]
   by_cases e:p.1=j
   ·rw[qbu (p:=(p.1,y)) e,qbu e,Option.map_some,if_pos (e.symm.trans h)]
   ·rw[qbv (p:=(p.1,y)) e,qbv e,ih]
  ·rw[if_neg h]
   by_cases e:p.1=j
   ·rw[qbu (p:=p) e,qbu e,Option.map_some,if_neg (λz=>h (e.trans z))]
   ·rw[qbv (p:=p) e,qbv e,ih]
theorem qko (k j:κ) (y:V):∀ kvs:List (κ×V),qcc kvs k=none->qcc (kvs ++ [(k,y)]) j=if j=k then some y else qcc kvs j
 | [],_=>by
  by_cases e:k=j
  ·rw[if_pos e.symm];exact qbu (p:=(k,y)) e
  ·rw[if_neg (λz=>e z.symm)];exact qbv (p:=(k,y)) e
 | p :: r,hn=>by
  rw[List.cons_append];have hk:¬ p.1=k:=λz=>by rw[qbu z] at hn;cases hn
  rw[qbv hk] at hn;have ih:=qko k j y r hn
  by_cases e:p.1=j
  ·rw[qbu e,qbu e,if_neg (λz=>hk (e.trans z))]
  ·rw[qbv e,qbv e,ih]
theorem qet (kvs:List (κ×V)) (k j:κ) (y:V):qcc (putK kvs k y) j=if j=k then some y else qcc kvs j:=by
 unfold putK
 by_cases a:(kvs.any λkv=>decide (kv.1=k))=true
 ·rw[if_pos a,qnh]
  rw[qgm] at a
  by_cases e:j=k
  ·obtain ⟨x,hx⟩:=Option.isSome_iff_exists.mp a
   rw[if_pos e,e,hx,Option.map_some,if_pos rfl]
  ·rw[if_neg e]
   cases qcc kvs j with
   | none=>rfl
   | some x=>rw[Option.map_some,if_neg e]
 ·rw[if_neg a]
  refine qko k j y kvs ?_;rw[qgm] at a
  cases q:qcc kvs k with
  | none=>rfl
  | some x=>rw[q] at a;exact (a rfl).elim
theorem qg1 (kvs:List (κ×V)) (k:κ) (v:V):(putK kvs k v).length<=kvs.length+1:=by
 unfold putK
 split
 ·rw[List.length_map];omega
 ·rw[List.length_append,List.length_cons,List.length_nil];omega
theorem RelO.isSome_eq {o:Option V} {u:Option Value} (r:RelO o u):o.isSome=u.isSome:=by
 cases o with
 | none=>cases u with
  | none=>rfl
  | some _=>exact (show False from r).elim
 | some _=>cases u with
  | none=>exact (show False from r).elim
  | some _=>rfl
theorem RelO.getD {o:Option V} {u:Option Value} {d:V} {d':Value} (r:RelO o u) (rd:RelV d d'):RelV (o.getD d) (u.getD d'):=by
 cases o with
 | none=>cases u with
  | none=>exact rd
  | some _=>exact (show False from r).elim
 | some _=>cases u with
  | none=>exact (show False from r).elim
  | some _=>exact r
theorem KV.val {kvs:List (κ×V)} {vs:List (κ×Value)} (r:KV kvs vs) (k:κ):RelO (qcc kvs k) (valueAt vs k):=by
 unfold KV at r
 induction r with
 | nil=>exact True.intro
 | @cons p q ps qs h t ih =>
  obtain ⟨h1,h2⟩:=h
  by_cases e:p.1=k
  ·have e':q.1=k:=h1.symm.trans e
   have b:valueAt (q :: qs) k=some q.2:=by simp[valueAt,List.find?_cons,e']
   rw[qbu e,b];exact h2
  ·have e':¬ q.1=k:=λz=>e (h1.trans z)
   have b:valueAt (q :: qs) k=valueAt qs k:=by simp[valueAt,List.find?_cons,e']
   rw[qbv e,b];exact ih
theorem KV.any {kvs:List (κ×V)} {vs:List (κ×Value)} (r:KV kvs vs) (k:κ):(kvs.any λkv=>decide (kv.1=k))=vs.any λkv=>decide (kv.1=k):=by
 unfold KV at r
 induction r with
 | nil=>rfl
 | cons h t ih=>rw[List.any_cons,List.any_cons,ih,h.1]
theorem KV.repl {kvs:List (κ×V)} {vs:List (κ×Value)} (r:KV kvs vs) (k:κ) {y:V} {u:Value} (ry:RelV y u) :
  KV (kvs.map λkv=>if kv.1=k then (kv.1,y) else kv) (vs.map λkv=>if kv.1=k then (kv.1,u) else kv):=by
 unfold KV at r ⊢
 induction r with
 | nil=>exact .nil
 | @cons p q ps qs h t ih =>
  rw[List.map_cons,List.map_cons];refine .cons ?_ ih;obtain ⟨h1,h2⟩:=h
  by_cases e:p.1=k
  ·rw[if_pos e,if_pos (h1.symm.trans e)];exact ⟨h1,ry⟩
  ·rw[if_neg e,if_neg (λz=>e (h1.trans z))];exact ⟨h1,h2⟩
theorem KV.put {kvs:List (κ×V)} {vs:List (κ×Value)} (r:KV kvs vs) (k:κ) {y:V} {u:Value} (ry:RelV y u):KV (putK kvs k y) (stored vs k u):=by
 unfold putK stored;rw[r.any k]
 by_cases e:(vs.any λkv=>decide (kv.1=k))=true
 ·rw[if_pos e,if_pos e];exact r.repl k ry
 ·rw[if_neg e,if_neg e];exact Paired.snoc r ⟨rfl,ry⟩
theorem KV.length {kvs:List (κ×V)} {vs:List (κ×Value)} (r:KV kvs vs):kvs.length=vs.length:=Paired.length r
end
theorem qo6 {P:Program} {w:World} {k:Key} {u:Value} (r:RelV (kV k) u):(qbj P w).is k u=true:=by
 cases k with
 | inl i=>obtain ⟨t,e⟩:=(show ∃ t,u=Value.int i t from r);subst e;exact qmn P w i t
 | inr x=>obtain ⟨t,e⟩:=(show ∃ t,u=Value.str x t from r);subst e;exact qmo P w x t
theorem qkp {P:Program} {w:World}:∀ {ks:List Key} {us:List Value},Vals (ks.map kV) us->ItemsAre (qbj P w) ks us
 | [],_,r=>by rw[List.map_nil] at r;cases r;exact .nil
 | k :: ks,_,r=>by
  rw[List.map_cons] at r
  cases r with
  | cons h t=>exact .cons (qo6 h) (qkp t)
abbrev KT (H:Hp):List (List Key×V)->List (List Key×Addr×Value)->Prop:=Paired λp q=>p.1=q.1/\H q.2.1=some (.tup (p.1.map kV))/\RelV p.2 q.2.2
theorem KT.val {H:Hp} {kvs:List (List Key×V)} {xs:List (List Key×Addr×Value)} (r:KT H kvs xs) (k:List Key):RelO (qcc kvs k) ((atKey xs k).map (·.2)):=by
 induction r with
 | nil=>exact True.intro
 | @cons p q ps qs h t ih =>
  obtain ⟨h1,_,h2⟩:=h
  by_cases e:p.1=k
  ·have e':q.1=k:=h1.symm.trans e
   have b:atKey (q :: qs) k=some q.2:=by simp[atKey,List.find?_cons,e']
   rw[qbu e,b];exact h2
  ·have e':¬ q.1=k:=λz=>e (h1.trans z)
   have b:atKey (q :: qs) k=atKey qs k:=by simp[atKey,List.find?_cons,e']
   rw[qbv e,b];exact ih
theorem KT.repl {H:Hp} {kvs:List (List Key×V)} {xs:List (List Key×Addr×Value)} (r:KT H kvs xs) (k:List Key) {y:V} {u:Value} (ry:RelV y u) :
  KT H (kvs.map λkv=>if kv.1=k then (kv.1,y) else kv) (xs.map (putAt k u)):=by
 induction r with
 | nil=>exact .nil
 | @cons p q ps qs h t ih =>
  rw[List.map_cons,List.map_cons];refine .cons ?_ ih;obtain ⟨h1,h2,h3⟩:=h;unfold putAt
  by_cases e:p.1=k
  ·rw[if_pos e,if_pos (h1.symm.trans e)];exact ⟨h1,h2,ry⟩
  ·rw[if_neg e,if_neg (λz=>e (h1.trans z))];exact ⟨h1,h2,h3⟩
theorem KT.put {H:Hp} {kvs:List (List Key×V)} {xs:List (List Key×Addr×Value)} (r:KT H kvs xs) (k:List Key) {b:Addr} {y:V} {u:Value} (hb:H b=some (.tup (k.map kV))) (ry:RelV y u) :
  KT H (putK kvs k y) (storedH xs k b u):=by
 have e:(kvs.any λkv=>decide (kv.1=k))=(atKey xs k).isSome:=by
  rw[qgm,(r.val k).isSome_eq,Option.isSome_map]
 unfold putK storedH;rw[e]
 by_cases q:(atKey xs k).isSome=true
 ·rw[if_pos q,if_pos q];exact r.repl k ry
 ·rw[if_neg q,if_neg q];exact Paired.snoc r ⟨rfl,hb,ry⟩
theorem KT.keeps {H H':Hp} {kvs:List (List Key×V)} {xs:List (List Key×Addr×Value)} (r:KT H kvs xs) (ht:∀ b ys,H b=some (.tup ys)->H' b=some (.tup ys)):KT H' kvs xs:=
 Paired.mapP r λ_ _ z=>⟨z.1,ht _ _ z.2.1,z.2.2⟩
section
variable {P:Program} {w:World} {H:Hp} {h:Heap} {a:Addr}
theorem qz5 {u:HO} (ok:HOk P w H h) (e:Rd H a u):ObjOk P w H h a u:=e.ok ok
theorem qkq {kvs:List (Key×V)} (ok:HOk P w H h) (e:Rd H a (.dK kvs)):kvs.length<=sizeLine/\(a == sysModules)=false/\∃ vs,KV kvs vs/\h.DictOf (qbj P w) a vs:=
 show ObjOk P w H h a (.dK kvs) from qz5 ok e
theorem qCy {kvs:List (Key×V)} (ok:HOk P w H h) (e:H a=some (.dK kvs)):kvs.length<=sizeLine/\(a == sysModules)=false/\∃ vs,KV kvs vs/\h.DictOf (qbj P w) a vs:=qkq ok (.inl e)
theorem qip {ks:List Key} (ok:HOk P w H h) (e:H a=some (.tup (ks.map kV))):(tupleKind (qbj P w)).is h ks a:=by
 obtain ⟨_,its,r,o,h1,h2,n,h3⟩:=(show ObjOk P w H h a (.tup (ks.map kV)) from ok a _ e);exact ⟨o,its.toArray,n,h1,h2,h3,by simpa using qkp r⟩
theorem qmt {kvs:List (List Key×V)} (ok:HOk P w H h) (e:Rd H a (.dT kvs)):kvs.length<=sizeLine/\(a == sysModules)=false /\
  ∃ xs,KT H kvs xs/\h.DictOfH (tupleKind (qbj P w)) a xs:=by
 obtain ⟨z,y,xs,r,o,es,ep,h1,h2,h3,h4,h5⟩:=(show ObjOk P w H h a (.dT kvs) from qz5 ok e);refine ⟨z,y,xs,r,o,es,ep,h1,h2,h3,h4,λx hx=>?_,h5⟩;have all:∀ {l:List (List Key×V)} {m:List (List Key×Addr×Value)},KT H l m->∀ x∈m,(tupleKind (qbj P w)).is h x.1 x.2.1:=by
  intro l m q
  induction q with
  | nil=>intro x hx;exact nomatch hx
  | @cons p q ps qs hq t ih =>
   intro x hx
   rcases List.mem_cons.mp hx with e|hx
   ·subst e
    exact qip ok (by rw[<- hq.1];exact hq.2.1)
   ·exact ih x hx
 exact all r x hx
theorem qz6 {kvs:List (List Key×V)} (ok:HOk P w H h) (e:H a=some (.dT kvs)):kvs.length<=sizeLine/\(a == sysModules)=false /\
  ∃ xs,KT H kvs xs/\h.DictOfH (tupleKind (qbj P w)) a xs:=qmt ok (.inl e)
end
def DGet (H:Hp) (a:Addr) (y:V) (r:Option V):Prop:=
 (∃ kvs k,Rd H a (.dK kvs)/\y=kV k/\r=qcc kvs k)\/∃ kvs k b,Rd H a (.dT kvs)/\y=.ref b/\H b=some (.tup (k.map kV))/\r=qcc kvs k
def DPut (H:Hp) (a:Addr) (y v:V) (H':Hp):Prop:=
 (∃ kvs k,H a=some (.dK kvs)/\y=kV k/\kvs.length<sizeLine/\H'=upd H a (.dK (putK kvs k v))) \/
 ∃ kvs k b,H a=some (.dT kvs)/\y=.ref b/\H b=some (.tup (k.map kV))/\kvs.length<sizeLine/\H'=upd H a (.dT (putK kvs k v))
theorem DGet.k {H:Hp} {a:Addr} {kvs:List (Key×V)} {k:Key} (e:H a=some (.dK kvs)):DGet H a (kV k) (qcc kvs k):=.inl ⟨kvs,k,.inl e,rfl,rfl⟩
theorem DGet.t {H:Hp} {a b:Addr} {kvs:List (List Key×V)} {k:List Key} (e:H a=some (.dT kvs)) (eb:H b=some (.tup (k.map kV))):DGet H a (.ref b) (qcc kvs k):=.inr ⟨kvs,k,b,.inl e,rfl,eb,rfl⟩
theorem DPut.k {H:Hp} {a:Addr} {kvs:List (Key×V)} {k:Key} {v:V} (e:H a=some (.dK kvs)) (hl:kvs.length<sizeLine):DPut H a (kV k) v (upd H a (.dK (putK kvs k v))):=.inl ⟨kvs,k,e,rfl,hl,rfl⟩
theorem DPut.t {H:Hp} {a b:Addr} {kvs:List (List Key×V)} {k:List Key} {v:V} (e:H a=some (.dT kvs)) (eb:H b=some (.tup (k.map kV))) (hl:kvs.length<sizeLine) :
  DPut H a (.ref b) v (upd H a (.dT (putK kvs k v))):=.inr ⟨kvs,k,b,e,rfl,eb,hl,rfl⟩
section
variable {X:Cx} {pins:List (Addr×Obj)} {σ:St} {H:Hp} {s:Shared} {a:Addr} {y v:V} {u r:Value} {o:Option V} {A:Around} {E:Value->Shared->Prop}
theorem Inv.big (I:Inv X pins σ H s):sysModules<s.heap.objs.size:=by
 have h:mainGlobals<s.heap.objs.size:=(I.mod.glob.keeps I.bk).lt;exact Nat.lt_trans (by decide) h
theorem qq3 {Q:Value->Shared->Prop} (hu:A.units+1<cLine) (I:Inv X pins σ H s) (g:DGet H a y (some v)) (ry:RelV y u) (h:∀ w' s',Inv X pins σ H s'->RelV v w'->Q w' s') :
  wpAny (model X.prog X.w) A (getItem (.ref a) u) Q E s:=by
 rcases g with ⟨kvs,k,e,ey,l⟩|⟨kvs,k,b,e,ey,eb,l⟩
 ·subst ey
  obtain ⟨z,hd,vs,rel,dd⟩:=qkq I.hok e;obtain ⟨w',hw,rw'⟩:=RelO.some_of (v:=v) (o:=valueAt vs k) (by rw[l];exact rel.val k);exact wpAny_getItem_of (qo6 ry) dd.mapOf hw (h w' _ (I.tok _) rw')
 ·subst ey
  cases (show u=Value.ref b from ry)
  obtain ⟨z,hd,xs,rel,dd⟩:=qmt I.hok e;obtain ⟨w',hw,rw'⟩:=RelO.some_of (v:=v) (o:=(atKey xs k).map (·.2)) (by rw[l];exact rel.val k);obtain ⟨p,hp,hp2⟩:=Option.map_eq_some_iff.mp hw;refine wpAny_getItem_heap (tupleKind_room_in1 hu) (qip I.hok eb) dd hp ?_;rw[hp2];exact h w' _ (I.tok _) rw'
theorem qEk {Q:Value->Shared->Prop} (hu:A.units+1<cLine) (I:Inv X pins σ H s) (g:DGet H a y o) (ry:RelV y u) (h:∀ s',Inv X pins σ H s'->Q (.bool o.isSome) s') :
  wpAny (model X.prog X.w) A (compareOp .In u (.ref a)) Q E s:=by
 rcases g with ⟨kvs,k,e,ey,l⟩|⟨kvs,k,b,e,ey,eb,l⟩
 ·subst ey
  obtain ⟨z,hd,vs,rel,dd⟩:=qkq I.hok e;refine wpAny_in_of (qo6 ry) hd dd.mapOf ?_;rw[<- (rel.val k).isSome_eq,<- l];exact h _ (I.tok _)
 ·subst ey
  cases (show u=Value.ref b from ry)
  obtain ⟨z,hd,xs,rel,dd⟩:=qmt I.hok e;refine wpAny_in_heap (tupleKind_room_in1 hu) (qip I.hok eb) hd dd ?_;have q:=(rel.val k).isSome_eq;rw[Option.isSome_map] at q;rw[<- q,<- l];exact h _ (I.tok _)
theorem qxq {Q:Value->Shared->Prop} (hu:A.units+1<cLine) (I:Inv X pins σ H s) (g:DGet H a y o) (ry:RelV y u) (h:∀ s',Inv X pins σ H s'->Q (.bool (!o.isSome)) s') :
  wpAny (model X.prog X.w) A (compareOp .NotIn u (.ref a)) Q E s:=by
 rcases g with ⟨kvs,k,e,ey,l⟩|⟨kvs,k,b,e,ey,eb,l⟩
 ·subst ey
  obtain ⟨z,hd,vs,rel,dd⟩:=qkq I.hok e;refine wpAny_notIn_of (qo6 ry) hd dd.mapOf ?_;rw[<- (rel.val k).isSome_eq,<- l];exact h _ (I.tok _)
 ·subst ey
  cases (show u=Value.ref b from ry)
  obtain ⟨z,hd,xs,rel,dd⟩:=qmt I.hok e;refine wpAny_notIn_heap (tupleKind_room_in1 hu) (qip I.hok eb) hd dd ?_;have q:=(rel.val k).isSome_eq;rw[Option.isSome_map] at q;rw[<- q,<- l];exact h _ (I.tok _)
theorem qq4 {h':Heap} {t':Nat} {ob:HO} (I:Inv X pins σ H s) (mu:Mut (H a)) (hs:Heap.SameBut a s.heap h') (he:∃ q,h'.get? a=some q) (new:ObjOk X.prog X.w (upd H a ob) h' a ob) :
  Inv X pins σ (upd H a ob) { s with heap:=h',toks:=t' }:=
 I.write (x:=a) (e:=a) mu (.inl rfl) (λb q hb z=>(hs.2 b hb).trans z) he new
theorem qz7 {P:Program} {w:World} {H':Hp} {h':Heap} {kvs:List (Key×V)} {vs:List (Key×Value)} (z:kvs.length<=sizeLine) (hd:(a == sysModules)=false) (rel:KV kvs vs) (dd:h'.DictOf (qbj P w) a vs) :
  ObjOk P w H' h' a (.dK kvs):=⟨z,hd,vs,rel,dd⟩
theorem qq5 {H':Hp} {Q:Unit->Shared->Prop} (hu:A.units+1<cLine) (I:Inv X pins σ H s) (g:DPut H a y v H') (ry:RelV y u) (rv:RelV v r) (h:∀ s',Inv X pins σ H' s'->Q () s') :
  wpAny (model X.prog X.w) A (setItem (.ref a) u r) Q E s:=by
 rcases g with ⟨kvs,k,e,ey,l,eH⟩|⟨kvs,k,b,e,ey,eb,l,eH⟩
 ·subst ey eH
  obtain ⟨z,hd,vs,rel,dd⟩:=qCy I.hok e;have hz:vs.length<=sizeLine:=by rw[<- rel.length];exact z
  have hl:(putK kvs k v).length<=sizeLine:=by have:=qg1 kvs k v;omega
  refine wpAny_setItem_pairs (hsz:=hz) (qo6 ry) dd λh' dd' hs=>h _ ?_
  have he:∃ q,h'.get? a=some q:=let ⟨q,_,_,hq,_⟩:=dd';⟨q,hq⟩
  exact qq4 I (by rw[e];exact True.intro) hs he (qz7 hl hd (rel.put k rv) dd')
 ·subst ey eH
  cases (show u=Value.ref b from ry)
  obtain ⟨z,hd,xs,rel,dd⟩:=qz6 I.hok e;have hz:xs.length<=sizeLine:=by rw[<- Paired.length rel];exact z
  have hl:(putK kvs k v).length<=sizeLine:=by have:=qg1 kvs k v;omega
  refine wpAny_setItem_heap (hsz:=hz) (tupleKind_room_in1 hu) (qip I.hok eb) dd λh' dd' hs=>h _ ?_
  obtain ⟨q,es,ep,hq,h2,h3,h4,_,h5⟩:=dd';refine qq4 I (by rw[e];exact True.intro) hs ⟨q,hq⟩ ⟨hl,hd,_,(rel.put k eb rv).keeps λc ys ec=>?_,q,es,ep,hq,h2,h3,h4,h5⟩;rw[qa1 (qap ec e (λz=>nomatch z))];exact ec
end
section
variable {X:Cx} {pins:List (Addr×Obj)} {σ:St} {H:Hp} {s:Shared} {a:Addr} {kvs:List (Key×V)} {k:Key} {u:Value} {A:Around} {E:Value->Shared->Prop}
end
def qDv (i:Expr):Prop:=∀ ov iv,subscripted i false ov iv=operate [ov,iv] (getItem ov iv)
theorem qxr {prog:Program} {w:World} {A:Around} {E:Value->Shared->Prop} {s:Shared} {env:Env} {value slice:Expr} {pos:Pos} {T id:String} {Q:Value->Shared->Prop}
  (hl:typeLookup (.type T) "__getitem__" = pure (some (.builtin id))) (hs:qDv slice)
  (h:wpAny (model prog w) A (eval value env) (λo s₁=>wpAny (model prog w) A (eval slice env) (λi s₂=>s₂.TypeIs o T/\wpAny (model prog w) A (getItem o i) Q E s₂) E s₁) E s) :
  wpAny (model prog w) A (eval (.Subscript value slice pos) env) Q E s:=by
 refine Subscript_ (wpAny_mono h (λo s₁ h₁=>wpAny_mono h₁ (λi s₂ h₂=>?_) λ_ _ x=>x) λ_ _ x=>x);obtain ⟨hT,h₂⟩:=h₂;unfold subscriptTail;refine wpAny_bind ?_;rw[getitemInPython_of_ne hT.not_modules];refine wpAny_bind (wpAny_specialOf hT hl ?_);have fin:wpAny (model prog w) A (subscripted slice false o i) (λr s₃=>wpAny (model prog w) A (letTemporaryGo value o r >>= λ_=>pure r) Q E s₃) E s₂:=by
  rw[hs o i];exact wpAny_operating (wpAny_mono h₂ (λr s₃ h₃=>wpAny_bind (wpAny_letTemporaryGo (wpAny_pure h₃))) λ_ _ x=>x)
 first
  | exact wpAny_pure (wpAny_bind fin)
  | exact wpAny_bind (wpAny_pure (wpAny_bind fin))
  | exact wpAny_bind fin
theorem qmu {X:Cx} {pins:List (Addr×Obj)} {σ:St} {H:Hp} {s:Shared} {a:Addr} {y:V} {o:Option V} (I:Inv X pins σ H s) (g:DGet H a y o):s.TypeIs (.ref a) "dict" :=by
 rcases g with ⟨kvs,k,e,_,_⟩|⟨kvs,k,b,e,_,_,_⟩
 ·obtain ⟨_,_,vs,_,dd⟩:=qkq I.hok e
  exact dd.typeIs
 ·obtain ⟨_,_,xs,_,dd⟩:=qmt I.hok e
  exact dd.typeIs
def qCz (td ty:TE):TE:=λσ H Q=>td σ H λx H1=>ty σ H1 λy H2=>∃ a v,x=.ref a/\DGet H2 a y (some v)/\Q v H2
def qEl (ty td:TE):TE:=λσ H Q=>ty σ H λy H1=>td σ H1 λx H2=>∃ a o,x=.ref a/\DGet H2 a y o/\Q (.bl o.isSome) H2
def qxs (ty td:TE):TE:=λσ H Q=>ty σ H λy H1=>td σ H1 λx H2=>∃ a o,x=.ref a/\DGet H2 a y o/\Q (.bl (!o.isSome)) H2
def qC0 (td ty tv:TE):TS:=λD σ H=>tv σ H λv H1=>td σ H1 λx H2=>ty σ H2 λy H3=>∃ a H4,x=.ref a/\DPut H3 a y v H4/\D.nx σ H4
section
variable {X:Cx} {o i e value:Expr} {pos pos' tpos:Pos} {td ty tv:TE}
theorem qg2 (hu:X.A.units+1<cLine) (ho:PE X o td) (hi:PE X i ty) (hs:qDv i):PE X (.Subscript o i pos) (qCz td ty):=by
 intro pins s σ H Q I h;refine qxr PySem.F.slot_dict_getitem.lookup hs (thn (ho pins s σ H _ I h) λu s1 ⟨x,H1,I1,rx,q1⟩=>thn (hi pins s1 σ H1 _ I1 q1) λiv s2 hq__=>?_);obtain ⟨y,H2,I2,ry,a,v,ex,g,q2⟩:=hq__;subst ex;obtain rfl:u=Value.ref a:=rx;exact ⟨qmu I2 g,qq3 hu I2 g ry λw' s3 I3 rw'=>⟨v,H2,I3,rw',q2⟩⟩
theorem qvu (hu:X.A.units+1<cLine) (hi:PE X i ty) (ho:PE X o td):PC X .In i o (qEl ty td):=by
 intro pins s σ H Q I h;refine thn (hi pins s σ H _ I h) λiv s1 ⟨y,H1,I1,ry,q1⟩=>thn (ho pins s1 σ H1 _ I1 q1) λu s2 hq__=>?_
 obtain ⟨x,H2,I2,rx,a,ov,ex,g,q2⟩:=hq__;subst ex;obtain rfl:u=Value.ref a:=rx;exact qEk hu I2 g ry λs3 I3=>⟨.bl ov.isSome,H2,I3,rfl,q2⟩
theorem qq6 (hu:X.A.units+1<cLine) (hi:PE X i ty) (ho:PE X o td):PC X .NotIn i o (qxs ty td):=by
 intro pins s σ H Q I h;refine thn (hi pins s σ H _ I h) λiv s1 ⟨y,H1,I1,ry,q1⟩=>thn (ho pins s1 σ H1 _ I1 q1) λu s2 hq__=>?_
 obtain ⟨x,H2,I2,rx,a,ov,ex,g,q2⟩:=hq__;subst ex;obtain rfl:u=Value.ref a:=rx;exact qxq hu I2 g ry λs3 I3=>⟨.bl (!ov.isSome),H2,I3,rfl,q2⟩
theorem qg3 (hu:X.A.units+1<cLine) (ho:PE X o td) (hi:PE X i ty) (hv:PE X value tv) (hs:swapsWith value (some (.Subscript o i pos')) pos.line X.env=pure false) :
  PS X (.Assign [.Subscript o i pos'] value pos) (qC0 td ty tv):=by
 intro pins s σ H D I h;refine wpAny_Assign_Subscript (thn (hv pins s σ H _ I h) λr s1 ⟨v,H1,I1,rv,q1⟩=>thn (ho pins s1 σ H1 _ I1 q1) λu s2 ⟨x,H2,I2,rx,q2⟩=>thn (hi pins s2 σ H2 _ I2 q2) λiv s3 hq__=>?_) hs;obtain ⟨y,H3,I3,ry,a,H4,ex,g,q3⟩:=hq__;subst ex;obtain rfl:u=Value.ref a:=rx;exact qq5 hu I3 g ry rv λs4 I4=>⟨σ,H4,I4,q3⟩
end
theorem quc {P:Program} {w:World} {H:Hp} (h:Heap) (hb:sysModules<h.objs.size):ObjOk P w H (h.push { cls:=.type "dict",data:=.dict #[] }) h.objs.size (.dK []):=
 ⟨Nat.zero_le _,beq_eq_false_iff_ne.mpr (Ne.symm (Nat.ne_of_lt hb)),[],.nil,Heap.DictOf.new h⟩
theorem qud {P:Program} {w:World} {H:Hp} (h:Heap) (hb:sysModules<h.objs.size):ObjOk P w H (h.push { cls:=.type "dict",data:=.dict #[] }) h.objs.size (.dT []):=
 ⟨Nat.zero_le _,beq_eq_false_iff_ne.mpr (Ne.symm (Nat.ne_of_lt hb)),[],.nil,_,#[],0,Heap.get?_push_size _ rfl,⟨rfl,rfl,rfl⟩,rfl,rfl,List.nodup_nil⟩
def qz8:TE:=λ_ H Q=>∀ p,H p=none->Q (.ref p) (upd H p (.dK []))
def qz9:TE:=λ_ H Q=>∀ p,H p=none->Q (.ref p) (upd H p (.dT []))
section
variable {X:Cx} {pos:Pos}
theorem que:PE X (.Dict [] [] pos) qz8:=λpins s σ H Q I h =>
 wpAny_Dict_empty ⟨.ref s.heap.objs.size,_,I.laid (a:=s.heap.objs.size) (o:=.dK []) (t':=s.toks) (λ_ _ q=>Heap.get?_push_of_some _ q) (Nat.le_refl _) (quc s.heap I.big),rfl,h _ (I.hok.fresh (Nat.le_refl _))⟩
theorem quf:PE X (.Dict [] [] pos) qz9:=λpins s σ H Q I h =>
 wpAny_Dict_empty ⟨.ref s.heap.objs.size,_,I.laid (a:=s.heap.objs.size) (o:=.dT []) (t':=s.toks) (λ_ _ q=>Heap.get?_push_of_some _ q) (Nat.le_refl _) (qud s.heap I.big),rfl,h _ (I.hok.fresh (Nat.le_refl _))⟩
end
structure M2 (X:Cx) (o:Expr) (m:Str) (apos:Pos) (e f:Expr) (cpos:Pos):Prop where
 base:attributeBase o m X.env (eval o X.env)=eval o X.env
 few:((backTo cpos (starEach [e,f] X.env)).all (λx=>!x.1) && (backToKw cpos (keywordEach [] X.env)).all (λx=>x.1.isSome)
  && decide (([e,f]:List Expr).length+([]:List Keyword).length+(if ([]:List Keyword).isEmpty then 0 else 1)<30))=true
 line:(apos.endLine == cpos.line)=true
 trees:backTo cpos (starEach [e,f] X.env)=[(false,eval e X.env),(false,eval f X.env)]
def IsD (H:Hp) (a:Addr):Prop:=(∃ kvs,Rd H a (.dK kvs))\/∃ kvs,Rd H a (.dT kvs)
theorem qAa {X:Cx} {pins:List (Addr×Obj)} {σ:St} {H:Hp} {s:Shared} {a:Addr} (I:Inv X pins σ H s) (d:IsD H a) :
  s.TypeIs (.ref a) "dict" /\ (∀ b,Value.ref a=.ref b->∃ ob,s.heap.get? b=some ob/\ob.dict=none)/\(a == sysModules)=false:=by
 rcases d with ⟨kvs,e⟩|⟨kvs,e⟩
 ·obtain ⟨_,hd,vs,_,dd⟩:=qkq I.hok e
  refine ⟨dd.typeIs,λb q=>?_,hd⟩;cases q;obtain ⟨ob,_,_,h1,h2,_⟩:=dd;exact ⟨ob,h1,h2.2.1⟩
 ·obtain ⟨_,hd,xs,_,dd⟩:=qmt I.hok e
  refine ⟨dd.typeIs,λb q=>?_,hd⟩;cases q;obtain ⟨ob,_,_,h1,h2,_⟩:=dd;exact ⟨ob,h1,h2.2.1⟩
section
variable {X:Cx} {pins:List (Addr×Obj)} {σ:St} {H:Hp} {s:Shared} {a:Addr} {y d:V} {u r:Value} {o:Option V} {A:Around} {E:Value->Shared->Prop}
theorem qAb {Q:Value->Shared->Prop} (hu:A.units+1<cLine) (I:Inv X pins σ H s) (g:DGet H a y o) (ry:RelV y u) (rd:RelV d r) (h:∀ w' s',Inv X pins σ H s'->RelV (o.getD d) w'->Q w' s') :
  wpAny (model X.prog X.w) A (call (.builtin "dict.get") [.ref a,u,r]) Q E s:=by
 rcases g with ⟨kvs,k,e,ey,l⟩|⟨kvs,k,b,e,ey,eb,l⟩
 ·subst ey
  obtain ⟨z,hd,vs,rel,dd⟩:=qkq I.hok e;refine call_meetsIn PySem.F.slot_dict_get dd.typeIs PySem.F.entry_dict_get (PySem.F.args_dict_get_3 _ _ _) (meets_dict_get_default (qbj X.prog X.w) a (qo6 ry) hd r) ⟨_,dd.mapOf,h _ _ (I.tok _) ?_⟩;rw[l];exact (rel.val k).getD rd
 ·subst ey
  cases (show u=Value.ref b from ry)
  obtain ⟨z,hd,xs,rel,dd⟩:=qmt I.hok e;refine call_meetsIn PySem.F.slot_dict_get dd.typeIs PySem.F.entry_dict_get (PySem.F.args_dict_get_3 _ _ _) (meetsH_dict_get_default (tupleKind (qbj X.prog X.w)) a b hd r) ⟨tupleKind_room_in1 hu,k,xs,qip I.hok eb,dd,h _ _ (I.tok _) ?_⟩;rw[l];exact (rel.val k).getD rd
end
def qAc (td ty tx:TE):TE:=λσ H Q=>td σ H λx H1=>∃ a,x=.ref a/\IsD H1 a/\ty σ H1 λy H2=>tx σ H2 λz H3=>∃ o,DGet H3 a y o/\Q (o.getD z) H3
section
variable {X:Cx} {o e f:Expr} {apos cpos:Pos} {td ty tx:TE}
theorem qug (hu:X.A.units+1<cLine) (ho:PE X o td) (he:PE X e ty) (hf:PE X f tx) (m:M2 X o "get" apos e f cpos):PE X (.Call (.Attribute o "get" apos) [e,f] [] cpos) (qAc td ty tx):=by
 intro pins s σ H Q I h;refine wpAny_Call_method m.base m.few m.line PySem.F.plainAttrs_dict PySem.F.slot_dict_get PySem.F.type_dict_get (thn (ho pins s σ H _ I h) λu s1 hq__=>?_);obtain ⟨x,H1,I1,rx,a,ex,d,q1⟩:=hq__;subst ex;obtain rfl:u=Value.ref a:=rx;obtain ⟨t1,t2,_⟩:=qAa I1 d;refine ⟨t1,t2,?_⟩;rw[m.trees];refine Calls.callWith_builtin rfl (Calls.evalArgs_plain (Calls.spliced_cons (thn (he pins s1 σ H1 _ I1 q1) λiv s2 ⟨y,H2,I2,ry,q2⟩ =>
  Calls.spliced_cons (thn (hf pins s2 σ H2 _ I2 q2) λfv s3 ⟨z,H3,I3,rz,ov,g,q3⟩=>Calls.spliced_nil ?_))))
 exact qAb hu I3 g ry rz λw' s4 I4 rw'=>⟨_,H3,I4,rw',q3⟩
end
section
variable {X:Cx} {pins:List (Addr×Obj)} {σ:St} {H:Hp} {s:Shared} {a:Addr} {kvs:List (Key×V)} {A:Around} {E:Value->Shared->Prop}
end
section
variable {X:Cx} {pins:List (Addr×Obj)} {σ:St} {H:Hp} {s:Shared} {a:Addr} {y:V} {u:Value} {A:Around} {E:Value->Shared->Prop}
end
end L2
namespace Att
open PySem PySem.W PySem.Calls PyProof.Rows
theorem qg4 {P:Params} {h:Heap}:∀ (ns:List Int) (vs:List Value),WellAll P h vs (ns.map WData.int)->IntsAre vs ns:=by
 intro ns
 induction ns with
 | nil =>
  intro vs w;rw[List.map_nil] at w;cases w;exact .nil
 | cons n ns ih =>
  intro vs w;rw[List.map_cons] at w
  cases w with
  | cons a b =>
   cases a;exact .cons _ _ (ih _ b)
theorem qq7 {l:OpenLaw} {n:Nat} (hn:l.most=some n) {P:Params} {h:Heap} {args:List WData} {qtr:List Value}
  (hpre:l.row.toRowW.claim.pre args=true) (hwl:WellAll P h qtr args) :
  ∃ a vs ns,qtr=[Value.ref a]/\args=[WData.list (ns.map WData.int)]/\h.get? a=some { cls:=.type "list",data:=.seq vs.toArray }/\IntsAre vs ns/\ns.length<=n:=by
 have hsh:WShape.hasAll [] args [.list .int]=true:=(pre_splitW hpre).1;have hc:l.pre.holds [] { args:=args }=true:=(pre_splitW hpre).2;obtain ⟨d,r,rfl,h1,h2⟩:=hasAllW_cons hsh;obtain rfl:=hasAllW_nil h2;obtain ⟨xs,rfl,h3⟩:=hasW_list h1;obtain ⟨ns,rfl⟩:=items_int h3;have hlen:ns.length<=n:=by
  unfold OpenLaw.pre at hc;have h4:(WTm.not (.lt (.lit (.int (n:Int))) (.len (.arg 0)))).holds [] { args:=[.list (ns.map .int)] }=true:=by
   have h4:=(holds_andW hc).1;rw[hn] at h4;exact h4
  have h5:=condW_of h4 (w_not (w_lt w_lit (w_len_list (w_arg rfl))));rw[List.length_map] at h5;refine Nat.le_of_not_lt λq=>?_
  have q':(n:Int)<((ns.length:Nat):Int):=by omega
  first
   | (rw[decide_eq_true q'] at h5;exact absurd h5 (by decide))
   | (simp at h5;omega)
 cases hwl with
 | cons w1 w2 =>
  cases w2
  cases w1 with
  | list ho hall=>exact ⟨_,_,ns,rfl,rfl,ho,qg4 ns _ hall,hlen⟩
theorem qq8 (l:OpenLaw) (args:List WData):l.row.toRowW.claim.post args (.bool true) args=true:=
 postW_of (r:=l.row.toRowW) (X:=(true == true))
  (show WShape.has [] (.bool true) .bool=true by first|rfl|decide|simp[WShape.has,WShape.arms,WShape.armsAll])
  (show (WTm.eq .res (.lit (.bool true))).value [] { args:=args,res:=some (.bool true),after:=args }=some (.bool (true == true)) from w_eq_bool (w_res rfl) w_lit) rfl
theorem attach_call {l:OpenLaw} {n:Nat} {q:Program} {loose:List Str} {XP:(Str->Option Value)->Heap->Prop} {YP:World->Heap->Prop} {d:DefRec}
  (hn:l.most=some n) (hdf:d.params.defaults=[])
  (call:∀ (w:World) (s₀ s₁:Shared) (mg mb:Str->Option Value) (fa:Addr) (o:Obj) (pm cd doc:Value) (a:Addr) (vs:List Value) (ns:List Int),
   Ground q loose [] XP w s₀ mg mb s₁.heap->YP w s₁.heap ->
   s₁.heap.get? fa=some o->o.data=.func (docDef d.name d.params d.body d.scope pm cd doc)->s₁.heap.CodeRec cd d.name->mg d.name=some (.ref fa) ->
   s₁.heap.get? a=some { cls:=.type "list",data:=.seq vs.toArray }->IntsAre vs ns->ns.length<=n->s₁.gens = #[] ->
   codeAny (model l.prog w) callerA (.call (.ref fa) ⟨[.ref a],[]⟩) (λr s'=>r=.ok (.ret (.bool true))/\OldK s₁.heap s'.heap/\s'.os=s₁.os/\AllBare s'.gens) s₁) :
  WalkO q loose XP YP l.row.toRowW d [] (λf vs=>PySem.call f vs):=by
 intro w s₀ s₁ mg mb G Y fa o pm cd doc dV kV ho hd hcd hD hmg hg args qtr as hpre hlay hrd hwl hlo;obtain rfl:dV=.none:=Dflts.none hD hdf;obtain rfl:kV=.none:=Dflts.noKw hD;obtain ⟨a,vs,ns,rfl,rfl,hobj,hints,hlen⟩:=qq7 hn hpre hwl;refine enter_call (codeAny_mono (call w s₀ s₁ mg mb fa o pm cd doc a vs ns G Y ho (fd_plain hd) hcd hmg hobj hints hlen hg) λr s' hq=>?_);obtain ⟨rfl,h2,h3,h4⟩:=hq;exact ⟨.inl ⟨.bool true,.bool true,[],rfl,λ_=>rfl,.bool true,qq8 l _,λ_=>⟨List.Pairwise.nil,λ_ hm=>(nomatch hm)⟩⟩,h2,h3,h4⟩
section
variable {prog:Program} {w:World} {A:Around} {E:Value->Shared->Prop} {s:Shared} {K:Frag}
def ledger (h:Heap) (L d:Addr):List (Addr×Obj):=(List.range h.objs.size).filterMap λa=>if a=L\/a=d then none else (h.get? a).map λo=>(a,o)
end
end Att
namespace L2
open PySem PySem.Spec PyProof.Rows
theorem qkr:∀ {vs:List Value} {ns:List Int},IntsAre vs ns->Vals (ns.map V.int) vs
 | _,_,.nil=>.nil
 | _,_,.cons n t h=>.cons ⟨t,rfl⟩ (qkr h)
def qC1 (H:Hp):Prop:=∀ b,H b=none\/∃ o xs,H b=some (.frz o (.lst xs))
theorem quh {P:Program} {w:World} {K:Frag} {mg mb:Str->Option Value} {CX:CXT} {k:Nat} {fa a:Addr} {fd:FuncData} {x:Str} {sp:Sp} {s₁:Shared} {vs:List Value} {ns:List Int}
  (KX:K.In s₁.heap) (hns:s₁.heap.Ns mainGlobals mg) (hb:s₁.heap.Ns builtinsNs mb) (hbb:∀ x:Str,x ≠ "__name__" -> mb x=bootBuiltins x) (hlim:s₁.heap.NoLimit) (hnd:s₁.heap.NoDigits) (hg:s₁.gens = #[])
  (ha:s₁.heap.get? a=some { cls:=.type "list",data:=.seq vs.toArray }) (hi:IntsAre vs ns) (hl:ns.length<=sizeLine) (hr:Room k callerA)
  (F:∀ base:Heap,K.In base->base.Ns mainGlobals mg->qgl P w K mg base CX k fa fd [x] sp) (hbind:∀ (s:Shared) (u:Value),BindsTo s fd ⟨[u],[]⟩ [(x,u)])
  (hsp:∀ H:Hp,qC1 H->SqL K H a (ns.map V.int)->sp [.ref a] H (λv _=>v=.bl true) λ_ _ _=>False)
  (hCX:∀ H e s',CX [] H s₁ (λ_ _ _=>False) e s'->False) :
  codeAny (model P w) callerA (.call (.ref fa) ⟨[.ref a],[]⟩) (λr s'=>r=.ok (.ret (.bool true))/\OldK s₁.heap s'.heap/\s'.os=s₁.os/\AllBare s'.gens) s₁:=by
 have rv:=qkr hi;have lenV:=hi.length;have core:∀ H:Hp,qC1 H->SqL K H a (ns.map V.int)->HOk P w H s₁.heap->(∀ b,H b≠none->b=a)->(H a≠none->K.lookup a=none) ->
   codeAny (model P w) callerA (.call (.ref fa) ⟨[.ref a],[]⟩) (λr s'=>r=.ok (.ret (.bool true))/\OldK s₁.heap s'.heap/\s'.os=s₁.os/\AllBare s'.gens) s₁:=by
  intro H hO hS hok hA hK;have base_of:∀ {b:Addr} {o:Obj},s₁.heap.get? b=some o->H b=none->(qtw s₁.heap H).get? b=some o:=λe n=>qtx e n
  have noA:∀ {b:Addr} {o:Obj} {es:Array DictEntry} {ep:Nat},s₁.heap.get? b=some o->o.data=.dict es ep->H b=none:=fun {b o es ep} e d=>by
   cases q:H b with
   | none=>rfl
   | some u =>
    have e':b=a:=hA b (by rw[q];simp);subst e';rw[ha] at e;cases e;have d':Data.seq vs.toArray _=Data.dict es ep:=d
    cases d'
  have nsK:∀ {b:Addr} {m:Str->Option Value},s₁.heap.Ns b m->(qtw s₁.heap H).Ns b m:=fun {b m} ⟨o,es,ep,e,d,r⟩=>⟨o,es,ep,base_of e (noA e d),d,r⟩
  have hKb:K.In (qtw s₁.heap H):=λb o e=>base_of (KX b o e) (by
   cases q:H b with
   | none=>rfl
   | some u =>
    have e':b=a:=hA b (by rw[q];simp);subst e';rw[hK (by rw[q];simp)] at e;cases e)
  have hM:Mod K mg (qtw s₁.heap H):=⟨hKb,nsK hns,⟨mb,nsK hb,hbb⟩,let ⟨mc,h1,h2⟩:=hlim;⟨mc,nsK h1,h2⟩,let ⟨mc,h1,h2⟩:=hnd;⟨mc,nsK h1,h2⟩⟩;have e0:Env0 P w K mg (qtw s₁.heap H) callerA [] s₁ H:=⟨rfl,hM,λb o e=>qw7 e,Nat.le_of_eq (qqf _ _),trivial,λb hb=>absurd (show b∈([]:List Addr) from hb) (by simp),hok,.of_eq hg⟩;refine codeAny_mono ((F _ hKb (nsK hns)).run callerA [] s₁ H ⟨[.ref a],[]⟩ [.ref a] [.ref a] _ _ hr e0 (hbind s₁ (.ref a)) (.cons rfl .nil) (hsp H hO hS)) λr s' h=>?_
  cases r with
  | error e=>exact (hCX H e s' h).elim
  | ok fl =>
   cases fl with
   | next=>exact False.elim h
   | brk=>exact False.elim h
   | cont=>exact False.elim h
   | ret u =>
    obtain ⟨v,H',os,bare,un,hok',r',q⟩:=h;have q':v=.bl true:=q;subst q';obtain rfl:u=Value.bool true:=r';refine ⟨rfl,OldK.of_keep λb o e=>?_,os,bare⟩
    cases q:H b with
    | none=>exact un.keep b o e q (by intro z;exact absurd (show b∈([]:List Addr) from z) (by simp)) (by simp)
    | some u =>
     rcases hO b with z|⟨ob,xs,z⟩
     ·rw[q] at z;cases z
     ·have z2:=un.frzs b ob _ z
      obtain ⟨e1,_⟩:=hok b _ z;obtain ⟨e2,_⟩:=hok' b _ z2;rw[e] at e1;cases e1;exact e2
 cases hk:K.lookup a with
 | some o =>
  have e:=KX a o hk;rw[ha] at e;cases e;refine core (λ_=>none) (λ_=>.inl rfl) (.inr ⟨_,vs.toArray,_,hk,rfl,rfl,rfl,by rw[List.size_toArray,lenV];exact hl,by simpa using rv⟩) (λb u z=>by have z':(none:Option HO)=some u:=z;cases z') (λb z=>absurd rfl z) λz=>absurd rfl z
 | none =>
  refine core (λb=>if b=a then some (.frz { cls:=.type "list",data:=.seq vs.toArray } (.lst (ns.map V.int))) else none) (λb=>?_) (.inl (.inr ⟨{ cls:=.type "list",data:=.seq vs.toArray },if_pos rfl⟩)) (λb u z=>?_) (λb z=>?_) λ_=>hk
  ·by_cases hb:b=a
   ·exact .inr ⟨_,_,if_pos hb⟩
   ·exact .inl (if_neg hb)
  ·by_cases hb:b=a
   ·have z':=(if_pos hb).symm.trans z
    cases z'
    subst hb;exact ⟨ha,by rw[List.length_map];exact hl,vs,_,rv,ha⟩
   ·have z':=(if_neg hb).symm.trans z
    cases z'
  ·by_cases hb:b=a
   ·exact hb
   ·exact absurd (if_neg hb) z
open PySem PySem.Spec PyProof.Rows
abbrev KOf {K:Frag} {h:Heap} (_:K.In h):Frag:=K
theorem qxt {l:PySem.W.OpenLaw} {n k:Nat} {q:Program} {loose:List Str} {XP:(Str->Option Value)->Heap->Prop} {YP:World->Heap->Prop} {d:DefRec} {K:Params->Frag} {CX:World->CXT} {sp:World->Sp} {x:Str}
  (hn:l.most=some n) (hn2:n<=sizeLine) (hdf:d.params.defaults=[]) (hr:Room k callerA)
  (hY:∀ (w:World) (h:Heap),YP w h->(K w.params).In h)
  (F:∀ (w:World) (mg:Str->Option Value) (fa:Addr) (h:Heap),(K w.params).In h->h.Ns mainGlobals mg->mg d.name=some (.ref fa) ->
   ∃ fd:FuncData,(∀ (s:Shared) (u:Value),BindsTo s fd ⟨[u],[]⟩ [(x,u)]) /\
    ∀ base:Heap,(K w.params).In base->base.Ns mainGlobals mg->qgl l.prog w (K w.params) mg base (CX w) k fa fd [x] (sp w))
  (hsp:∀ (w:World) (H:Hp) (a:Addr) (ns:List Int),ns.length<=n->qC1 H->SqL (K w.params) H a (ns.map V.int)->sp w [.ref a] H (λv _=>v=.bl true) λ_ _ _=>False)
  (hCX:∀ (w:World) (H:Hp) (s:Shared) (e:Value) (s':Shared),CX w [] H s (λ_ _ _=>False) e s'->False) :
  PySem.W.WalkO q loose XP YP l.row.toRowW d [] (λf vs=>PySem.call f vs):=by
 refine Att.attach_call hn hdf λw s₀ s₁ mg mb fa o pm cd doc a vs ns G Y ho hd hcd hmg hobj hints hlen hg=>?_
 have KX:=hY w _ Y;obtain ⟨fd,hb,hF⟩:=F w mg fa _ KX G.T.g hmg;exact quh KX G.T.g G.T.b G.T.builtins G.T.nolimit G.T.nodigits hg hobj hints (Nat.le_trans hlen hn2) hr hF hb (λH hO hS=>hsp w H a ns hlen hO hS) λH e s'=>hCX w H s₁ e s'
open PySem PySem.Spec PyProof.Rows
def inClass (s:Stmt) (j:Nat):Stmt:=match s with
 | .ClassDef _ _ _ body _ _ _ _ _ _ _=>body.getD j (.Pass ⟨0,0,0,0⟩)
 | _=>.Pass ⟨0,0,0,0⟩
def qcj (s:Stmt):Arguments:=match s with
 | .FunctionDef _ a _ _ _ _ _ _ _ _=>a
 | _=>{ posonlyargs:=[],args:=[],vararg:=none,kwonlyargs:=[],kw_defaults:=[],kwarg:=none,defaults:=[] }
def qbm (s:Stmt):List Stmt:=match s with
 | .FunctionDef _ _ b _ _ _ _ _ _ _=>b
 | _=>[]
def qaa (s:Stmt):Scope:=match s with
 | .FunctionDef _ _ _ _ _ _ sc _ _ _=>sc
 | _=>{ kind:=.function,names:=[],isGenerator:=false,isCoroutine:=false }
abbrev CX0:CXT:=λ_ _ _ _ _ _=>False
abbrev E0:XK:=λ_ _ _=>False
theorem qui {X:Cx}:qgz CX0 X E0:=λ_ _ _ _ _ _ _ h=>h.elim
structure Fun (K:Frag) (x qual:Str) (st:Stmt) (f:Addr) (fd:FuncData):Prop where
 ex:∃ (oc:Value) (od:Option Addr) (kV doc pm:Value) (an:Option Addr) (cdv ct:Value) (osl:Array (Option Value)),
  fd=fnOf x qual (qcj st) (qbm st) (qaa st) .none kV doc pm an cdv ct/\K.lookup f=some ⟨oc,od,.func fd,osl⟩/\codeIn K cdv qual=true
 kp:keepIn K (.ref f)=true
section
variable {P:Program} {w:World} {K:Frag} {mg:Str->Option Value} {base:Heap}
theorem Fun.ok {x qual:Str} {st:Stmt} {f:Addr} {fd:FuncData} {N ps:List Str} {k:Nat} {sp:Sp} (F:Fun K x qual st f fd) (S:qaf N ps (qaa st)) (len:∀ vs H Q E,sp vs H Q E->vs.length=ps.length)
  (hbody:∀ (cdv:Value) (A:Around) (outer:List Env) (s:Shared) (H:Hp) (vs:List V) (Q:VK) (E:XK),Room k (A.deeper (envOfC qual (qaa st) s.heap.objs.size f cdv))->sp vs H Q E ->
   ∃ t,PSs (qqb CX0 P w K mg base N qual (qaa st) f cdv A outer s H E).nox (qbm st) t/\t { nx:=λ_ H'=>Q .non H',rt:=Q } (start N vs) H):qgl P w K mg base CX0 (k+1) f fd ps sp:=by
 obtain ⟨oc,od,kV,doc,pm,an,cdv,ct,osl,rfl,lk,hcd⟩:=F.ex;refine qt9 lk hcd S len λA outer s H vs Q E hr hsp=>?_
 obtain ⟨t,h,q⟩:=hbody cdv A outer s H vs Q E hr hsp;exact ⟨t,h.nox,q⟩
theorem Fun.binds {x qual:Str} {st:Stmt} {f:Addr} {fd:FuncData} {ps:List Str} (F:Fun K x qual st f fd)
  (h:∀ (kV doc pm:Value) (an:Option Addr) (cdv ct:Value) (us:List Value),us.length=ps.length->bindArgs (fnOf x qual (qcj st) (qbm st) (qaa st) .none kV doc pm an cdv ct) ⟨us,[]⟩=pure (ps.zip us)):Binds K fd ps []:=by
 obtain ⟨oc,od,kV,doc,pm,an,cdv,ct,osl,rfl,lk,hcd⟩:=F.ex;exact .all (h kV doc pm an cdv ct)
theorem qq9 {x qual:Str} {st:Stmt} {f:Addr} {oc:Value} {od an:Option Addr} {osl:Array (Option Value)} {kV doc pm cdv ct:Value} (l:K.lookup f=some ⟨oc,od,.func (fnOf x qual (qcj st) (qbm st) (qaa st) .none kV doc pm an cdv ct),osl⟩)
  (c:codeIn K cdv qual=true) (k:keepIn K (.ref f)=true):Fun K x qual st f (fnOf x qual (qcj st) (qbm st) (qaa st) .none kV doc pm an cdv ct):=⟨⟨oc,od,kV,doc,pm,an,cdv,ct,osl,rfl,l,c⟩,k⟩
end
theorem qeu {A:Around} {k:Nat} (hr:Room k A):A.units+1<cLine:=Nat.lt_of_le_of_lt (Nat.add_le_add_left (by decide:1<=64) _) hr.units
theorem qau {n:Nat} (h:n<=1000):n<sizeLine:=Nat.lt_of_le_of_lt h (by decide)
section
variable {X:Cx}
theorem pv (i:Nat) {x:Str} {pos:Pos} (hN:X.N[i]?=some x:=by rfl) (hv:Vis X.env.scope x:=by first|exact Or.inl rfl|exact Or.inr (Or.inl rfl)|exact Or.inr (Or.inr rfl)) (hd:(x == ("__debug__" : Str))=false:=by decide)
  (hcd:(x == ("__classdict__" : Str))=false:=by decide):PE X (.Name x pos) (qB8 i):=qzt hN hv hd hcd
end
theorem qdy {A B:Prop} (h:B):if false=true then A else B:=by
 rw[if_neg Bool.false_ne_true];exact h
theorem qdc {A B:Prop} (h:A):if true=true then A else B:=by
 rw[if_pos rfl];exact h
theorem qmv {c A B:Prop} [Decidable c] (h1:c->A) (h2:¬ c->B):if c then A else B:=by
 by_cases h:c
 ·rw[if_pos h]
  exact h1 h
 ·rw[if_neg h]
  exact h2 h
theorem qAd {c A B:Prop} [Decidable c] (hc:c) (h:B):if (!decide c)=true then A else B:=by
 rw[decide_eq_true hc];exact qdy h
def Same (H H':Hp):Prop:=∀ b o,H b=some o->H' b=some o
theorem Same.refl (H:Hp):Same H H:=λ_ _ h=>h
theorem Same.trans {H H1 H2:Hp} (a:Same H H1) (b:Same H1 H2):Same H H2:=λc o h=>b c o (a c o h)
theorem Same.free {H H':Hp} (e:Same H H') {l:Addr} (h:H' l=Option.none):H l=Option.none:=by
 cases q:H l with
 | none=>rfl
 | some o =>
  rw[e l o q] at h;cases h
section
variable {κ:Type} [DecidableEq κ]
end
end L2
set_option maxHeartbeats 4000000
namespace L2
open PySem PySem.Spec PyProof.Rows
section
variable {X:Cx}
theorem qAe:(10:Nat) ^ 100<2 ^ 400:=by decide +kernel
theorem qni {j:Int} (h:j.natAbs<10 ^ 100):j.natAbs.log2<400:=by
 by_cases h0:j.natAbs=0
 ·rw[h0];decide +kernel
 ·exact (Nat.log2_lt h0).mpr (Nat.lt_trans h qAe)
def qC2 (_ j:Int):Prop:=0<j/\j<10 ^ 100
theorem qnj:OpR X (binaryOp .FloorDiv) (rI qC2 λi j=>.int (i / j)):=opI λi j _ _ _ _ _ hc q=>by
 have h1:(0:Int)<j:=hc.1;have h2:j<10 ^ 100:=hc.2;have h3:j.natAbs<10 ^ 100:=by omega
 exact floordiv_int (by omega) (by rw[Int.fdiv_eq_ediv_of_nonneg i (by omega)];exact q) (.inl (PyProof.noPylong_of_log2 (Nat.lt_trans (qni h3) (by decide))))
def CMulB (i j:Int):Prop:=(-(10 ^ 100)<i/\i<10 ^ 100)/\(-(10 ^ 100)<j/\j<10 ^ 100)
theorem qnk {j:Int} (h:j.natAbs<10 ^ 100):Builtin.Int.intBits j<=400:=by
 unfold Builtin.Int.intBits
 split
 ·exact Nat.zero_le _
 ·have:=qni h
  omega
theorem CMulB.ok {i j:Int} (h:CMulB i j):IntMulOk i j:=by
 obtain ⟨⟨h1,h2⟩,h3,h4⟩:=h;have e1:=qnk (j:=i) (by omega);have e2:=qnk (j:=j) (by omega);have e3:Builtin.Int.intTooBig (Builtin.Int.intBits i+Builtin.Int.intBits j)=false:=by
  unfold Builtin.Int.intTooBig;rw[decide_eq_false];have:(bitsLine:Int)=134217728:=by decide +kernel
  omega
 unfold IntMulOk;rw[e3]
 simp
theorem qck:OpR X (binaryOp .Mult) (rI CMulB λi j=>.int (i*j)):=opI λ_ _ _ _ _ _ _ hc q=>mul_int q hc.ok
end
section
variable {X:Cx}
theorem qev:CallR X (.builtin "isinstance") (λxs H Q=>∃ x T t b,xs=[x,.ty T]/\TyOf X.K H x t/\PySem.W.kitOne X.K t (.type T)=some b/\Q (.bl b) H):=by
 intro pins s σ H xs us Q I r h;obtain ⟨x,T,t,b,rfl,ty,e,q⟩:=h;obtain ⟨u,w',rfl,ru,rw'⟩:=vals2 r
 cases (show w'=Value.type T from rw')
 exact qqv I ru ty e λtk=>⟨.bl b,H,I.tok tk,rfl,q⟩
end
mutual
inductive Rep (K:Frag) (H:Hp):V->PyData->Prop where
 | non:Rep K H .non .none
 | bl (b:Bool):Rep K H (.bl b) (.bool b)
 | int (i:Int):Rep K H (.int i) (.int i)
 | str (x:Str):Rep K H (.str x) (.str x)
 | lst {a:Addr} {xs:List V} {ds:List PyData}:SqL K H a xs->qvv K H xs ds->Rep K H (.ref a) (.list ds)
 | tup {a:Addr} {xs:List V} {ds:List PyData}:SqT K H a xs->qvv K H xs ds->Rep K H (.ref a) (.tuple ds)
inductive qvv (K:Frag) (H:Hp):List V->List PyData->Prop where
 | nil:qvv K H [] []
 | cons {v:V} {vs:List V} {d:PyData} {ds:List PyData}:Rep K H v d->qvv K H vs ds->qvv K H (v :: vs) (d :: ds)
end
section
variable {X:Cx} {pins:List (Addr×Obj)} {σ:St} {H:Hp} {s:Shared}
mutual
theorem qdg (I:Inv X pins σ H s):∀ (d:PyData) (v:V) (u:Value),Rep X.K H v d->RelV v u->∃ as,Reads s.heap u d as
 | .none,v,u,r,q=>by cases r;cases (show u=Value.none from q);exact ⟨_,.none⟩
 | .bool b,v,u,r,q=>by cases r;cases (show u=Value.bool b from q);exact ⟨_,.bool b⟩
 | .int i,v,u,r,q=>by cases r;obtain ⟨t,e⟩:=(show ∃ t,u=Value.int i t from q);cases e;exact ⟨_,.int i t⟩
 | .str x,v,u,r,q=>by cases r;obtain ⟨t,e⟩:=(show ∃ t,u=Value.str x t from q);cases e;exact ⟨_,.str x t⟩
 | .list ds,v,u,r,q=>by
  cases r with
  | @lst a xs _ hq rs =>
   cases (show u=Value.ref a from q)
   obtain ⟨its,rv,⟨o,n,e,c,_,d⟩,hz⟩:=I.list hq;obtain ⟨as,ra⟩:=qfd I ds xs its rs rv;exact ⟨_,.list e c d (by simpa using ra)⟩
 | .tuple ds,v,u,r,q=>by
  cases r with
  | @tup a xs _ hq rs =>
   cases (show u=Value.ref a from q)
   obtain ⟨its,rv,⟨o,e,c,n,d⟩,hz⟩:=I.tuple hq;obtain ⟨as,ra⟩:=qfd I ds xs its rs rv;exact ⟨_,.tuple e c d (by simpa using ra)⟩
 | .dict _,v,u,r,q=>by cases r
theorem qfd (I:Inv X pins σ H s):∀ (ds:List PyData) (vs:List V) (us:List Value),qvv X.K H vs ds->Vals vs us->∃ as,ReadsAll s.heap us ds as
 | [],vs,us,r,q=>by cases r;cases q;exact ⟨_,.nil⟩
 | d :: ds,vs,us,r,q=>by
  cases r with
  | cons r1 r2 =>
   cases q with
   | cons q1 q2 =>
    obtain ⟨as,a1⟩:=qdg I d _ _ r1 q1;obtain ⟨bs,a2⟩:=qfd I ds _ _ r2 q2;exact ⟨_,.cons a1 a2⟩
end
end
def qDw (K:Frag) (neg:Bool):R2:=λx y H Q=>∃ d e,Rep K H x d/\Rep K H y e/\d.canLay0=true/\e.canLay0=true/\d.depth<=20/\Q (.bl (if neg then !PyData.eqv d e else PyData.eqv d e)) H
section
variable {X:Cx}
theorem qvw (hu:X.A.units+64<cLine):OpR X (compareOp .Eq) (qDw X.K false):=by
 intro pins s σ H x y v u Q I rx ry h;obtain ⟨d,e,rd,re,cd,ce,hd,q⟩:=h;obtain ⟨as,ra⟩:=qdg I d x v rd rx;obtain ⟨bs,rb⟩:=qdg I e y u re ry;have hm:min d.depth e.depth<=d.depth:=Nat.min_le_left _ _;exact SeqAt.compareEq_reads ra rb cd ce (by omega) ⟨.bl _,H,I,rfl,q⟩
theorem qvx (hu:X.A.units+64<cLine):OpR X (compareOp .NotEq) (qDw X.K true):=by
 intro pins s σ H x y v u Q I rx ry h;obtain ⟨d,e,rd,re,cd,ce,hd,q⟩:=h;obtain ⟨as,ra⟩:=qdg I d x v rd rx;obtain ⟨bs,rb⟩:=qdg I e y u re ry;have hm:min d.depth e.depth<=d.depth:=Nat.min_le_left _ _;exact SeqAt.rcNeAt_reads ra rb cd ce (by omega) X.prog X.w X.xe _ ⟨.bl _,H,I,rfl,q⟩
end
section
variable {X:Cx} {pins:List (Addr×Obj)} {σ:St} {H:Hp} {s:Shared} {h':Heap}
theorem Inv.turnedLaid {t':Nat} {ch:List Addr} {a:Addr} {o:HO} (I:Inv X pins σ H s) (hf:∀ b∈ch,qnd X pins H b) (k:∀ b u,b ∉ ch->s.heap.get? b=some u->h'.get? b=some u)
  (hp:s.heap.objs.size<=a) (new:ObjOk X.prog X.w (upd H a o) h' a o):Inv X pins σ (upd H a o) { s with heap:=h',toks:=t' }:=by
 have hna:H a=none:=I.hok.fresh hp;have nch:∀ b u,H b=some u->b ∉ ch:=λb u e z=>by rw[(hf b z).1] at e;cases e
 have nea:∀ b u,s.heap.get? b=some u->b≠a:=λb u e z=>absurd (Nat.lt_of_lt_of_le (Heap.lt_size e) (by rw[z];exact hp)) (Nat.lt_irrefl _)
 refine I.step (g':=s.gens) (d':=s.drawn) (ch:=ch) (λb hb=>⟨(hf b hb).2.2.2.1,(hf b hb).2.1,(hf b hb).2.2.2.2.1,(hf b hb).2.2.2.2.2⟩) (λb o _ _ hc e _=>k b o hc e) (λb o _ _ hc e _=>⟨o.slots,k b o hc e⟩)
  (λb o hc e n=>by rw[qa1 (nea b o e)];exact n) (λb o hc e=>⟨o,k b o hc e⟩) (λb xs e=>by rw[qa1 (qac e hna)];exact e) (λb o u e=>by rw[qa1 (qac e hna)];exact e)
  (λb ps e=>⟨#[],by rw[qa1 (qac e hna),e];simp⟩) (λm hm=>?_) (λb u e=>?_) I.bare
 ·obtain ⟨o,es,ep,ho,r⟩:=hm
  exact ⟨o,es,ep,k _ o (λz=>(hf _ z).2.1 rfl) ho,r⟩
 ·by_cases hb:b=a
  ·subst hb;rw[qba] at e;cases e;exact new
  ·rw[qa1 hb] at e
   refine (I.hok b u e).stay (λc v hc q=>k c v ?_ q) (λc q=>by rw[qa1 (qac q hna)];exact q) λc xs q=>by rw[qa1 (qac q hna)];exact q
   rcases hc with z|z
   ·rw[z];exact nch b u e
   ·exact nch c _ z
theorem Inv.turnedL {t':Nat} {ch:List Addr} (I:Inv X pins σ H s) (hf:∀ b∈ch,qnd X pins H b) (k:∀ b u,b ∉ ch->s.heap.get? b=some u->h'.get? b=some u):Inv X pins σ H { s with heap:=h',toks:=t' }:=by
 have nch:∀ b u,H b=some u->b ∉ ch:=λb u e z=>by rw[(hf b z).1] at e;cases e
 refine I.step (g':=s.gens) (d':=s.drawn) (ch:=ch) (λb hb=>⟨(hf b hb).2.2.2.1,(hf b hb).2.1,(hf b hb).2.2.2.2.1,(hf b hb).2.2.2.2.2⟩) (λb o _ _ hc e _=>k b o hc e) (λb o _ _ hc e _=>⟨o.slots,k b o hc e⟩)
  (λ_ _ _ _ n=>n) (λb o hc e=>⟨o,k b o hc e⟩) (λ_ _ e=>e) (λ_ _ _ e=>e) (λb ps e=>⟨#[],by rw[e];simp⟩) (λm hm=>?_) (λb u e=>?_) I.bare
 ·obtain ⟨o,es,ep,ho,r⟩:=hm
  exact ⟨o,es,ep,k _ o (λz=>(hf _ z).2.1 rfl) ho,r⟩
 ·refine (I.hok b u e).stay (λc v hc q=>k c v ?_ q) (λ_ q=>q) λ_ _ q=>q
  rcases hc with z|z
  ·rw[z];exact nch b u e
  ·exact nch c _ z
end
def Itz (K:Frag) (a b:Addr):It:=
 ⟨λi H=>∃ xs ys x y,SqL K H a xs/\SqL K H b ys/\xs[i]?=some x/\ys[i]?=some y,
   λi H v H'=>∃ p,v=.ref p/\H p=none/\∀ xs ys x y,SqL K H a xs->SqL K H b ys->xs[i]?=some x->ys[i]?=some y->H'=upd H p (.tup [x,y]),
   λi H=>∃ xs ys,SqL K H a xs/\SqL K H b ys/\(xs.length<=i\/ys.length<=i)⟩
theorem qa2 {h:Heap} {a b:Addr} {o u:Obj} (e:h.get? a=some o) (e':h.get? b=some u) (d:o.cls≠u.cls):a≠b:=λz=>by
 subst z;rw[e] at e';exact d (congrArg Obj.cls (Option.some.inj e'))
theorem qCb:Value.type "tuple" ≠ Value.type "zip" :=by decide
theorem qCc:Value.type "list_iterator" ≠ Value.type "zip" :=by decide
theorem qvy:Value.type "tuple" ≠ Value.type "list_iterator" :=by decide
theorem qCd:Value.type "list" ≠ Value.type "zip" :=by decide
theorem qCe:Value.type "list" ≠ Value.type "tuple" :=by decide
theorem qvz:Value.type "list" ≠ Value.type "list_iterator" :=by decide
theorem quj {P:Program} {w:World} {K:Frag} {elts:List Expr} {ek:Nat} {epos:Pos} (a b z TI TO i1 i2:Addr) (d1:TI≠TO) (d2:i1≠i2) :
  Turn P w K (.Tuple elts ek epos) (Itz K a b) [z,TI,TO,i1,i2] z (λi h=>IsZip h z TI TO .none/\IsPair h TI (.ref i1) (.ref i2)/\(∃ x y,IsPair h TO x y)/\h.IsListIter i1 a i/\h.IsListIter i2 b i) where
 mem:=by simp
 obj:=λi h st c hc=>by
  obtain ⟨hz,hTI,⟨x,y,hTO⟩,⟨o1,e1,c1,f1⟩,⟨o2,e2,c2,f2⟩⟩:=st;simp only[List.mem_cons,List.not_mem_nil,or_false] at hc
  rcases hc with rfl|rfl|rfl|rfl|rfl
  ·exact ⟨_,hz,λv q=>by have q':Data.fields _=Data.cell v:=q;cases q'⟩
  ·exact ⟨_,hTI,λv q=>by have q':Data.seq _ _=Data.cell v:=q;cases q'⟩
  ·exact ⟨_,hTO,λv q=>by have q':Data.seq _ _=Data.cell v:=q;cases q'⟩
  ·exact ⟨_,e1,λv q=>by rw[f1] at q;cases q⟩
  ·exact ⟨_,e2,λv q=>by rw[f2] at q;cases q⟩
 keep:=λi h h' st k=>by
  obtain ⟨hz,hTI,⟨x,y,hTO⟩,h1,h2⟩:=st;exact ⟨k z (by simp) _ hz,k TI (by simp) _ hTI,⟨x,y,k TO (by simp) _ hTO⟩,h1.at λo e=>k i1 (by simp) o e,h2.at λo e=>k i2 (by simp) o e⟩
 item:=by
  intro X hP hw hK hc i pins s σ H E I hf st hg;subst hP hw hK;obtain ⟨xs,ys,x,y,qa,qb,hx,hy⟩:=hg;obtain ⟨hz,hTI,⟨x0,y0,hTO⟩,h1,h2⟩:=st;obtain ⟨itsA,rA,pA,zA⟩:=I.list qa;obtain ⟨itsB,rB,pB,zB⟩:=I.list qb;obtain ⟨u,hu,ru⟩:=rA.get hx;obtain ⟨u',hu',ru'⟩:=rB.get hy;have D:ZipApart z TI TO i1 i2 a b:=by
   obtain ⟨o1,e1,c1,f1⟩:=id h1;obtain ⟨o2,e2,c2,f2⟩:=id h2;obtain ⟨oa,na,ea,ca,_,fa⟩:=id pA;obtain ⟨ob,nb,eb,cb,_,fb⟩:=id pB;exact ⟨qa2 hTI hz qCb,qa2 hTO hz qCb,qa2 e1 hz (by rw[c1];exact qCc),qa2 e2 hz (by rw[c2];exact qCc),d1,qa2 hTI e1 (by rw[c1];exact qvy),qa2 hTI e2 (by rw[c2];exact qvy),
    qa2 hTO e1 (by rw[c1];exact qvy),qa2 hTO e2 (by rw[c2];exact qvy),d2,qa2 ea hz (by rw[ca];exact qCd),qa2 ea hTO (by rw[ca];exact qCe),qa2 ea e1 (by rw[ca,c1];exact qvz),qa2 ea e2 (by rw[ca,c2];exact qvz),
    qa2 eb hz (by rw[cb];exact qCd),qa2 eb hTO (by rw[cb];exact qCe),qa2 eb e1 (by rw[cb,c1];exact qvz),qa2 eb e2 (by rw[cb,c2];exact qvz)⟩
  refine wpAny_pyNext_zip_item D hz hTI hTO h1 h2 pA.isList pB.isList (x:=u) (y:=u') (by simpa using hu) (by simpa using hu') λh' a1 a2 a3 a4 a5 a6 hk=>?_
  refine ⟨.ref s.heap.objs.size,rfl,wpAny_letOwnedTupleGo_zip a1 λh'' hz'' sb=>?_⟩;have lz:z<s.heap.objs.size:=Heap.lt_size hz;have nz:s.heap.objs.size≠z:=Nat.ne_of_gt lz;have k2:∀ c o,c ∉ [z,TI,TO,i1,i2]->s.heap.get? c=some o->h''.get? c=some o:=λc o hc e=>by
   simp only[List.mem_cons,List.not_mem_nil,or_false,not_or] at hc;exact sb.extBut _ _ hc.1 (hk c o hc.1 hc.2.2.1 hc.2.2.2.1 hc.2.2.2.2 e)
  have T2:IsPair h'' s.heap.objs.size u u':=sb.extBut _ _ nz a5;refine ⟨.ref s.heap.objs.size,upd H s.heap.objs.size (.tup [x,y]),I.turnedLaid (t':=s.toks) (ch:=[z,TI,TO,i1,i2]) hf k2 (Nat.le_refl _) ⟨by show 2<=sizeLine;decide,[u,u'],.cons ru (.cons ru' .nil),_,T2,rfl,_,rfl⟩,rfl,⟨_,rfl,I.hok.fresh (Nat.le_refl _),λxs' ys' x' y' qa' qb' hx' hy'=>?_⟩,⟨hz'',sb.extBut _ _ D.TIz (hk _ _ D.TIz D.TITO D.TIi1 D.TIi2 hTI),⟨_,_,sb.extBut _ _ D.TOz a2⟩,a3.extBut sb.extBut D.i1z,a4.extBut sb.extBut D.i2z⟩,λb hb=>?_⟩
  ·rw[I.list_inj qa' qa,hx] at hx'
   rw[I.list_inj qb' qb,hy] at hy'
   cases hx';cases hy';rfl
  ·have e:b≠s.heap.objs.size:=λq=>by
    have:∃ o,s.heap.get? b=some o:=by
     simp only[List.mem_cons,List.not_mem_nil,or_false] at hb;obtain ⟨o1,e1,_⟩:=id h1;obtain ⟨o2,e2,_⟩:=id h2
     rcases hb with rfl|rfl|rfl|rfl|rfl
     ·exact ⟨_,hz⟩
     ·exact ⟨_,hTI⟩
     ·exact ⟨_,hTO⟩
     ·exact ⟨_,e1⟩
     ·exact ⟨_,e2⟩
    obtain ⟨o,e⟩:=this;exact absurd (Heap.lt_size e) (by rw[q];exact Nat.lt_irrefl _)
   rw[qa1 e];exact (hf b hb).1
 done:=by
  intro X hP hw hK hc i pins s σ H E I hf st hg;subst hP hw hK;obtain ⟨xs,ys,qa,qb,hx⟩:=hg;obtain ⟨hz,hTI,⟨x0,y0,hTO⟩,h1,h2⟩:=st;obtain ⟨itsA,rA,pA,zA⟩:=I.list qa;obtain ⟨itsB,rB,pB,zB⟩:=I.list qb;have D:ZipApart z TI TO i1 i2 a b:=by
   obtain ⟨o1,e1,c1,f1⟩:=id h1;obtain ⟨o2,e2,c2,f2⟩:=id h2;obtain ⟨oa,na,ea,ca,_,fa⟩:=id pA;obtain ⟨ob,nb,eb,cb,_,fb⟩:=id pB;exact ⟨qa2 hTI hz qCb,qa2 hTO hz qCb,qa2 e1 hz (by rw[c1];exact qCc),qa2 e2 hz (by rw[c2];exact qCc),d1,qa2 hTI e1 (by rw[c1];exact qvy),qa2 hTI e2 (by rw[c2];exact qvy),
    qa2 hTO e1 (by rw[c1];exact qvy),qa2 hTO e2 (by rw[c2];exact qvy),d2,qa2 ea hz (by rw[ca];exact qCd),qa2 ea hTO (by rw[ca];exact qCe),qa2 ea e1 (by rw[ca,c1];exact qvz),qa2 ea e2 (by rw[ca,c2];exact qvz),
    qa2 eb hz (by rw[cb];exact qCd),qa2 eb hTO (by rw[cb];exact qCe),qa2 eb e1 (by rw[cb,c1];exact qvz),qa2 eb e2 (by rw[cb,c2];exact qvz)⟩
  have lA:=rA.length;have lB:=rB.length;refine wpAny_pyNext_zip_end (I.ok.hd hc) D hz hTI hTO h1 h2 pA.isList pB.isList (hx.imp (λq=>by simp;omega) λq=>by simp;omega) λh' hk=>⟨rfl,I.turnedL (t':=s.toks) (ch:=[z,TI,TO,i1,i2]) hf λc o hc e=>?_⟩
  simp only[List.mem_cons,List.not_mem_nil,or_false,not_or] at hc;exact hk c o hc.1 hc.2.2.1 hc.2.2.2.1 hc.2.2.2.2 e
 self:=λ_ _ _ _ _ st h=>wpAny_pyIter_zip st.1 h
section
variable {X:Cx}
def qEm (K:Frag) (ta:TA):TI:=λσ H R=>ta σ H λvs H1=>∃ a b xs ys,vs=[.ref a,.ref b]/\SqL K H1 a xs/\SqL K H1 b ys/\R (Itz K a b) H1
theorem qnl {elts:List Expr} {ek:Nat} {epos:Pos} {e1 e2:Expr} {ta:TA} {p pos:Pos} (hg:Gl X "zip") (hm:X.mg "zip" = none) (ha:PA X [e1,e2] ta)
  (hs:starEach [e1,e2] X.env=[(false,eval e1 X.env),(false,eval e2 X.env)]:=by rfl) (hs2:starEach [e2] X.env=[(false,eval e2 X.env)]:=by rfl) :
  PI X (.Tuple elts ek epos) (.Call (.Name "zip" p) [e1,e2] [] pos) (qEm X.K ta):=by
 intro pins s σ H R I h;refine Call_ (qkd I hg hm (show bootBuiltins "zip" = some (.type "zip") by decide +kernel) (PyProof.Rows.callWith_type1 (thn (ha pos pins s σ H _ I h) λus s1 ⟨vs,H1,I1,r1,q1⟩=>?_) (by rw[hs,hs2]) (by rw[hs2];rfl)));obtain ⟨a,b,xs,ys,rfl,qa,qb,q⟩:=q1;obtain ⟨u,u',rfl,ru,ru'⟩:=vals2 r1
 cases (show u=Value.ref a from ru)
 cases (show u'=Value.ref b from ru')
 obtain ⟨itsA,rA,pA,zA⟩:=I1.list qa;obtain ⟨itsB,rB,pB,zB⟩:=I1.list qb;refine call_zip_2 pA.isList pB.isList λh' hz hTI hTO h1 h2 hsz hk=>wpAny_pyIter_zip hz ?_
 refine ⟨s1.heap.objs.size+4,_,_,_,H1,rfl,I1.kept (t':=s1.toks) hk,quj a b _ (s1.heap.objs.size+2) (s1.heap.objs.size+3) s1.heap.objs.size (s1.heap.objs.size+1) (Nat.ne_of_lt (Nat.lt_succ_self _)) (Nat.ne_of_lt (Nat.lt_succ_self _)),⟨hz,hTI,⟨_,_,hTO⟩,h1,h2⟩,λc hc=>?_,q⟩;have e:s1.heap.objs.size<=c:=by
  simp only[List.mem_cons,List.not_mem_nil,or_false] at hc
  rcases hc with rfl|rfl|rfl|rfl|rfl
  ·exact Nat.le_add_right _ _
  ·exact Nat.le_add_right _ _
  ·exact Nat.le_add_right _ _
  ·exact Nat.le_refl _
  ·exact Nat.le_add_right _ _
 exact I1.fpOk e (I1.hok.fresh e)
end
theorem qxu {K:Frag} {a b:Addr} {xs ys:List V} {g:TG} {tb:TS} {D:Ends} {σ:St} {H:Hp} (Pv:Nat->St->Hp->Prop) (h0:Pv 0 σ H) (hl:∀ i σ H,Pv i σ H->SqL K H a xs/\SqL K H b ys)
  (hs:∀ i x y σ H p,xs[i]?=some x->ys[i]?=some y->H p=none->Pv i σ H->g (.ref p) σ (upd H p (.tup [x,y])) λσ2 H2=>tb { D with nx:=Pv (i+1),ct:=Pv (i+1),bk:=D.nx } σ2 H2)
  (hd:∀ i σ H,i=min xs.length ys.length->Pv i σ H->D.nx σ H) :
  ∃ W:Nat->Nat->St->Hp->Prop,(∃ m,W 0 m σ H)/\∀ i m σ H,W i m σ H ->
   ((Itz K a b).stop i H/\D.nx σ H)\/((Itz K a b).go i H/\∃ N:St->Hp->Prop,(∀ σ' H',N σ' H'->∃ m',m'<m/\W (i+1) m' σ' H')/\∀ x H',(Itz K a b).yld i H x H'->g x σ H' λσ2 H2=>tb { D with nx:=N,ct:=N,bk:=D.nx } σ2 H2):=by
 refine ⟨λi m σ H=>m=min xs.length ys.length-i/\i<=min xs.length ys.length/\Pv i σ H,⟨min xs.length ys.length,by simp,Nat.zero_le _,h0⟩,?_⟩;rintro i m σ H ⟨rfl,hi,p⟩;obtain ⟨qa,qb⟩:=hl i σ H p
 by_cases hlt:i<min xs.length ys.length
 ·have ha:i<xs.length:=by omega
  have hb:i<ys.length:=by omega
  refine .inr ⟨⟨xs,ys,xs[i],ys[i],qa,qb,by simp[ha],by simp[hb]⟩,Pv (i+1),λσ' H' p'=>⟨min xs.length ys.length-(i+1),by omega,rfl,hlt,p'⟩,λx H' y=>?_⟩;obtain ⟨t,rfl,ht,y⟩:=y;have ea:xs[i]?=some xs[i]:=by simp[ha]
  have eb:ys[i]?=some ys[i]:=by simp[hb]
  rw[y xs ys xs[i] ys[i] qa qb ea eb];exact hs i xs[i] ys[i] σ H t ea eb ht p
 ·exact .inl ⟨⟨xs,ys,qa,qb,by omega⟩,hd i σ H (by omega) p⟩
structure FunD (K:Frag) (x qual:Str) (st:Stmt) (dV:Value) (f:Addr) (fd:FuncData):Prop where
 ex:∃ (oc:Value) (od:Option Addr) (kV doc pm:Value) (an:Option Addr) (cdv ct:Value) (osl:Array (Option Value)),
  fd=fnOf x qual (qcj st) (qbm st) (qaa st) dV kV doc pm an cdv ct/\K.lookup f=some ⟨oc,od,.func fd,osl⟩/\codeIn K cdv qual=true
 kp:keepIn K (.ref f)=true
section
variable {P:Program} {w:World} {K:Frag} {mg:Str->Option Value} {base:Heap}
theorem FunD.ok {x qual:Str} {st:Stmt} {dV:Value} {f:Addr} {fd:FuncData} {N ps:List Str} {k:Nat} {sp:Sp} (F:FunD K x qual st dV f fd) (S:qaf N ps (qaa st)) (len:∀ vs H Q E,sp vs H Q E->vs.length=ps.length)
  (hbody:∀ (cdv:Value) (A:Around) (outer:List Env) (s:Shared) (H:Hp) (vs:List V) (Q:VK) (E:XK),Room k (A.deeper (envOfC qual (qaa st) s.heap.objs.size f cdv))->sp vs H Q E ->
   ∃ t,PSs (qqb CX0 P w K mg base N qual (qaa st) f cdv A outer s H E).nox (qbm st) t/\t { nx:=λ_ H'=>Q .non H',rt:=Q } (start N vs) H):qgl P w K mg base CX0 (k+1) f fd ps sp:=by
 obtain ⟨oc,od,kV,doc,pm,an,cdv,ct,osl,rfl,lk,hcd⟩:=F.ex;refine qt9 lk hcd S len λA outer s H vs Q E hr hsp=>?_
 obtain ⟨t,h,q⟩:=hbody cdv A outer s H vs Q E hr hsp;exact ⟨t,h.nox,q⟩
theorem qg5 {fd:FuncData} {ps:List Str} {ds:List Value} {T:Addr} {o:Obj} {items:Array Value} {n:Nat} (hd:fd.defaults=.ref T) (lk:K.lookup T=some o) (hs:o.data=.seq items n)
  (h:∀ us:List Value,(us ++ ds).length=ps.length->∃ k,bindArgs fd ⟨us,[]⟩=seqItems? fd.defaults >>= k/\k (some items)=pure (ps.zip (us ++ ds))):Binds K fd ps ds:=λs us kin hl=>by
 obtain ⟨k,h1,h2⟩:=h us hl;exact .of_defaults hd (kin _ _ lk) hs h1 h2
end
def qbe (P:Program) (w:World) (K:Frag) (mg:Str->Option Value) (base:Heap) (k:Nat) (x:Str) (ps:List Str) (sp:Sp):Prop:=
 ∃ f fd,qgl P w K mg base CX0 k f fd ps sp/\mg x=some (.ref f)/\keepIn K (.ref f)=true/\Binds K fd ps []
def qdh (P:Program) (w:World) (K:Frag) (mg:Str->Option Value) (base:Heap) (C:Addr) (k:Nat) (m:Str) (ps:List Str) (sp:Sp):Prop:=
 ∃ f fd,qgl P w K mg base CX0 k f fd ps sp/\qqu K C m f/\Binds K fd ps []
def qCf (P:Program) (w:World) (K:Frag) (mg:Str->Option Value) (base:Heap) (C:Addr) (k:Nat) (x:Str) (ps:List Str) (ds:List Value) (sp:Sp):Prop:=
 ∃ f fd,qgl P w K mg base CX0 k f fd ps sp/\mg x=some (.ref C)/\Mk K C f/\Binds K fd ps ds
section
variable {X:Cx} {k:Nat} {C:Addr} {ps:List Str} {sp:Sp} {dvs:List V} {ds:List Value} {x m:Str} {p pos apos:Pos} {e o:Expr} {es:List Expr} {ta:TE} {t:TA}
theorem qC3 (D:qbe X.prog X.w X.K X.mg X.base k x ps sp) (hr:Room k X.A) (hg:Gl X x) (ha:PA X (e :: es) t) (hdb:(x == ("__debug__" : Str))=false:=by decide)
  (he:starEach (e :: es) X.env=(false,eval e X.env) :: starEach es X.env:=by rfl) (hpl:(backTo pos (starEach es X.env)).any (·.1)=false:=by rfl):PE X (.Call (.Name x p) (e :: es) [] pos) (qxg sp [] E0 t):=by
 obtain ⟨f,fd,F,hm,hk,hb⟩:=D;exact qxh F hr hg hm hk hb .nil qui ha hdb he hpl
end
open PySem PySem.Spec PyProof.Rows
section
variable {X:Cx} {k:Nat} {C:Addr} {ps:List Str} {sp:Sp} {x m:Str} {p pos apos:Pos} {e o:Expr} {es:List Expr} {ta:TE} {t:TA}
theorem qo7 {pl:Sem Bool} (he:PE X o ta) (c:Cls X.K C) (D:qdh X.prog X.w X.K X.mg X.base C k m ps sp) (hr:Room k X.A) (ha:PA X (e :: es) t)
  (hst:starEach (e :: es) X.env=(false,eval e X.env) :: starEach es X.env:=by rfl) (hpl:(backTo pos (starEach es X.env)).any (·.1)=false:=by rfl)
  (ht:eval (.Call (.Attribute o m apos) (e :: es) [] pos) X.env=(do
   let ov <- eval o X.env
   standAt apos.atName
   let (f,first) <- holding [ov] (getMethod ov m pl)
   callWith pos f first (backTo pos (starEach (e :: es) X.env)) (backToKw pos (keywordEach [] X.env))):=by rfl) :
  PE X (.Call (.Attribute o m apos) (e :: es) [] pos) (qqw C m sp [] E0 ta t):=by
 obtain ⟨f,fd,F,hm,hb⟩:=D;exact qqy (pl:=pl) he c hm F hr hb .nil qui ha hst hpl ht
theorem qax {pl:Sem Bool} (he:PE X o ta) (c:Cls X.K C) (D:qdh X.prog X.w X.K X.mg X.base C k m ps sp) (hr:Room k X.A)
  (ht:eval (.Call (.Attribute o m apos) [] [] pos) X.env=(do
   let ov <- eval o X.env
   standAt apos.atName
   let (f,first) <- holding [ov] (getMethod ov m pl)
   callWith pos f first (backTo pos (starEach [] X.env)) (backToKw pos (keywordEach [] X.env))):=by rfl) :
  PE X (.Call (.Attribute o m apos) [] [] pos) (qqw C m sp [] E0 ta qig):=by
 obtain ⟨f,fd,F,hm,hb⟩:=D;exact qt7 (pl:=pl) he c hm F hr hb .nil qui ht
end
section
variable {P:Program} {w:World} {K:Frag} {mg:Str->Option Value} {base:Heap}
theorem Fun.def_ {x:Str} {st:Stmt} {f:Addr} {fd:FuncData} {ps:List Str} {k:Nat} {sp:Sp} (F:Fun K x x st f fd) (hm:mg x=some (.ref f)) (hf:qgl P w K mg base CX0 k f fd ps sp) (hb:Binds K fd ps []):qbe P w K mg base k x ps sp:=
 ⟨f,fd,hf,hm,F.kp,hb⟩
end
theorem qbw:bootBuiltins "len" = some (.builtin "len"):=by decide +kernel
theorem qbx:bootBuiltins "isinstance" = some (.builtin "isinstance"):=by decide +kernel
theorem qks:bootBuiltins "sum" = some (.builtin "sum"):=by decide +kernel
theorem qfe:bootBuiltins "list" = some (.type "list"):=by decide +kernel
theorem qnm:bootBuiltins "tuple" = some (.type "tuple"):=by decide +kernel
theorem qAf:bootBuiltins "int" = some (.type "int"):=by decide +kernel
theorem qxv:bootBuiltins "bool" = some (.type "bool"):=by decide +kernel
theorem qAg:bootBuiltins "str" = some (.type "str"):=by decide +kernel
theorem qg6 (K:Frag):PySem.W.kitOne K (.type "int") (.type "int")=some true:=by rfl
theorem qfs (K:Frag):PySem.W.kitOne K (.type "int") (.type "bool")=some false:=by rfl
theorem quk (K:Frag):PySem.W.kitOne K (.type "list") (.type "list")=some true:=by rfl
theorem kit_tuple (K:Frag):PySem.W.kitOne K (.type "tuple") (.type "tuple")=some true:=by rfl
theorem qjh {H:Hp} {p:Addr} {o:HO} (h:H p=none):Same H (upd H p o):=λb u e=>by rw[qa1 (qac e h)];exact e
open PySem PySem.Spec PyProof.Rows
def blk (X:Cx) (Nc:List Str) (scope:Scope) (cl:List (Str×Addr)) (C:Addr) (s:Shared) (H:Hp) (ex:List Addr):Cx where
 prog:=X.prog
 w:=X.w
 K:=X.K
 mg:=X.mg
 base:=X.base
 A:=X.A
 N:=Nc
 s₀:=s
 H₀:=H
 env:=compEnvC scope cl C X.env
 outer:=X.stack
 stack:=X.stack
 ex:=ex
 fn:=λ_=>false
 calm:=X.calm
 pn:=[]
 xe:=λ_ _=>False
structure qv0 (X:Cx) (scope:Scope) (cl:List (Str×Addr)):Prop where
 clos:closureFor scope X.env=pure cl
 kind:scope.kind=.function
 nocell:∀ y∈scope.names,y.2≠.cell
 names:∀ y∈scope.names,y.2=.local->scope.names.lookup y.1=some .local
 sub:∀ x c,cl.lookup x=some c->X.env.cells.lookup x=some c
 has:∀ x,((relabel scope X.env).names.lookup x=some .cell\/(relabel scope X.env).names.lookup x=some .free)->∃ c,cl.lookup x=some c
def FvOk (X:Cx) (scope:Scope) (cl:List (Str×Addr)):List Str->List Nat->Prop
 | [],[]=>True
 | x :: xs,j :: js=>(X.N[j]?=some x/\(X.env.kindOf x=some .cell\/X.env.kindOf x=some .free)/\cl.lookup x=X.env.cells.lookup x /\
   ((relabel scope X.env).names.lookup x=some .cell\/(relabel scope X.env).names.lookup x=some .free))/\FvOk X scope cl xs js
 | _,_=>False
def lcσ (nv:Nat) (fv:List Nat) (σ:St):St:=List.replicate nv none ++ fv.map λj=>(σ[j]?).join
theorem FvOk.len {X:Cx} {scope:Scope} {cl:List (Str×Addr)}:∀ {xs:List Str} {js:List Nat},FvOk X scope cl xs js->xs.length=js.length
 | [],[],_=>rfl
 | _ :: _,_ :: _,h=>by simp[FvOk.len h.2]
 | [],_ :: _,h=>h.elim
 | _ :: _,[],h=>h.elim
theorem FvOk.get {X:Cx} {scope:Scope} {cl:List (Str×Addr)}:∀ {xs:List Str} {js:List Nat} {k:Nat} {x:Str} {j:Nat},FvOk X scope cl xs js->xs[k]?=some x->js[k]?=some j ->
  X.N[j]?=some x/\(X.env.kindOf x=some .cell\/X.env.kindOf x=some .free)/\cl.lookup x=X.env.cells.lookup x/\((relabel scope X.env).names.lookup x=some .cell\/(relabel scope X.env).names.lookup x=some .free)
 | [],[],_,_,_,_,e,_=>by simp at e
 | _ :: _,_ :: _,0,_,_,h,e,e'=>by simp at e e';subst e;subst e';exact h.1
 | _ :: _,_ :: _,k+1,x,j,h,e,e'=>FvOk.get (k:=k) h.2 (by simpa using e) (by simpa using e')
 | [],_ :: _,_,_,_,h,_,_=>h.elim
 | _ :: _,[],_,_,_,h,_,_=>h.elim
abbrev qaj:Obj:={ cls:=.type "list",dict:=none,data:=.seq ([]:List Value).toArray }
theorem ltS {h:Heap} {b:Addr} {o:Obj} (e:h.get? b=some o):b≠(h.push qaj).objs.size:=Nat.ne_of_lt (by rw[Heap.size_push];exact Nat.lt_succ_of_lt (Heap.lt_size e))
theorem neS {h:Heap}:h.objs.size≠(h.push qaj).objs.size:=Nat.ne_of_lt (by rw[Heap.size_push];exact Nat.lt_succ_self _)
theorem leS {h:Heap}:h.objs.size<=(h.push qaj).objs.size:=by rw[Heap.size_push];exact Nat.le_succ _
theorem neZ {h:Heap} {b:Addr} {o:Obj} (e:h.get? b=some o):b≠h.objs.size:=Nat.ne_of_lt (Heap.lt_size e)
section
variable {X:Cx} {pins:List (Addr×Obj)} {σ:St} {H:Hp} {s:Shared} {scope:Scope} {cl:List (Str×Addr)} {vars frees:List Str} {fv:List Nat} {fp:List Addr}
theorem qxw {h':Heap} {t':Nat} (I:Inv X pins σ H s) (L:qv0 X scope cl) (fo:FvOk X scope cl frees fv) (hf:∀ b∈fp,qnd X pins H b) (ho:∀ b∈fp,∃ o,s.heap.get? b=some o)
  (hns:h'.Ns (s.heap.push qaj).objs.size (λ_=>none)) (hsb:∀ b o,b≠(s.heap.push qaj).objs.size->(s.heap.push qaj).get? b=some o->h'.get? b=some o) :
  Inv (blk X (vars ++ frees) scope cl (s.heap.push qaj).objs.size { s with heap:=s.heap.push qaj } H (s.heap.objs.size :: fp)) [(s.heap.objs.size,qaj)] (lcσ vars.length fv σ) H { s with heap:=h',toks:=t' }:=by
 have hC:(s.heap.push qaj).objs.size=s.heap.objs.size+1:=Heap.size_push ..;have hlt:∀ {b:Addr} {o:Obj},s.heap.get? b=some o->b<s.heap.objs.size:=λe=>Heap.lt_size e
 have old:∀ b o,s.heap.get? b=some o->h'.get? b=some o:=λb o e=>hsb b o (ltS e) (Heap.get?_push_of_some _ e)
 have hD:h'.get? s.heap.objs.size=some qaj:=hsb _ _ neS (Heap.get?_push_size _ rfl);have stk:∀ b∈frs X.stack,b<s.heap.objs.size/\b ∉ fp:=λb hb=>by
  rcases List.mem_cons.mp (I.stkSub b hb) with z|z
  ·exact ⟨by rw[z];exact I.lt,λq=>(hf b q).2.1 z⟩
  ·refine ⟨?_,λq=>(hf b q).2.2.1 z⟩
   apply Nat.lt_of_not_le
   intro q;exact I.nofs q z
 have cellL:∀ x c,cl.lookup x=some c->c<s.heap.objs.size:=λx c e=>by
  obtain ⟨v,q⟩:=I.cell x c (L.sub x c e);exact q.lt
 refine ⟨⟨I.ok.mod,L.kind,I.ok.glob,I.ok.blt,Nat.le_refl _,λx y c e1 e2=>I.ok.inj x y c (L.sub x c e1) (L.sub y c e2),λx h=>L.has x h,(λx c z=>nomatch z),I.ok.hd,I.ok.frames,.inl rfl,λb hb=>?_,λb o e=>?_,?_,λb o e hb=>?_,λb hb hq=>?_,?_,λb hb=>I.stkFree b hb⟩,
  rfl,I.bare,Un.kept λb u e=>?_,⟨_,hns,λi x v e1 e2 e3=>?_⟩,λx c e=>?_,?_,λx c e=>I.freeC x c (L.sub x c e),λp hp=>?_,I.hok.kept old,?_⟩
 ·
  refine ⟨?_,λx c e z=>?_⟩
  ·show b≠(s.heap.push qaj).objs.size
   rcases List.mem_cons.mp hb with z|z
   ·rw[z];exact neS
   ·obtain ⟨o,e⟩:=ho b z
    exact ltS e
  ·rcases List.mem_cons.mp hb with q|q
   ·exact Nat.ne_of_lt (cellL x c e) (z.trans q)
   ·exact (hf b q).2.2.2.2.1 x c (L.sub x c e) z
 ·exact ⟨Heap.get?_push_of_some _ (I.bs b o e).1,(I.bs b o e).2⟩
 ·exact Nat.le_trans (Nat.le_trans I.ok.bsz I.sz) leS
 ·
  rcases List.mem_cons.mp hb with q|q
  ·exact neZ (I.bs b o e).1 q
  ·rcases (hf b q).2.2.2.1 with z|z
   ·exact I.ok.noex b o e z
   ·exact absurd (Nat.lt_of_lt_of_le (Heap.lt_size (I.ok.bs b o e).1) z) (Nat.lt_irrefl _)
 ·
  obtain ⟨h1,h2⟩:=stk b hq
  rcases List.mem_cons.mp hb with q|q
  ·exact Nat.ne_of_lt h1 q
  ·exact h2 q
 ·exact Heap.FunFrames.of_keeps (λb o e _=>⟨o,Heap.get?_push_of_some _ e,rfl⟩) I.stack
 ·exact hsb b u (Nat.ne_of_lt (Heap.lt_size e)) e
 ·
  obtain ⟨m,hn,hl⟩:=I.loc;have hi:vars.length<=i:=by
   apply Nat.le_of_not_lt
   intro z;rw[show lcσ vars.length fv σ=List.replicate vars.length none ++ fv.map λj=>(σ[j]?).join from rfl,List.getElem?_append_left (by simpa using z),List.getElem?_replicate_of_lt (by simpa using z)] at e2;cases e2
  obtain ⟨k,rfl⟩:∃ k,i=vars.length+k:=⟨i-vars.length,by omega⟩;have e1':frees[k]?=some x:=by
   have e1'':(vars ++ frees)[vars.length+k]?=some x:=e1;rw[List.getElem?_append_right (by omega)] at e1''
   simpa using e1''
  have e2':(fv.map λj=>(σ[j]?).join)[k]?=some (some v):=by
   rw[show lcσ vars.length fv σ=List.replicate vars.length none ++ fv.map λj=>(σ[j]?).join from rfl,List.getElem?_append_right (by simp)] at e2
   simpa using e2
  rw[List.getElem?_map] at e2';obtain ⟨j,hj,ej⟩:=Option.map_eq_some_iff.mp e2';have ej':σ[j]?=some (some v):=by
   cases q:σ[j]? with
   | none=>rw[q] at ej;cases ej
   | some y=>rw[q] at ej;exact congrArg some ej
  obtain ⟨f1,f2,f3,f4⟩:=fo.get e1' hj;obtain ⟨u,ru,lk⟩:=hl j x v f1 ej' (f2.elim (λz=>.inr (.inl z)) λz=>.inr (.inr z));refine ⟨u,ru,.inr ⟨f4,?_⟩⟩
  rcases lk with ⟨z,_⟩|⟨_,c,hc,o,q,d⟩
  ·rcases f2 with y|y<;>rw[y] at z<;>cases z
  ·exact ⟨c,f3.trans hc,o,old c o q,d⟩
 ·obtain ⟨v,o,q,d⟩:=I.cell x c (L.sub x c e)
  exact ⟨v,o,old c o q,d⟩
 ·exact I.hok.fresh leS
 ·have e:p=(s.heap.objs.size,qaj):=by
   have hp':p∈([]:List (Addr×Obj)) ++ [(s.heap.objs.size,qaj)]:=hp
   simpa using hp'
  subst e;refine ⟨hD,I.hok.fresh (Nat.le_refl _),neS,λq=>?_,λv q=>by have q':Data.seq _ _=Data.cell v:=q;cases q'⟩;exact Nat.lt_irrefl _ (stk _ q).1
 ·show (lcσ vars.length fv σ).length=(vars ++ frees).length
  simp[lcσ,fo.len]
end
def qzl (X:Cx) (ifs:List Expr) (t:TT):Prop:=
 ∀ (pins:List (Addr×Obj)) (s:Shared) (σ:St) (H:Hp) (Q:Bool->Hp->Prop),Inv X pins σ H s->t σ H Q ->
  wpAny (model X.prog X.w) X.A (forIn ifs true λc r=>if r=true then do let ok <- isTrue c X.env (eval c X.env);pure (ForInStep.yield ok) else pure (ForInStep.yield r)) (TP X pins σ Q) X.xe s
def qC4:TT:=λ_ H Q=>Q true H
theorem qqc {σ:St} {H:Hp} {Q:Bool->Hp->Prop} (h:Q true H):qC4 σ H Q:=h
theorem qbc {X:Cx}:qzl X [] qC4:=λ_ _ _ H _ I h=>wpAny_tests_nil ⟨H,I,h⟩
theorem qra {X:Cx} {c:Expr} {t:TT} (h:PT X c t):qzl X [c] t:=λpins s σ H Q I q=>wpAny_tests_one (h pins s σ H Q I q)
def qd5 (J:It) (Q:VK) (g:TG) (tc:TT) (te:TE) (σc:St) (H1:Hp):Prop:=∃ W:Nat->Nat->List V->Hp->Prop,(∃ m,W 0 m [] H1)/\∀ i m ys H2,W i m ys H2 ->
 (J.stop i H2/\ys.length<=sizeLine/\∀ p,H2 p=none->Q (.ref p) (upd H2 p (.lst ys))) \/
 (J.go i H2/\ys.length<sizeLine/\∃ N:List V->Hp->Prop,(∀ zs H',N zs H'->∃ m',m'<m/\W (i+1) m' zs H')/\∀ x H3,J.yld i H2 x H3->g x σc H3 λσ4 H4=>tc σ4 H4 λb H5=>if b=true then te σ4 H5 λv H6=>N (ys ++ [v]) H6 else N ys H5)
def tLC (nv:Nat) (fv:List Nat) (wi:TI) (g:TG) (tc:TT) (te:TE):TE:=λσ H Q=>wi σ H λJ H1=>qd5 J Q g tc te (lcσ nv fv σ) H1
theorem qo8 {prog:Program} {w:World} {A:Around} {R:Result->Shared->Prop} {s:Shared} {elt target iter:Expr} {ifs:List Expr} {scope:Scope} {pos:Pos} {it acc:Value} {env:Env} (I:Nat->Shared->Prop)
  (turn:∀ n s,I n s->wpAny (model prog w) A (pyNext it) (λr s₁=>match r with
   | none=>R (.ok .next) s₁
   | some v=>wpAny (model prog w) A (letOwnedTupleGo target it v) (λ_ s₁'=>wpAny (model prog w) A (assign target env v) (λ_ s₂ =>
     wpAny (model prog w) A (forIn ifs true λc r=>if r=true then do let ok <- isTrue c env (eval c env);pure (ForInStep.yield ok) else pure (ForInStep.yield r)) (λok s₃ =>
      if ok=true then wpAny (model prog w) A (eval elt env) (λx s₄ =>
       wpAny (model prog w) A (call (.builtin "list.append") [acc,x]) (λ_ s₅=>∃ m,m<n/\I m s₅) (notedBy (model prog w) A env λe s'=>R (.error e) s') s₄) (notedBy (model prog w) A env λe s'=>R (.error e) s') s₃
      else ∃ m,m<n/\I m s₃) (notedBy (model prog w) A env λe s'=>R (.error e) s') s₂) (notedBy (model prog w) A env λe s'=>R (.error e) s') s₁') (notedBy (model prog w) A env λe s'=>R (.error e) s') s₁) (notedBy (model prog w) A env λe s'=>R (.error e) s') s)
  (n:Nat) (h:I n s):codeAny (model prog w) A (.compLoop (.ListComp elt [⟨target,iter,ifs,0⟩] scope pos) 0 it acc env) R s:=by
 refine codeAny_loop rfl I (λn s hI=>?_) n h
 show wpAny _ A ((compTurn (.ListComp elt [⟨target,iter,ifs,0⟩] scope pos) 0 it acc env).onRaise (λx=>do noteFrame x env;theTreesLotGoes x)) _ _ s
 refine wpAny_noted ?_;rw[compTurn_list];refine wpAny_bind (wpAny_standAt (wpAny_bind (wpAny_mono (turn n s hI) (λr s₁ h₁=>?_) λ_ _ h'=>h')))
 cases r with
 | none=>exact wpAny_pure h₁
 | some v =>
  refine wpAny_bind (wpAny_mono h₁ (λ_ s₁' h₁'=>?_) λ_ _ h'=>h');refine wpAny_bind (wpAny_mono h₁' (λ_ s₂ h₂=>wpAny_bind (wpAny_mono h₂ (λok s₃ h₃=>?_) λ_ _ h'=>h')) λ_ _ h'=>h')
  cases ok with
  | false=>exact wpAny_pure ⟨rfl,h₃⟩
  | true =>
   exact wpAny_bind (wpAny_bind (wpAny_mono h₃ (λx s₄ h₄=>wpAny_bind (wpAny_mono h₄ (λ_ s₅ h₅=>wpAny_pure (wpAny_pure ⟨rfl,h₅⟩)) λ_ _ h'=>h')) λ_ _ h'=>h'))
def qo9 (nv:Nat) (g:TG):Prop:=∀ x σ H (K:St->Hp->Prop),g x σ H K->g x σ H λσ' H'=>K σ' H'/\σ'.length=σ.length/\∀ i,nv<=i->σ'[i]?=σ[i]?
theorem qc0 {nv i:Nat} (h:i<nv):qo9 nv (qem i):=λx σ H K q=>⟨q,by simp,λj hj=>by rw[List.getElem?_set_ne (by omega)]⟩
theorem qdi {F:Frag} {nv i j:Nat} (hi:i<nv) (hj:j<nv):qo9 nv (qzx F 2 (qie (qem i) (qie (qem j) qzw))):=λx σ H K ⟨a,xs,e,hq,hl,v,r,e1,v2,r2,e2,e3,q⟩ =>
 ⟨a,xs,e,hq,hl,v,r,e1,v2,r2,e2,e3,q,by simp,λk hk=>by rw[List.getElem?_set_ne (by omega),List.getElem?_set_ne (by omega)]⟩
abbrev lobj (us:List Value) (n:Nat):Obj:={ cls:=.type "list",data:=.seq us.toArray n }
theorem qxx {Y:Cx} {D it:Addr} {J:It} {fp:List Addr} {tn:Nat->Heap->Prop} {g:TG} {tc:TT} {te:TE} {Q:VK} {W:Nat->Nat->List V->Hp->Prop} {nv n0 m0:Nat} {σc:St} {H:Hp} {s:Shared}
  {elt target iter:Expr} {ifs:List Expr} {scope:Scope} {pos:Pos} {R:Result->Shared->Prop} (hx:Y.xe=λ_ _=>False)
  (hc:Y.calm=true) (hg:PG Y target g) (hk:qo9 nv g) (hi:qzl Y ifs tc) (he:PE Y elt te) (T:Turn Y.prog Y.w Y.K target J fp it tn)
  (hnv:∀ i,i<nv->∀ v,σc[i]?≠some (some v))
  (d1:D≠Y.env.locals) (d2:D∈Y.ex) (d3:D ∉ Y.fs) (d4:∀ x c,Y.env.cells.lookup x=some c->c≠D) (d5:D ∉ fp) (d6:Y.pn=[])
  (hf:∀ b∈fp,b≠Y.env.locals/\b ∉ Y.fs/\(b∈Y.ex\/Y.s₀.heap.objs.size<=b)/\(∀ x c,Y.env.cells.lookup x=some c->c≠b))
  (I0:Inv Y [(D,lobj [] n0)] σc H s) (st:tn 0 s.heap) (fr:∀ b∈fp,H b=none) (w0:W 0 m0 [] H)
  (turn:∀ i m ys H2,W i m ys H2->(J.stop i H2/\ys.length<=sizeLine/\∀ p,H2 p=none->Q (.ref p) (upd H2 p (.lst ys))) \/
   (J.go i H2/\ys.length<sizeLine/\∃ N:List V->Hp->Prop,(∀ zs H',N zs H'->∃ m',m'<m/\W (i+1) m' zs H')/\∀ x H3,J.yld i H2 x H3->g x σc H3 λσ4 H4=>tc σ4 H4 λb H5=>if b=true then te σ4 H5 λv H6=>N (ys ++ [v]) H6 else N ys H5))
  (hend:∀ ys us n H' s',Inv Y [(D,lobj us n)] σc H' s'->Vals ys us->ys.length<=sizeLine->(∀ p,H' p=none->Q (.ref p) (upd H' p (.lst ys)))->R (.ok .next) s') :
  codeAny (model Y.prog Y.w) Y.A (.compLoop (.ListComp elt [⟨target,iter,ifs,0⟩] scope pos) 0 (.ref it) (.ref D) Y.env) R s:=by
 have fpok:∀ {H':Hp} {o:Obj},(∀ b∈fp,H' b=none)->∀ b∈fp,qnd Y [(D,o)] H' b:=fun {H' o} hn b hb=>by
  obtain ⟨f1,f2,f3,f4⟩:=hf b hb;refine ⟨hn b hb,f1,f2,f3,f4,λp hp=>?_⟩;rw[d6] at hp;have e:p=(D,o):=by simpa using hp
  rw[e];exact λz=>d5 (by rw[show D=b from z];exact hb)
 refine qo8 (λn s'=>∃ i ys us k H',Inv Y [(D,lobj us k)] σc H' s'/\Vals ys us/\tn i s'.heap/\(∀ b∈fp,H' b=none)/\W i n ys H') ?_ m0 ⟨0,[],[],n0,H,I0,.nil,st,fr,w0⟩;rintro n s3 ⟨i,ys,us,k,H3,I3,rv,st3,fr3,w3⟩;have ex0:∀ {E':Value->Shared->Prop} {e:Value} {s':Shared},Y.xe e s'->E' e s':=fun {E' e s'} z=>by rw[hx] at z;exact z.elim
 rcases turn i n ys H3 w3 with ⟨stop,hz,q⟩|⟨go,hz,N,hN,step⟩
 ·refine thn (T.done Y rfl rfl rfl hc i _ s3 σc H3 _ I3 (fpok fr3) st3 stop) λr s4 hq__=>?_
  obtain ⟨hr,I4⟩:=hq__;subst hr;exact hend ys us k H3 s4 I4 rv hz q
 ·refine thn (T.item Y rfl rfl rfl hc i _ s3 σc H3 _ I3 (fpok fr3) st3 go) λr s4 hq__=>?_
  obtain ⟨u,hr,h4⟩:=hq__;subst hr;refine thn h4 λ_ s5 hq__=>?_
  obtain ⟨x,H5,I5,r5,y5,st5,fr5⟩:=hq__;have I5':=I5.pinned (fpok fr5) (T.obj _ _ st5);refine wpAny_mono (hg _ s5 σc H5 x u _ I5' r5 (hk x σc H5 _ (step x H5 y5))) (λ_ s6 hq__=>?_) λ_ _ z=>ex0 z
  obtain ⟨σ6,H6,I6,q6,l6,e6⟩:=hq__;have wk:∀ (i:Nat) v,σc[i]?=some (some v)->σ6[i]?=some (some v):=λi v e=>by
   by_cases h:nv<=i
   ·rw[e6 i h];exact e
   ·exact absurd e (hnv i (by omega) v)
  have back:∀ {o:Obj} {H':Hp} {s':Shared},Inv Y ([(D,o)] ++ qkf fp s5.heap) σ6 H' s'->Inv Y [(D,o)] σc H' s'/\tn (i+1) s'.heap/\∀ b∈fp,H' b=none:=fun {o H' s'} I'=>by
   refine ⟨(I'.unpinned).weak (by rw[<- l6]) wk,T.keep _ _ _ st5 λb hb o e=>(I'.pin (b,o) (List.mem_append_right _ (List.mem_append_right _ (qdw hb e)))).1,λb hb=>?_⟩;obtain ⟨o,e,_⟩:=T.obj _ _ st5 b hb;exact (I'.pin (b,o) (List.mem_append_right _ (List.mem_append_right _ (qdw hb e)))).2.1
  refine wpAny_mono (hi _ s6 σ6 H6 _ I6 q6) (λb s7 hq__=>?_) λ_ _ z=>ex0 z
  obtain ⟨H7,I7,q7⟩:=hq__
  cases b with
  | false =>
   obtain ⟨m',hm,w7⟩:=hN ys H7 q7;obtain ⟨I8,st8,fr8⟩:=back I7;exact ⟨m',hm,i+1,ys,us,k,H7,I8,rv,st8,fr8,w7⟩
  | true =>
   refine wpAny_mono (he _ s7 σ6 H7 _ I7 q7) (λu2 s8 hq__=>?_) λ_ _ z=>ex0 z
   obtain ⟨v,H8,I8,r8,n8⟩:=hq__;obtain ⟨m',hm,w8⟩:=hN _ H8 n8;obtain ⟨I9,st9,fr9⟩:=back I8;obtain ⟨eD,nD,_,_,_⟩:=I9.pin (D,lobj us k) (by simp);have hlen:=rv.length;refine call_meets F.slot_list_append ⟨_,eD,rfl⟩ F.entry_list_append (F.args_list_append_2 _ _) (PySem.list_append D us.toArray k u2 (by rw[List.size_toArray];omega)) ⟨eD,?_⟩;have q:=PySem.IsL.update eD (λx_1=>x_1.push u2);have eq:us.toArray.push u2=(us ++ [u2]).toArray:=by simp
   rw[eq] at q;obtain ⟨n',q⟩:∃ n',(s8.heap.update D (Obj.mapSeq λx_1=>x_1.push u2)).get? D=some (lobj (us ++ [u2]) n'):=⟨_,q⟩;have I10:Inv Y [] σc H8 s8:=I9.pins_of λp hp=>by cases hp
   have I11:Inv Y [] σc H8 { s8 with heap:=s8.heap.update D (Obj.mapSeq λx_1=>x_1.push u2),toks:=s8.toks }:=
    I10.turned (it:=D) (λb o hb e=>(Heap.get?_update_other s8.heap (Obj.mapSeq _) (Ne.symm hb)).trans e) nD d1 (.inl d2) d4 (λp hp=>by rw[d6] at hp;cases hp)
   refine ⟨m',hm,i+1,ys ++ [v],us ++ [u2],n',H8,I11.pins_of (λp hp=>?_),rv.append (.cons r8 .nil),?_,fr9,w8⟩
   ·have e:p=(D,lobj (us ++ [u2]) n'):=by simpa using hp
    subst e;exact ⟨q,nD,d1,d3,λv z=>by have z':Data.seq _ _=Data.cell v:=z;cases z'⟩
   ·refine T.keep _ _ _ st9 λb hb o e=>?_
    exact (Heap.get?_update_other s8.heap (Obj.mapSeq _) (λz=>d5 (by rw[z];exact hb))).trans e
section
variable {X:Cx} {pins:List (Addr×Obj)} {σ:St} {H:Hp} {s:Shared} {scope:Scope} {cl:List (Str×Addr)} {vars frees:List Str} {fv:List Nat} {elt target iter:Expr} {ifs:List Expr} {pos:Pos}
def qAh (X:Cx) (pins:List (Addr×Obj)) (σ:St) (Q:VK) (D C:Addr) (s':Shared):Prop:=
 ∃ (ys:List V) (H':Hp) (oC:Obj) (m:Str->Option Value),Inv X (pins ++ [(C,oC)]) σ (upd H' D (.lst ys)) s'/\s'.heap.Ns C m/\qnd X pins (upd H' D (.lst ys)) C/\Q (.ref D) (upd H' D (.lst ys))
theorem qrb {J:It} {fp:List Addr} {it:Addr} {tn:Nat->Heap->Prop} {g:TG} {tc:TT} {te:TE} {Q:VK} {W:Nat->Nat->List V->Hp->Prop} {m0:Nat} {E:Value->Shared->Prop} {E2:Value->Addr->Value->Shared->Prop}
  (hc:X.calm=true) (L:qv0 X scope cl) (fo:FvOk X scope cl frees fv) (hk:qo9 vars.length g)
  (hg:∀ C s H ex,PG (blk X (vars ++ frees) scope cl C s H ex) target g) (hi:∀ C s H ex,qzl (blk X (vars ++ frees) scope cl C s H ex) ifs tc) (he:∀ C s H ex,PE (blk X (vars ++ frees) scope cl C s H ex) elt te)
  (I:Inv X pins σ H s) (T:Turn X.prog X.w X.K target J fp it tn) (st:tn 0 s.heap) (hf:∀ b∈fp,qnd X pins H b) (w0:W 0 m0 [] H)
  (turn:∀ i m ys H2,W i m ys H2->(J.stop i H2/\ys.length<=sizeLine/\∀ p,H2 p=none->Q (.ref p) (upd H2 p (.lst ys))) \/
   (J.go i H2/\ys.length<sizeLine/\∃ N:List V->Hp->Prop,(∀ zs H',N zs H'->∃ m',m'<m/\W (i+1) m' zs H')/\∀ x H3,J.yld i H2 x H3->g x (lcσ vars.length fv σ) H3 λσ4 H4=>tc σ4 H4 λb H5=>if b=true then te σ4 H5 λv H6=>N (ys ++ [v]) H6 else N ys H5)) :
  wpAny (model X.prog X.w) X.A (newList []) (λacc s₃=>wpAny (model X.prog X.w) X.A (newFunctionEnv scope X.env.globals cl [] X.env.qual none .none (some X.env)) (λcenv s₄ =>
   codeAny (model X.prog X.w) X.A (.compStart (.ListComp elt [⟨target,iter,ifs,0⟩] scope pos) 0 (.ref it) acc { cenv with scope:=relabel scope X.env })
    (λr s'=>match r with|.ok _=>∃ D,acc=.ref D/\qAh X pins σ Q D cenv.locals s'|.error x=>E2 acc cenv.locals x s') s₄) E s₃) E s:=by
 have hoo:∀ b∈fp,∃ o,s.heap.get? b=some o:=λb hb=>let ⟨o,e,_⟩:=T.obj 0 _ st b hb;⟨o,e⟩
 refine wpAny_newObj_type (wpAny_newFunctionEnv L.nocell (by intro y hy;simp at hy) (λh₁ hns hsb=>?_) L.kind);dsimp only at hns hsb ⊢;have hC:(s.heap.push qaj).objs.size=s.heap.objs.size+1:=Heap.size_push ..;have keep1:∀ b o,b≠(s.heap.push qaj).objs.size->(s.heap.push qaj).get? b=some o->h₁.get? b=some o:=λb o hb e=>hsb.extBut b o hb (Heap.get?_push_of_some _ e)
 have I0:Inv (blk X (vars ++ frees) scope cl (s.heap.push qaj).objs.size { s with heap:=s.heap.push qaj } H (s.heap.objs.size :: fp)) [(s.heap.objs.size,qaj)] (lcσ vars.length fv σ) H { s with heap:=h₁,toks:=s.toks+([]:List (Str×Value)).length }:=
  qxw I L fo hf hoo (by simpa using hns) keep1
 have st1:tn 0 h₁:=T.keep 0 _ _ st λb hb o e=>keep1 b o (ltS e) (Heap.get?_push_of_some _ e)
 have loop:codeAny (model X.prog X.w) X.A (.compLoop (.ListComp elt [⟨target,iter,ifs,0⟩] scope pos) 0 (.ref it) (.ref s.heap.objs.size) (compEnvC scope cl (s.heap.push qaj).objs.size X.env))
   (λr s'=>match r with|.ok _=>∃ D,Value.ref s.heap.objs.size=.ref D/\qAh X pins σ Q D (s.heap.push qaj).objs.size s'|.error x=>E2 (.ref s.heap.objs.size) (s.heap.push qaj).objs.size x s') { s with heap:=h₁,toks:=s.toks+([]:List (Str×Value)).length }:=by
  refine qxx (Y:=blk X (vars ++ frees) scope cl (s.heap.push qaj).objs.size { s with heap:=s.heap.push qaj } H (s.heap.objs.size :: fp)) (nv:=vars.length) (n0:=0) rfl hc (hg _ _ _ _) hk (hi _ _ _ _) (he _ _ _ _) T (λi hi v e=>?_)
   neS (by show s.heap.objs.size∈s.heap.objs.size :: fp;simp) ?_ (λx c e=>?_) (λz=>?_) rfl (λb hb=>?_) I0 st1 (λb hb=>(hf b hb).1) w0 turn ?_
  ·rw[show lcσ vars.length fv σ=List.replicate vars.length none ++ fv.map λj=>(σ[j]?).join from rfl,List.getElem?_append_left (by simpa using hi),List.getElem?_replicate_of_lt (by simpa using hi)] at e
   cases e
  ·exact (I0.pin (s.heap.objs.size,qaj) (by simp)).2.2.2.1
  ·obtain ⟨v,q⟩:=I.cell x c (L.sub x c e)
   exact Nat.ne_of_lt q.lt
  ·obtain ⟨o,e⟩:=hoo _ z
   exact absurd (Heap.lt_size e) (Nat.lt_irrefl _)
  ·exact ⟨(I0.ok.exf b (List.mem_cons_of_mem _ hb)).1,I0.ok.exfs b (List.mem_cons_of_mem _ hb),.inl (List.mem_cons_of_mem _ hb),(I0.ok.exf b (List.mem_cons_of_mem _ hb)).2⟩
  ·intro ys us n H' s' I' rv hz q
   obtain ⟨eD,nD,_,fD,_⟩:=I'.pin (s.heap.objs.size,lobj us n) (by simp);obtain ⟨mC,hnC,_⟩:=I'.loc;obtain ⟨oC,es,ep,eC,dC,r1,r2⟩:=id hnC;have nC:H' (s.heap.push qaj).objs.size=none:=I'.free;have neDC:(s.heap.push qaj).objs.size≠s.heap.objs.size:=neS.symm;have lt:∀ {b:Addr} {o:Obj},s.heap.get? b=some o->b≠s.heap.objs.size/\b≠(s.heap.push qaj).objs.size:=λe=>⟨neZ e,ltS e⟩
   have nex:∀ {b:Addr} {o:Obj},s.heap.get? b=some o->b ∉ fp->b ∉ s.heap.objs.size :: fp:=λe hb z=>by
    rcases List.mem_cons.mp z with z|z
    ·exact (lt e).1 z
    ·exact hb z
   have upn:∀ {b:Addr} {u:HO},H' b=some u->upd H' s.heap.objs.size (.lst ys) b=some u:=λe=>by rw[qa1 (qac e nD)];exact e
   have un:Un (frs X.stack) fp H (upd H' s.heap.objs.size (.lst ys)) s.heap s'.heap:=
    {keep:=λb o e n hb hx=>I'.base.keep b o (Heap.get?_push_of_some _ e) n hb (nex e hx)
     slot:=λb o e n hb hx=>I'.base.slot b o (Heap.get?_push_of_some _ e) n hb (nex e hx)
     free:=λb o e n hx=>by rw[qa1 (lt e).1];exact I'.base.free b o (Heap.get?_push_of_some _ e) n (nex e hx)
     there:=λb o e hx=>I'.base.there b o (Heap.get?_push_of_some _ e) (nex e hx)
     tups:=λb xs e=>upn (I'.base.tups b xs e)
     frzs:=λb o u e=>upn (I'.base.frzs b o u e)
     tbls:=λb ps e=>let ⟨more,z⟩:=I'.base.tbls b ps e;⟨more,upn z⟩ }
   have hok:HOk X.prog X.w (upd H' s.heap.objs.size (.lst ys)) s'.heap:=λb u e=>by
    by_cases hb:b=s.heap.objs.size
    ·subst hb;rw[qba] at e;cases e
     exact ⟨hz,us,n,rv,eD⟩
    ·rw[qa1 hb] at e
     exact (I'.hok b u e).stay (λc v _ z=>z) (λc z=>upn z) λc xs z=>upn z
   have J1:Inv X pins σ (upd H' s.heap.objs.size (.lst ys)) s':=I.call' (ch:=fp) I'.os un hok I'.bare λb hb=>⟨(hf b hb).2.2.2.1,(hf b hb).2.1,(hf b hb).2.2.2.2.1,(hf b hb).2.2.2.2.2⟩
   have fC:qnd X pins (upd H' s.heap.objs.size (.lst ys)) (s.heap.push qaj).objs.size:=I.fpOk leS (by rw[qa1 neDC];exact nC);refine ⟨_,rfl,ys,H',oC,mC,J1.pins_of (λp hp=>?_),hnC,fC,q _ nD⟩
   rcases List.mem_append.mp hp with z|z
   ·exact J1.pin p (List.mem_append_right _ z)
   ·have e:p=((s.heap.push qaj).objs.size,oC):=by simpa using z
    subst e;exact ⟨eC,fC.1,fC.2.1,fC.2.2.1,λv z=>by rw[dC] at z;cases z⟩
 exact codeAny_compStart_list loop (T.self _ 0 _ _ _ st1 loop)
theorem qgh {wi:TI} {g:TG} {tc:TT} {te:TE} (hc:X.calm=true) (L:qv0 X scope cl) (fo:FvOk X scope cl frees fv) (hit:PI X target iter wi) (hk:qo9 vars.length g)
  (hg:∀ C s H ex,PG (blk X (vars ++ frees) scope cl C s H ex) target g) (hi:∀ C s H ex,qzl (blk X (vars ++ frees) scope cl C s H ex) ifs tc) (he:∀ C s H ex,PE (blk X (vars ++ frees) scope cl C s H ex) elt te)
  (hs:∀ x,foldedSetIterable iter X.env x=pure x:=by intro _;rfl):PE X (.ListComp elt [⟨target,iter,ifs,0⟩] scope pos) (tLC vars.length fv wi g tc te):=by
 intro pins s σ H Q I h;rw[eval_ListComp];refine wpAny_comprehension_free (use:=none) rfl hs L.clos L.kind L.names (thn (hit pins s σ H _ I h) λv s1 h1=>thn h1 λitv s2 h2=>?_);obtain ⟨it,fp,tn,J,H2,e,I2,T,st2,f2,W,⟨m0,w0⟩,turn⟩:=h2;subst e;refine wpAny_mono (qrb (E:=X.xe) (E2:=λacc C x s'=>compPost (model X.prog X.w) X.A X.xe none (EP X pins σ Q) acc C (.error x) s') hc L fo hk hg hi he I2 T st2 f2 w0 turn) (λacc s3 h3=>thn h3 λcenv s4 h4=>codeAny_mono h4 λr s' h5=>?_) λ_ _ z=>z
 cases r with
 | error x=>exact h5
 | ok f =>
  obtain ⟨D,rfl,ys,H',oC,m,J1,hn,fC,q⟩:=h5;refine ⟨m,hn,λh' sb=>⟨.ref D,_,?_,rfl,q⟩⟩;exact J1.unpinned.turned (t':=s'.toks) (it:=cenv.locals) (λb o hb e=>(sb.2 b hb).trans e) fC.1 fC.2.1 fC.2.2.2.1 fC.2.2.2.2.1 fC.2.2.2.2.2
theorem qew {wi:TI} {g:TG} {tc:TT} {te:TE} {i:Nat} {x:Str} {spos pos':Pos} (hN:X.N.Nodup) (hix:X.N[i]?=some x) (hlx:Loc X.env.scope x) (hc:X.calm=true) (L:qv0 X scope cl) (fo:FvOk X scope cl frees fv) (hit:PI X target iter wi) (hk:qo9 vars.length g)
  (hg:∀ C s H ex,PG (blk X (vars ++ frees) scope cl C s H ex) target g) (hi:∀ C s H ex,qzl (blk X (vars ++ frees) scope cl C s H ex) ifs tc) (he:∀ C s H ex,PE (blk X (vars ++ frees) scope cl C s H ex) elt te)
  (hsw:swapsWith (.ListComp elt [⟨target,iter,ifs,0⟩] scope pos) (some (.Name x pos')) spos.line X.env=pure true:=by rfl)
  (hs:∀ x,foldedSetIterable iter X.env x=pure x:=by intro _;rfl) (hf:X.fn x=true\/X.env.scope.names.lookup x=some .local:=by first|exact .inl rfl|exact .inr rfl|assumption) :
  PS X (.Assign [.Name x pos'] (.ListComp elt [⟨target,iter,ifs,0⟩] scope pos) spos) (qzy (tLC vars.length fv wi g tc te) (qem i)):=by
 intro pins s σ H Dn I h;rw[exec_Assign_Name_used _ _ _ _ hsw];refine wpAny_bind (wpAny_standAt (wpAny_bind ?_))
 show wpAny _ X.A (do let _ <- comprehension (.ListComp elt [⟨target,iter,ifs,0⟩] scope pos) scope X.env _ (newList []) false (eval iter X.env) (some (assign (.Name x pos') X.env))) _ _ s
 refine wpAny_bind (wpAny_mono (wpAny_comprehension_free (use:=some (assign (.Name x pos') X.env)) (Q:=λ_ s'=>SP X pins Dn .next s') rfl hs L.clos L.kind L.names (thn (hit pins s σ H _ I h) λv s1 h1=>thn h1 λitv s2 h2=>?_)) (λ_ s' hq=>wpAny_pure (wpAny_pure hq)) λ_ _ e=>e);obtain ⟨it,fp,tn,J,H2,e,I2,T,st2,f2,W,⟨m0,w0⟩,turn⟩:=h2;subst e;refine wpAny_mono (qrb (Q:=λx H1=>qem i x σ H1 Dn.nx) (E:=X.xe) (E2:=λacc C y s'=>compPost (model X.prog X.w) X.A X.xe (some (assign (.Name x pos') X.env)) (λ_ s'=>SP X pins Dn .next s') acc C (.error y) s') hc L fo hk hg hi he I2 T st2 f2 w0 turn) (λacc s3 h3=>thn h3 λcenv s4 h4=>codeAny_mono h4 λr s' h5=>?_) λ_ _ z=>z
 cases r with
 | error y=>exact h5
 | ok f =>
  obtain ⟨D,rfl,ys,H',oC,m,J1,hn,fC,q⟩:=h5
  show wpAny (model X.prog X.w) X.A (assign (.Name x pos') X.env (.ref D)) (λ_ s''=>∃ m,s''.heap.Ns cenv.locals m/\∀ h',Heap.SameBut cenv.locals s''.heap h'->SP X pins Dn .next { s'' with heap:=h' }) X.xe s'
  refine thn (qja (i:=i) hN hix hlx hf _ s' σ _ (.ref D) (.ref D) (λσ' H''=>Dn.nx σ' H''/\H''=upd H' D (.lst ys)) J1 rfl ⟨q,rfl⟩) λ_ s6 hq__=>?_
  obtain ⟨σ6,H6,I6,q6,e6⟩:=hq__;subst e6;have eC:=(I6.pin (cenv.locals,oC) (by simp)).1;have eC':=(J1.pin (cenv.locals,oC) (by simp)).1;obtain ⟨o,es,ep,ho,r1⟩:=hn;rw[eC'] at ho;cases ho;refine ⟨m,⟨oC,es,ep,eC,r1⟩,λh' sb=>⟨σ6,_,?_,q6⟩⟩;exact I6.unpinned.turned (t':=s6.toks) (it:=cenv.locals) (λb o hb e=>(sb.2 b hb).trans e) fC.1 fC.2.1 fC.2.2.2.1 fC.2.2.2.2.1 fC.2.2.2.2.2
end
open PySem PySem.Spec PyProof.Rows
theorem qrc {K:Frag} {a:Addr} {xs:List V} {g:TG} {tc:TT} {te:TE} {Q:VK} {σ:St} {H:Hp} (Pv:Nat->List V->Hp->Prop) (hz:xs.length<=sizeLine) (h0:Pv 0 [] H) (hl:∀ i ys H,Pv i ys H->SqL K H a xs/\ys.length<=i)
  (hs:∀ i x ys H,xs[i]?=some x->Pv i ys H->g x σ H λσ4 H4=>tc σ4 H4 λb H5=>if b=true then te σ4 H5 λv H6=>Pv (i+1) (ys ++ [v]) H6 else Pv (i+1) ys H5)
  (hd:∀ ys H p,Pv xs.length ys H->H p=none->Q (.ref p) (upd H p (.lst ys))) :
  qd5 (Itl K a) Q g tc te σ H:=by
 refine ⟨λi m ys H=>m=xs.length-i/\i<=xs.length/\Pv i ys H,⟨xs.length,by simp,Nat.zero_le _,h0⟩,?_⟩;rintro i m ys H2 ⟨rfl,hi,p⟩;obtain ⟨q,hy⟩:=hl i ys H2 p
 by_cases hlt:i<xs.length
 ·refine .inr ⟨⟨xs,xs[i],q,by simp[hlt]⟩,by omega,Pv (i+1),λzs H' p'=>⟨xs.length-(i+1),by omega,rfl,hlt,p'⟩,λx H3 y=>?_⟩
  obtain ⟨e,y⟩:=y;subst e;exact hs i x ys _ (y xs q) p
 ·have e:i=xs.length:=by omega
  subst e;exact .inl ⟨⟨xs,q,Nat.le_refl _⟩,by omega,λp' hp'=>hd ys H2 p' p hp'⟩
theorem qAi {K:Frag} {a:Addr} {xs:List V} {g:TG} {tc:TT} {te:TE} {Q:VK} {σ:St} {H:Hp} (Pv:Nat->List V->Hp->Prop) (hz:xs.length<=sizeLine) (h0:Pv 0 [] H) (hl:∀ i ys H,Pv i ys H->SqT K H a xs/\ys.length<=i)
  (hs:∀ i x ys H,xs[i]?=some x->Pv i ys H->g x σ H λσ4 H4=>tc σ4 H4 λb H5=>if b=true then te σ4 H5 λv H6=>Pv (i+1) (ys ++ [v]) H6 else Pv (i+1) ys H5)
  (hd:∀ ys H p,Pv xs.length ys H->H p=none->Q (.ref p) (upd H p (.lst ys))) :
  qd5 (Itt K a) Q g tc te σ H:=by
 refine ⟨λi m ys H=>m=xs.length-i/\i<=xs.length/\Pv i ys H,⟨xs.length,by simp,Nat.zero_le _,h0⟩,?_⟩;rintro i m ys H2 ⟨rfl,hi,p⟩;obtain ⟨q,hy⟩:=hl i ys H2 p
 by_cases hlt:i<xs.length
 ·refine .inr ⟨⟨xs,xs[i],q,by simp[hlt]⟩,by omega,Pv (i+1),λzs H' p'=>⟨xs.length-(i+1),by omega,rfl,hlt,p'⟩,λx H3 y=>?_⟩
  obtain ⟨e,y⟩:=y;subst e;exact hs i x ys _ (y xs q) p
 ·have e:i=xs.length:=by omega
  subst e;exact .inl ⟨⟨xs,q,Nat.le_refl _⟩,by omega,λp' hp'=>hd ys H2 p' p hp'⟩
theorem qul {lo:Int} {n:Nat} {g:TG} {tc:TT} {te:TE} {Q:VK} {σ:St} {H:Hp} (Pv:Nat->List V->Hp->Prop) (hz:n<=sizeLine) (h0:Pv 0 [] H) (hl:∀ i ys H,Pv i ys H->ys.length<=i)
  (hs:∀ i ys H,i<n->Pv i ys H->g (.int (lo+i)) σ H λσ4 H4=>tc σ4 H4 λb H5=>if b=true then te σ4 H5 λv H6=>Pv (i+1) (ys ++ [v]) H6 else Pv (i+1) ys H5)
  (hd:∀ ys H p,Pv n ys H->H p=none->Q (.ref p) (upd H p (.lst ys))) :
  qd5 (Itr lo n) Q g tc te σ H:=by
 refine ⟨λi m ys H=>m=n-i/\i<=n/\Pv i ys H,⟨n,by simp,Nat.zero_le _,h0⟩,?_⟩;rintro i m ys H2 ⟨rfl,hi,p⟩;have hy:=hl i ys H2 p
 by_cases hlt:i<n
 ·refine .inr ⟨hlt,by omega,Pv (i+1),λzs H' p'=>⟨n-(i+1),by omega,rfl,hlt,p'⟩,λx H3 y=>?_⟩
  obtain ⟨e,y⟩:=y;subst e y;exact hs i ys _ hlt p
 ·have e:i=n:=by omega
  subst e;exact .inl ⟨Nat.le_refl _,by omega,λp' hp'=>hd ys H2 p' p hp'⟩
theorem qv1 {K:Frag} {a b:Addr} {xs ys:List V} {g:TG} {tc:TT} {te:TE} {Q:VK} {σ:St} {H:Hp} (Pv:Nat->List V->Hp->Prop) (hz:xs.length<=sizeLine) (h0:Pv 0 [] H) (hl:∀ i zs H,Pv i zs H->SqL K H a xs/\SqL K H b ys/\zs.length<=i)
  (hs:∀ i x y zs H p,xs[i]?=some x->ys[i]?=some y->H p=none->Pv i zs H->g (.ref p) σ (upd H p (.tup [x,y])) λσ4 H4=>tc σ4 H4 λb H5=>if b=true then te σ4 H5 λv H6=>Pv (i+1) (zs ++ [v]) H6 else Pv (i+1) zs H5)
  (hd:∀ i zs H p,i=min xs.length ys.length->Pv i zs H->H p=none->Q (.ref p) (upd H p (.lst zs))) :
  qd5 (Itz K a b) Q g tc te σ H:=by
 refine ⟨λi m zs H=>m=min xs.length ys.length-i/\i<=min xs.length ys.length/\Pv i zs H,⟨min xs.length ys.length,by simp,Nat.zero_le _,h0⟩,?_⟩;rintro i m zs H2 ⟨rfl,hi,p⟩;obtain ⟨qa,qb,hy⟩:=hl i zs H2 p
 by_cases hlt:i<min xs.length ys.length
 ·have ha:i<xs.length:=by omega
  have hb:i<ys.length:=by omega
  refine .inr ⟨⟨xs,ys,xs[i],ys[i],qa,qb,by simp[ha],by simp[hb]⟩,by omega,Pv (i+1),λzs H' p'=>⟨min xs.length ys.length-(i+1),by omega,rfl,hlt,p'⟩,λx H3 y=>?_⟩;obtain ⟨t,rfl,ht,y⟩:=y;have ea:xs[i]?=some xs[i]:=by simp[ha]
  have eb:ys[i]?=some ys[i]:=by simp[hb]
  rw[y xs ys xs[i] ys[i] qa qb ea eb];exact hs i xs[i] ys[i] zs H2 t ea eb ht p
 ·exact .inl ⟨⟨xs,ys,qa,qb,by omega⟩,by omega,λp' hp'=>hd i zs H2 p' (by omega) p hp'⟩
open PySem PySem.Spec PyProof.Rows
structure New (H H':Hp) (p:Addr) (o:HO):Prop where
 same:Same H H'
 fresh:H p=none
 at_:H' p=some o
theorem qa0 {H:Hp} {p:Addr} {o:HO} (h:H p=none):New H (upd H p o) p o:=⟨qjh h,h,qba⟩
def But (l:Addr) (H H':Hp):Prop:=∀ b o,H b=some o->b≠l->H' b=some o
theorem qb2 {H:Hp} {l:Addr} {o:HO}:But l H (upd H l o):=λb u e n=>by rw[qa1 n];exact e
theorem But.same {H0 H H':Hp} {l:Addr} (b:But l H H') (s:Same H0 H) (h:H0 l=none):Same H0 H':=λc o e=>b c o (s c o e) (qac e h)
theorem But.tup {H H':Hp} {l:Addr} {o:HO} (b:But l H H') (h:H l=some o) (n:∀ xs,o≠.tup xs):∀ c xs,H c=some (.tup xs)->H' c=some (.tup xs):=λc xs e=>b c _ e (qap e h (λz=>n xs z.symm))
section
variable {X:Cx} {e:Expr} {es:List Expr} {te:TE} {t:TA} {pos:Pos}
def qC5 (t:TA):TE:=λσ H Q=>t σ H λxs H1=>xs.length<=sizeLine/\∀ p H',New H1 H' p (.tup xs)->Q (.ref p) H'
def qAj (t:TA):TE:=λσ H Q=>t σ H λxs H1=>xs.length<=sizeLine/\∀ p H',New H1 H' p (.lst xs)->Q (.ref p) H'
theorem qbn {x1} (h:PA X es t):PE X (.Tuple es x1 pos) (qC5 t):=by
 intro pins s σ H Q I hq;refine wpAny_Tuple_spliced (thn (h pos pins s σ H _ I hq) λus s1 ⟨xs,H1,I1,r,z,q⟩=>⟨by rw[<- r.length];exact z,?_⟩);have hf:H1 s1.heap.objs.size=none:=I1.hok.fresh (Nat.le_refl _);refine ⟨.ref s1.heap.objs.size,upd H1 s1.heap.objs.size (.tup xs),I1.laid (t':=s1.toks) (λb u e=>Heap.get?_push_of_some _ e) (Nat.le_refl _) ?_,rfl,q _ _ (qa0 hf)⟩;exact ⟨z,us,r,⟨_,Heap.get?_push_size _ rfl,rfl,_,rfl⟩⟩
theorem qc1 (h:PA X es t):PE X (.List es pos) (qAj t):=by
 intro pins s σ H Q I hq;refine wpAny_List_spliced (thn (h pos pins s σ H _ I hq) λus s1 ⟨xs,H1,I1,r,z,q⟩=>⟨by rw[<- r.length];exact z,?_⟩);have hf:H1 s1.heap.objs.size=none:=I1.hok.fresh (Nat.le_refl _);refine ⟨.ref s1.heap.objs.size,upd H1 s1.heap.objs.size (.lst xs),I1.laid (t':=s1.toks) (λb u e=>Heap.get?_push_of_some _ e) (Nat.le_refl _) ?_,rfl,q _ _ (qa0 hf)⟩;exact ⟨z,us,0,r,Heap.get?_push_size _ rfl⟩
theorem CallR.imp {f:Value} {r r':List V->Hp->VK->Prop} (h:CallR X f r) (i:∀ xs H Q,r' xs H Q->r xs H Q):CallR X f r':=λpins s σ H xs us Q I v q=>h pins s σ H xs us Q I v (i xs H Q q)
theorem OpR.imp {f:Value->Value->Sem Value} {r r':R2} (h:OpR X f r) (i:∀ x y H Q,r' x y H Q->r x y H Q):OpR X f r':=λpins s σ H x y v u Q I rx ry q=>h pins s σ H x y v u Q I rx ry (i x y H Q q)
theorem MtM.imp {id:String} {r r':V->List V->Hp->VK->Prop} (h:MtM X id r) (i:∀ x xs H Q,r' x xs H Q->r x xs H Q):MtM X id r':=λpins s σ H x xs v us Q I rx rv q=>h pins s σ H x xs v us Q I rx rv (i x xs H Q q)
theorem qci:CallR X (.type "list") (λxs H Q=>∃ p ys,xs=[.ref p]/\(SqL X.K H p ys\/SqT X.K H p ys)/\∀ l H',New H H' l (.lst ys)->Q (.ref l) H'):=
 call_list_of.imp λ_ _ _ ⟨p,ys,e,h,q⟩=>⟨p,ys,e,h,λl hl=>q l _ (qa0 hl)⟩
inductive rSlLNS (K:Frag) (x:V) (lo hi:Option Int) (H:Hp) (Q:VK):Prop
 | mk:∀ a xs,x=.ref a->SqL K H a xs->(∀ p H',New H H' p (.lst (qkm xs lo hi))->Q (.ref p) H')->rSlLNS K x lo hi H Q
def qC6 (K:Frag):V->Option Int->Option Int->Hp->VK->Prop:=λx lo hi H Q=>rSlLNS K x lo hi H Q
theorem qji:SlR X (qC6 X.K):=λpins s σ H x v vl vu lo hi sl Q I rx hs p1 p2 ⟨a,xs,e,h,q⟩=>qxm pins s σ H x v vl vu lo hi sl Q I rx hs p1 p2 ⟨a,xs,e,h,λp hp=>q p _ (qa0 hp)⟩
inductive qv2  (x y:V) (H:Hp) (Q:VK):Prop
 | mk:∀ l b xs zs,x=.ref l->y=.ref b->H l=some (.lst xs)->H b=some (.lst zs)->xs.length+zs.length<=sizeLine->(∀ p H',New H H' p (.lst (xs ++ zs))->Q (.ref p) H')->qv2 x y H Q
def qC7:R2:=λx y H Q=>qv2 x y H Q
theorem qmw:OpR X (binaryOp .Add) qC7:=op_cat.imp λ_ _ _ _ ⟨l,b,xs,zs,e1,e2,h1,h2,z,q⟩=>⟨l,b,xs,zs,e1,e2,h1,h2,z,λp hp=>q p _ (qa0 hp)⟩
inductive rAppendNS  (x:V) (vs:List V) (H:Hp) (Q:VK):Prop
 | mk:∀ l xs y,x=.ref l->vs=[y]->H l=some (.lst xs)->xs.length<sizeLine->(∀ H',But l H H'->H' l=some (.lst (xs ++ [y]))->Q .non H')->rAppendNS x vs H Q
def qum:V->List V->Hp->VK->Prop:=λx vs H Q=>rAppendNS x vs H Q
theorem qpa:MtM X "list.append" qum:=mt_append.imp λ_ _ _ _ ⟨l,xs,y,e1,e2,h,z,q⟩=>⟨l,xs,y,e1,e2,h,z,q _ qb2 qba⟩
end
section
variable {X:Cx} {k:Nat} {C:Addr} {ps:List Str} {sp:Sp} {dvs:List V} {ds:List Value} {x f:Str} {p pos pos':Pos} {e o value:Expr} {es:List Expr} {ta tv:TE} {t:TA}
def qAk (C:Addr) (sp:Sp) (dvs:List V) (E:XK) (t:TA):TE:=λσ H Q=>t σ H λvs H1=>∀ x dx H',Same H1 H'->H1 x=none->H' x=some (.ins C dx [])->sp (.ref x :: (vs ++ dvs)) H' (λv H2=>v=.non/\Q (.ref x) H2) E
theorem qkt (D:qCf X.prog X.w X.K X.mg X.base C k x ps ds sp) (hr:Room (k+1) X.A) (hg:Gl X x) (hd:Vals dvs ds) (ha:PA X (e :: es) t) (hdb:(x == ("__debug__" : Str))=false:=by decide)
  (he:starEach (e :: es) X.env=(false,eval e X.env) :: starEach es X.env:=by rfl) (hpl:(backTo pos (starEach es X.env)).any (·.1)=false:=by rfl):PE X (.Call (.Name x p) (e :: es) [] pos) (qAk C sp dvs E0 t):=by
 obtain ⟨f,fd,F,hm,M,hb⟩:=D;intro pins s σ H Q I h;refine wpAny_Call_Name_kw (qgs I hg hm ?_ hdb);refine PySem.W.callWith_K (h₀:=X.base) I.ok.mod.kin M.kp (thn (ha pos pins s σ H _ I h) λus s1 ⟨vs,H1,I1,r,q⟩=>⟨I1.kIn,?_⟩) he hpl;refine qt8 M F hr hb hd qui I1 r λy dx h1 h2 h3=>q y dx _ ?_ h1 qba
 exact (qjh h2).trans (qjh (by rw[qa1 h3.symm];exact h1))
def qC8 (K:Frag) (ta tv:TE) (f:Str):TS:=λD σ H=>tv σ H λy H1=>ta σ H1 λx H2=>∃ a C dx fs,x=.ref a/\H2 a=some (.ins C dx fs)/\Cls K C/\NoAttr K C f/\fs.length<1000 /\
 ∀ H',But a H2 H'->H' a=some (.ins C dx (qek f y fs))->D.nx σ H'
theorem qby (ha:PE X o ta) (hv:PE X value tv) (hs:swapsWith value (some (.Attribute o f pos')) pos.line X.env=pure false):PS X (.Assign [.Attribute o f pos'] value pos) (qC8 X.K ta tv f):=by
 intro pins s σ H D I h;refine plainObj_wpAny_Assign_Attribute (thn (hv pins s σ H _ I h) λu s1 ⟨y,H1,I1,ry,q⟩=>thn (ha pins s1 σ H1 _ I1 q) λov s2 hq__=>?_) hs;obtain ⟨x,H2,I2,rx,a,C,dx,fs,ex,ea,c,n,l,q2⟩:=hq__;subst ex;obtain rfl:ov=Value.ref a:=rx;exact qo1 I2 ea c n l ry λs3 I3=>⟨σ,_,I3,q2 _ qb2 qba⟩
end
theorem qun {K:Frag} {a b:Addr} {xs ys:List V} {g:TG} {tb:TS} {D:Ends} {σ:St} {H:Hp} (Pv:Nat->St->Hp->Prop) (h0:Pv 0 σ H) (hl:∀ i σ H,Pv i σ H->SqL K H a xs/\SqL K H b ys)
  (hs:∀ i x y σ H p H',xs[i]?=some x->ys[i]?=some y->New H H' p (.tup [x,y])->Pv i σ H->g (.ref p) σ H' λσ2 H2=>tb { D with nx:=Pv (i+1),ct:=Pv (i+1),bk:=D.nx } σ2 H2)
  (hd:∀ i σ H,i=min xs.length ys.length->Pv i σ H->D.nx σ H) :
  ∃ W:Nat->Nat->St->Hp->Prop,(∃ m,W 0 m σ H)/\∀ i m σ H,W i m σ H ->
   ((Itz K a b).stop i H/\D.nx σ H)\/((Itz K a b).go i H/\∃ N:St->Hp->Prop,(∀ σ' H',N σ' H'->∃ m',m'<m/\W (i+1) m' σ' H')/\∀ x H',(Itz K a b).yld i H x H'->g x σ H' λσ2 H2=>tb { D with nx:=N,ct:=N,bk:=D.nx } σ2 H2):=
 qxu Pv h0 hl (λi x y σ H p e1 e2 hn p'=>hs i x y σ H p _ e1 e2 (qa0 hn) p') hd
theorem qC9 {X:Cx} {scope:Scope} {cl:List (Str×Addr)} (clos:closureFor scope X.env=pure cl) (kind:scope.kind=.function) (nocell:∀ y∈scope.names,y.2≠.cell)
  (names:∀ y∈scope.names,y.2=.local->scope.names.lookup y.1=some .local) (sub:∀ p∈cl,X.env.cells.lookup p.1=some p.2)
  (has:((relabel scope X.env).names.all λy=>(y.2 != .cell && y.2 != .free) || (cl.lookup y.1).isSome)=true):qv0 X scope cl:=by
 refine ⟨clos,kind,nocell,names,λx c e=>?_,λx h=>?_⟩
 ·have:∀ l:List (Str×Addr),l.lookup x=some c->(x,c)∈l:=λl=>by
   induction l with
   | nil=>intro z;simp at z
   | cons p r ih =>
    intro z;obtain ⟨y,d⟩:=p;rw[List.lookup_cons] at z
    by_cases q:(x == y)=true
    ·rw[q] at z
     have e1:x=y:=by simpa using q
     have e2:d=c:=Option.some.inj z;subst e1 e2;exact List.mem_cons_self
    ·have q':(x == y)=false:=by simpa using q
     rw[q'] at z;exact List.mem_cons_of_mem _ (ih z)
  exact sub (x,c) (this cl e)
 ·have:∀ (l:List (Str×NameKind)) (k:NameKind),l.lookup x=some k->(x,k)∈l:=λl k=>by
   induction l with
   | nil=>intro z;simp at z
   | cons p r ih =>
    intro z;obtain ⟨y,d⟩:=p;rw[List.lookup_cons] at z
    by_cases q:(x == y)=true
    ·rw[q] at z
     have e1:x=y:=by simpa using q
     have e2:d=k:=Option.some.inj z;subst e1 e2;exact List.mem_cons_self
    ·have q':(x == y)=false:=by simpa using q
     rw[q'] at z;exact List.mem_cons_of_mem _ (ih z)
  rw[List.all_eq_true] at has
  cases e:cl.lookup x with
  | some c=>exact ⟨c,rfl⟩
  | none =>
   rcases h with h|h
   ·have:=has _ (this _ _ h)
    rw[e] at this
    simp at this
   ·have:=has _ (this _ _ h)
    rw[e] at this
    simp at this
open PySem PySem.Spec PyProof.Rows
section
variable {X:Cx}
theorem qex (hc:X.calm=true):CallR X (.builtin "sum") (λxs H Q=>∃ (p:Addr) (ns:List Int),xs=[.ref p]/\SqL X.K H p (ns.map V.int)/\Q (.int ns.sum) H):=by
 intro pins s σ H xs us Q I r h;obtain ⟨p,ns,rfl,hq,q⟩:=h;obtain ⟨u,rfl,ru⟩:=vals1 r
 cases (show u=Value.ref p from ru)
 obtain ⟨its,rv,pl,hz⟩:=I.list hq;have hi:IntsAre its ns:=L2.intsAre_of rv;have hn:=hi.numsOf;obtain ⟨ys,e⟩:=hi.allInts.items;have hl:=pl.isList;rw[e] at hl;refine sum_intListG (I.ok.hd hc) hl λh' tk t' hk=>⟨.int ns.sum,H,I.kept hk,⟨t',?_⟩,q⟩
 have e3:its=(intItems ys).toList:=by rw[<- e]
 rw[e3,nums_intItems] at hn;rw[preSum_eq,List.take_of_length_le (by simp),hn]
end
open PySem PySem.Spec PyProof.Rows
def FlT (h:Heap) (e T:Addr) (cls:Value) (dd:Option Addr) (fl:Value):Prop:=
 ∃ oe vs oT ts,h.get? e=some oe/\oe.cls=cls/\oe.dict=dd/\oe.data=.fields vs/\vs[1]?=some (.ref T)/\T≠e/\h.get? T=some oT/\oT.data=.fields ts/\ts[3]?=some fl
def Fl0 (h:Heap) (e:Addr) (cls:Value) (dd:Option Addr):Prop:=
 ∃ oe vs,h.get? e=some oe/\oe.cls=cls/\oe.dict=dd/\oe.data=.fields vs/\vs[1]?=some .none
def FpX (X:Cx) (H:Hp) (b:Addr):Prop:=
 H b=none/\b≠X.env.locals/\b ∉ X.fs/\X.s₀.heap.get? b=none/\(∀ x c,X.env.cells.lookup x=some c->c≠b)/\∀ p∈X.pn,p.1≠b
def Fly (X:Cx) (H:Hp) (h:Heap) (e:Addr) (cls:Value) (dd:Option Addr):Prop:=
 FpX X H e/\(Fl0 h e cls dd\/∃ T fl,FpX X H T/\FlT h e T cls dd fl)
abbrev XW:=Value->Option Addr->St->Hp->Prop
def XE (X:Cx) (W:XW) (ev:Value) (s:Shared):Prop:=
 ∃ e cls dd σ H,ev=.ref e/\Inv X [] σ H s/\Fly X H s.heap e cls dd/\W cls dd σ H
def qg7 (X:Cx):Prop:=X.stack=X.env :: X.outer/\X.env.frame=some X.env.locals/\X.ex=[]
section
variable {X:Cx} {σ:St} {H:Hp} {s:Shared} {h':Heap} {M:Model} {A:Around} {E:Value->Shared->Prop} {e T:Addr} {cls fl:Value} {dd:Option Addr}
theorem ObjOk.there {P:Program} {w:World} {H:Hp} {h:Heap} {a:Addr} {o:HO} (x:ObjOk P w H h a o):∃ u,h.get? a=some u:=by
 induction o with
 | lst xs=>obtain ⟨_,_,_,_,e⟩:=x;exact ⟨_,e⟩
 | tup xs=>obtain ⟨_,_,_,u,e,_⟩:=x;exact ⟨u,e⟩
 | dK kvs=>obtain ⟨_,_,_,_,u,_,_,e,_⟩:=x;exact ⟨u,e⟩
 | dT kvs=>obtain ⟨_,_,_,_,u,_,_,e,_⟩:=x;exact ⟨u,e⟩
 | set S n=>obtain ⟨u,_,_,_,e,_⟩:=x;exact ⟨u,e⟩
 | ins C dx fs=>obtain ⟨_,_,_,e,_⟩:=x;exact ⟨_,e⟩
 | own y=>exact x
 | xd fs=>obtain ⟨_,⟨u,_,_,e,_⟩,_⟩:=x;exact ⟨u,e⟩
 | met f y=>exact ⟨_,x⟩
 | rng lo hi=>obtain ⟨_,_,_,e⟩:=x;exact ⟨_,e⟩
 | frz u v _=>obtain ⟨e,_⟩:=x;exact ⟨_,e⟩
 | tbl ps=>exact ⟨_,x⟩
 | ext φ=>exact x.2.1
theorem Inv.fpX {H':Hp} {pins:List (Addr×Obj)} (hs:qg7 X) (I:Inv X pins σ H s) (hb:s.heap.get? e=none) (hn:H' e=none):FpX X H' e:=by
 refine ⟨hn,λz=>?_,λz=>?_,?_,λx c q z=>?_,λp hp z=>?_⟩
 ·obtain ⟨m,⟨o,_,_,ho,_⟩,_⟩:=I.loc
  rw[<- z,hb] at ho;cases ho
 ·obtain ⟨_,o,ho,_⟩:=I.funs.mem z
  rw[hb] at ho;cases ho
 ·cases q:X.s₀.heap.get? e with
  | none=>rfl
  | some o =>
   obtain ⟨o',ho'⟩:=I.base.there e o q (by rw[hs.2.2];simp);rw[hb] at ho';cases ho'
 ·obtain ⟨v,o,ho,_⟩:=I.cell x c q
  rw[z,hb] at ho;cases ho
 ·have:=(I.pin p (List.mem_append_left _ hp)).1
  rw[z,hb] at this;cases this
theorem Inv.noneOf {pins:List (Addr×Obj)} (I:Inv X pins σ H s) (hb:s.heap.get? e=none):H e=none:=by
 cases q:H e with
 | none=>rfl
 | some o =>
  obtain ⟨u,hu⟩:=(I.hok e o q).there;rw[hb] at hu;cases hu
theorem Inv.turnR {H':Hp} {t':Nat} {ch:List Addr} (I:Inv X [] σ H s) (hf:∀ b∈ch,FpX X H b) (k:∀ b u,b ∉ ch->b ∉ frs X.stack->s.heap.get? b=some u->h'.get? b=some u)
  (k2:∀ b u,b ∉ ch->s.heap.get? b=some u->∃ sl,h'.get? b=some { u with slots:=sl }) (hH:∀ b,b ∉ ch->H' b=H b) (hok:HOk X.prog X.w H' h'):Inv X [] σ H' { s with heap:=h',toks:=t' }:=by
 have sup:∀ b o,H b=some o->H' b=some o:=λb o q=>by rw[hH b (λz=>by rw[(hf b z).1] at q;cases q)];exact q
 have nosl:∀ b,b≠X.env.locals->b ∉ X.fs->b ∉ frs X.stack:=λb h1 h2 z=>(List.mem_cons.mp (I.stkSub b z)).elim h1 h2
 have neL:∀ b o,X.s₀.heap.get? b=some o->b≠X.env.locals:=λb o q=>Nat.ne_of_lt (Nat.lt_of_lt_of_le (Heap.lt_size q) I.ok.above)
 have neC:∀ b o,X.s₀.heap.get? b=some o->b ∉ ch:=λb o q hb=>by rw[(hf b hb).2.2.2.1] at q;cases q
 have cellK:∀ x c,X.env.cells.lookup x=some c->∀ v,s.heap.IsCell c v->h'.IsCell c v:=λx c q v ⟨o,ho,hd⟩=>by
  obtain ⟨sl,q'⟩:=k2 c o (λz=>(hf c z).2.2.2.2.1 x c q rfl) ho;exact ⟨_,q',hd⟩
 refine ⟨I.ok,I.os,I.bare,⟨λb o q n hb hx=>?_,λb o q n hb hx=>?_,λb o q n hx=>?_,λb o q hx=>?_,λb xs q=>sup _ _ (I.base.tups b xs q),λb o xs q=>sup _ _ (I.base.frzs b o xs q),λb ps q=>?_⟩,?_,λx c q=>?_,?_,λx c q=>?_,λp hp=>?_,hok,I.len⟩
 ·exact k b o (neC b o q) (nosl b (neL b o q) hb) (I.base.keep b o q n hb hx)
 ·obtain ⟨sl,e1⟩:=I.base.slot b o q n hb hx
  obtain ⟨sl',e2⟩:=k2 b _ (neC b o q) e1;exact ⟨sl',e2⟩
 ·rw[hH b (neC b o q)]
  exact I.base.free b o q n hx
 ·obtain ⟨o',e1⟩:=I.base.there b o q hx
  obtain ⟨sl',e2⟩:=k2 b _ (neC b o q) e1;exact ⟨_,e2⟩
 ·obtain ⟨m1,e1⟩:=I.base.tbls b ps q
  exact ⟨m1,sup _ _ e1⟩
 ·obtain ⟨m,hn,hl⟩:=I.loc
  refine ⟨m,?_,λi x v e1 e2 e3=>?_⟩
  ·obtain ⟨o,es,ep,ho,r⟩:=hn
   obtain ⟨sl,q⟩:=k2 _ o (λz=>(hf _ z).2.1 rfl) ho;exact ⟨_,es,ep,q,r⟩
  ·obtain ⟨u,r,l⟩:=hl i x v e1 e2 e3
   refine ⟨u,r,?_⟩
   rcases l with l|⟨kk,c,q,z⟩
   ·exact .inl l
   ·exact .inr ⟨kk,c,q,cellK x c q _ z⟩
 ·obtain ⟨v,z⟩:=I.cell x c q
  exact ⟨v,cellK x c q v z⟩
 ·rw[hH _ (λz=>(hf _ z).2.1 rfl)];exact I.free
 ·rw[hH _ (λz=>(hf _ z).2.2.2.2.1 x c q rfl)];exact I.freeC x c q
 ·obtain ⟨q,n,ne,nf,d⟩:=I.pin p hp
  have hp':p∈X.pn:=by
   have:p∈X.pn ++ ([]:List (Addr×Obj)):=hp
   simpa using this
  have nch:p.1 ∉ ch:=λz=>(hf p.1 z).2.2.2.2.2 p hp' rfl
  exact ⟨k p.1 p.2 nch (nosl p.1 ne nf) q,by rw[hH _ nch];exact n,ne,nf,d⟩
theorem Inv.turnS {t':Nat} {ch:List Addr} (I:Inv X [] σ H s) (hf:∀ b∈ch,FpX X H b) (k:∀ b u,b ∉ ch->b ∉ frs X.stack->s.heap.get? b=some u->h'.get? b=some u)
  (k2:∀ b u,b ∉ ch->s.heap.get? b=some u->∃ sl,h'.get? b=some { u with slots:=sl }):Inv X [] σ H { s with heap:=h',toks:=t' }:=by
 have nch:∀ b u,H b=some u->b ∉ ch:=λb u e z=>by rw[(hf b z).1] at e;cases e
 have nst:∀ b u,H b=some u->b ∉ frs X.stack:=λb u e z=>by rw[I.stkFree b z] at e;cases e
 refine I.turnR hf k k2 (λ_ _=>rfl) λb u e=>?_
 refine (I.hok b u e).stay (λc v hc q=>?_) (λ_ q=>q) λ_ _ q=>q
 rcases hc with z|z
 ·subst z;exact k _ v (nch _ u e) (nst _ u e) q
 ·exact k c v (nch c _ z) (nst c _ z) q
theorem qnn {oe:Obj} {vs:Array Value} {head:Value} {hadNext:Bool} {Q:Unit->Shared->Prop} (hs:qg7 X) (hA:A.frames=some X.stack) (I:Inv X [] σ H s) (hp:FpX X H e)
  (he:s.heap.get? e=some oe) (hc:oe.cls=cls) (hdd:oe.dict=dd) (hd:oe.data=.fields vs) (hsz:1<vs.size)
  (k:∀ h' T,Inv X [] σ H { s with heap:=h' }->FpX X H T->FlT h' e T cls dd (rawInt X.env.locals)->Q () { s with heap:=h' }) :
  wpAny M A (do let a <- frameOf X.env;let pl <- entryPlaceOf X.env.locals hadNext;let b <- EntryCells.newEntry head a .none (rawInt X.env.locals) .none pl;setField (.ref e) 1 b) Q E s:=by
 have hs0:=hs;obtain ⟨hst,hfr,_⟩:=hs;have hl:=I.stack;rw[hst] at hl hA;have hene:e ∉ frs X.stack:=λhm=>by
  rcases List.mem_cons.mp (I.stkSub e hm) with z|z
  ·exact hp.2.1 z
  ·exact hp.2.2.1 z
 refine wpAny_bind (wpAny_frameOf_fun hA hl hfr λh₁ hs₁=>?_);refine wpAny_bind (wpAny_entryPlaceOf λpl hpl=>?_);unfold EntryCells.newEntry newFields;refine wpAny_bind (wpAny_newObj_type ?_ (hpl.sizeOk5 _ _ _ _ _));have S:(X.env :: X.outer).filterMap (·.frame)=frs X.stack:=by rw[hst];rfl
 rw[S] at hs₁;have he₁:h₁.get? e=some oe:=(hs₁.2.1 e hene).trans he
 generalize hob:({ cls:=.type "traceback",dict:=none,data:=.fields ([head,.ref X.env.locals,.none,rawInt X.env.locals,.none] ++ (if pl.isEmpty then List.replicate 6 Value.none else pl)).toArray }:Obj)=ob
 have hobd:ob.data=.fields ([head,.ref X.env.locals,.none,rawInt X.env.locals,.none] ++ (if pl.isEmpty then List.replicate 6 Value.none else pl)).toArray:=by rw[<- hob]
 have he₂:=Heap.get?_push_of_some (h:=h₁) ob he₁;refine wpAny_setField he₂ hd hsz ?_;have hTe:h₁.objs.size≠e:=Nat.ne_of_gt (Heap.lt_size he₁);have hd₃:=Obj.data_mapFields hd (·.setIfInBounds 1 (Value.ref h₁.objs.size));have he₃:=Heap.get?_update_self (Obj.mapFields (·.setIfInBounds 1 (Value.ref h₁.objs.size))) he₂ (Obj.isFreed_of_fields hd₃);have hT₃:=(Heap.get?_update_other (h₁.push ob) (Obj.mapFields (·.setIfInBounds 1 (Value.ref h₁.objs.size))) (Ne.symm hTe)).trans (Heap.get?_push_size h₁ (by rw[<- hob];rfl));have kk:∀ b o,b≠e->h₁.get? b=some o->((h₁.push ob).update e (Obj.mapFields (·.setIfInBounds 1 (Value.ref h₁.objs.size)))).get? b=some o:=λb o hb q=>by
  rw[Heap.get?_update_other _ _ (Ne.symm hb)];exact Heap.get?_push_of_some _ q
 refine k _ h₁.objs.size (I.turnS (t':=s.toks) (ch:=[e]) (λb hb=>by rw[List.mem_singleton.mp hb];exact hp) (λb u hb hn q=>?_) λb u hb q=>?_) (I.fpX hs0 (by rw[hs₁.1];exact Heap.get?_none_of_le (Nat.le_refl _)) (I.hok.fresh (by rw[hs₁.1];exact Nat.le_refl _))) ?_
 ·exact kk b u (λz=>hb (by simp[z])) ((hs₁.2.1 b hn).trans q)
 ·obtain ⟨sl,q'⟩:=hs₁.2.2 b u q
  exact ⟨sl,kk b _ (λz=>hb (by simp[z])) q'⟩
 ·refine ⟨_,_,_,_,he₃,(Obj.cls_mapFields _ _).trans hc,?_,hd₃,by simp[hsz],hTe,hT₃,hobd,by simp⟩
  rw[<- hdd];obtain ⟨c9,d9,dt9,sl9⟩:=oe
  cases dt9<;>rfl
theorem qrd {Q:Unit->Shared->Prop} (hs:qg7 X) (hA:A.frames=some X.stack) (I:Inv X [] σ H s) (F:Fly X H s.heap e cls dd)
  (k:∀ h' T,Inv X [] σ H { s with heap:=h' }->FpX X H T->FlT h' e T cls dd (rawInt X.env.locals)->Q () { s with heap:=h' }):wpAny M A (noteFrame (.ref e) X.env) Q E s:=by
 obtain ⟨hp,F⟩:=F;unfold noteFrame;simp only[hs.2.1]
 rcases F with ⟨oe,vs,he,hc,hdd,hd,h1⟩|⟨T,fl,hT,oe,vs,oT,ts,he,hc,hdd,hd,h1,hTe,hoT,hdT,h3⟩
 ·refine wpAny_bind (wpAny_field he hd h1 ?_)
  rw[if_neg (by decide)];exact qnn hs hA I hp he hc hdd hd (Array.getElem?_eq_some_iff.mp h1).1 k
 ·refine wpAny_bind (wpAny_field he hd h1 ?_)
  rw[if_pos (show (Value.ref T != Value.none)=true from by simp)];refine wpAny_bind (wpAny_field hoT hdT h3 ?_)
  by_cases hfl:(fl == rawInt X.env.locals)=true
  ·rw[if_pos hfl]
   have:=k s.heap T I hT ⟨oe,vs,oT,ts,he,hc,hdd,hd,h1,hTe,hoT,hdT,by rw[h3,beq_iff_eq.mp hfl]⟩;exact wpAny_pure this
  ·rw[if_neg hfl]
   refine wpAny_bind (wpAny_setField hoT hdT (Array.getElem?_eq_some_iff.mp h3).1 ?_);have other:∀ b,b≠T->(s.heap.update T (Obj.mapFields (·.setIfInBounds 3 Value.none))).get? b=s.heap.get? b:=λb hb=>Heap.get?_update_other _ _ (Ne.symm hb)
   have I2:Inv X [] σ H { s with heap:=s.heap.update T (Obj.mapFields (·.setIfInBounds 3 Value.none)) }:=
    I.turnS (t':=s.toks) (ch:=[T]) (λb hb=>by rw[List.mem_singleton.mp hb];exact hT) (λb u hb _ q=>(other b (λz=>hb (by simp[z]))).trans q) λb u hb q=>⟨u.slots,(other b (λz=>hb (by simp[z]))).trans q⟩
   exact qnn hs hA I2 hp ((other e (Ne.symm hTe)).trans he) hc hdd hd (Array.getElem?_eq_some_iff.mp h1).1 k
theorem qku {Q:Unit->Shared->Prop} (fr:Option Addr) (I:Inv X [] σ H s) (hT:FpX X H T) (F:FlT s.heap e T cls dd fl)
  (k:∀ h',Inv X [] σ H { s with heap:=h' }->FlT h' e T cls dd (fr.elim .none λf=>rawInt f)->Q () { s with heap:=h' }):wpAny M A (setFlight (.ref e) fr) Q E s:=by
 obtain ⟨oe,vs,oT,ts,he,hc,hdd,hd,h1,hTe,hoT,hdT,h3⟩:=F;have hsz3:3<ts.size:=(Array.getElem?_eq_some_iff.mp h3).1;have other:∀ b,b≠T->(s.heap.update T (Obj.mapFields (·.setIfInBounds 3 (fr.elim .none λf=>rawInt f)))).get? b=s.heap.get? b:=λb hb=>Heap.get?_update_other _ _ (Ne.symm hb)
 unfold setFlight;refine wpAny_bind (wpAny_field he hd h1 ?_);rw[if_pos (show (Value.ref T != Value.none)=true from by simp)];refine wpAny_setField hoT hdT hsz3 (k _ ?_ ?_)
 ·exact I.turnS (t':=s.toks) (ch:=[T]) (λb hb=>by rw[List.mem_singleton.mp hb];exact hT) (λb u hb _ q=>(other b (λz=>hb (by simp[z]))).trans q) λb u hb q=>⟨u.slots,(other b (λz=>hb (by simp[z]))).trans q⟩
 ·exact ⟨oe,vs,_,_,(other e (Ne.symm hTe)).trans he,hc,hdd,hd,h1,hTe,Heap.get?_update_self _ hoT (Obj.isFreed_of_fields (Obj.data_mapFields hdT _)),Obj.data_mapFields hdT _,by simp[hsz3]⟩
theorem qpb {W:XW} (hs:qg7 X):PassesOwn (model X.prog X.w) X.A X.env (XE X W):=by
 rintro ev s ⟨e,cls,dd,σ,H,rfl,I,F,hw⟩;refine qrd hs I.ok.frames I F λh1 T I1 hT F1=>?_
 unfold cameBackBy;obtain ⟨oe,vs,oT,ts,he,hc,hdd,hd,h1',hTe,hoT,hdT,h3⟩:=id F1;refine wpAny_bind (wpAny_field he hd h1' ?_);rw[if_neg (show ¬ (Value.ref T == Value.none)=true from by simp)];exact qku _ I1 hT F1 λh2 I2 F2=>⟨e,cls,dd,σ,H,rfl,I2,⟨F.1,.inr ⟨T,_,hT,F2⟩⟩,hw⟩
end
def CX1 (P:Program) (w:World):CXT:=λouter H s E ev s'=>∃ e T cls dd H',ev=.ref e/\s'.os=s.os/\AllBare s'.gens/\Un (frs outer) [] H H' s.heap s'.heap/\HOk P w H' s'.heap/\FlT s'.heap e T cls dd .none/\H' e=none/\H' T=none /\
 s.heap.get? e=none/\s.heap.get? T=none/\E cls dd H'
theorem CX1.xe {X:Cx} {W:XW} {pins:List (Addr×Obj)} {σ:St} {H:Hp} {s s':Shared} {ev:Value} (hs:qg7 X) (I:Inv X pins σ H s) (h:CX1 X.prog X.w X.stack H s (λc d H'=>W c d σ H') ev s'):XE X W ev s':=by
 obtain ⟨e,T,cls,dd,H',rfl,os,bare,un,hok,F,he,hT,le,lT,q⟩:=h;have J:Inv X [] σ H s:=I.pins_of (by simp);have J':Inv X [] σ H' s':=by
  obtain ⟨hh,g,d,t,os'⟩:=s';obtain rfl:os'=s.os:=os;exact J.call (h':=hh) (g':=g) (d':=d) (t':=t) (ch:=[]) un hok bare (λb z=>absurd z (by simp))
 exact ⟨e,cls,dd,σ,H',rfl,J',⟨J.fpX hs le he,.inr ⟨T,_,J.fpX hs lT hT,F⟩⟩,q⟩
theorem qv3 {P:Program} {w:World} {K:Frag} {mg:Str->Option Value} {base:Heap} {N:List Str} {qual:Str} {scope:Scope} {f:Addr} {cd:Value} {A:Around} {outer:List Env} {s:Shared} {H:Hp} {E:XK} {ev:Value} {s':Shared}
  (h:XE (qqb (CX1 P w) P w K mg base N qual scope f cd A outer s H E) (λc d _ H'=>E c d H') ev s'):(qqb (CX1 P w) P w K mg base N qual scope f cd A outer s H E).xe ev s':=by
 obtain ⟨e,cls,dd,σ,H',rfl,I,F,q⟩:=h
 show wpAny _ _ (leaving _ _) _ _ _
 unfold leaving;refine wpAny_bind (qrd (X:=qqb (CX1 P w) P w K mg base N qual scope f cd A outer s H E) ⟨rfl,rfl,rfl⟩ I.ok.frames I F λh1 T I1 hT F1=>?_);refine qku none I1 hT F1 λh2 I2 F2=>?_
 exact ⟨e,T,cls,dd,H',rfl,I2.os,I2.bare,I2.base,I2.hok,F2,F.1.1,hT.1,F.1.2.2.2.1,hT.2.2.2.1,q⟩
def qpc (X:Cx) (W:XW):Prop:=qg7 X/\∀ ev s,XE X W ev s->X.xe ev s
theorem XE.unwish {X:Cx} {E:Value->Shared->Prop} {W:XW} {ev:Value} {s:Shared} (h:XE (X.wish E) W ev s):XE X W ev s:=
 let ⟨e,cls,dd,σ,H,q,I,F,w⟩:=h;⟨e,cls,dd,σ,H,q,I.unwish,F,w⟩
theorem qav {X:Cx} {W:XW} (hs:qg7 X):qpc (X.wish (XE X W)) W:=⟨hs,λ_ _ h=>h.unwish⟩
theorem qjj {X:Cx} {W:XW} (hs:qg7 X):PassesOwn (model X.prog X.w) X.A X.env (X.wish (XE X W)).xe:=qpb hs
theorem PSs.imp {X:Cx} {E:Value->Shared->Prop} {st:List Stmt} {t:TS} (hE:∀ ev s,E ev s->X.xe ev s) (h:PSs (X.wish E) st t):PSs X st t:=λpins s σ H D I hw =>
 wpAny_mono (h pins s σ H D (I.wish _) hw) (λ_ _ q=>q.unwish) λe s z=>hE e s z
section
variable {P:Program} {w:World} {K:Frag} {mg:Str->Option Value} {base:Heap}
abbrev bx (P:Program) (w:World) (K:Frag) (mg:Str->Option Value) (base:Heap) (N:List Str) (qual:Str) (scope:Scope) (f:Addr) (cd:Value) (A:Around) (outer:List Env) (s:Shared) (H:Hp) (E:XK):Cx:=
 (qqb (CX1 P w) P w K mg base N qual scope f cd A outer s H E).wish (XE (qqb (CX1 P w) P w K mg base N qual scope f cd A outer s H E) (λc d _ H'=>E c d H'))
theorem Fun.okX {x qual:Str} {st:Stmt} {f:Addr} {fd:FuncData} {N ps:List Str} {k:Nat} {sp:Sp} (F:Fun K x qual st f fd) (S:qaf N ps (qaa st)) (len:∀ vs H Q E,sp vs H Q E->vs.length=ps.length)
  (hbody:∀ (cdv:Value) (A:Around) (outer:List Env) (s:Shared) (H:Hp) (vs:List V) (Q:VK) (E:XK),Room k (A.deeper (envOfC qual (qaa st) s.heap.objs.size f cdv))->sp vs H Q E ->
   ∃ t,PSs (bx P w K mg base N qual (qaa st) f cdv A outer s H E) (qbm st) t/\t { nx:=λ_ H'=>Q .non H',rt:=Q } (start N vs) H):qgl P w K mg base (CX1 P w) (k+1) f fd ps sp:=by
 obtain ⟨oc,od,kV,doc,pm,an,cdv,ct,osl,rfl,lk,hcd⟩:=F.ex;refine qt9 lk hcd S len λA outer s H vs Q E hr hsp=>?_
 obtain ⟨t,h,q⟩:=hbody cdv A outer s H vs Q E hr hsp;exact ⟨t,h.imp λ_ _ z=>qv3 z,q⟩
theorem FunD.okX {x qual:Str} {st:Stmt} {dV:Value} {f:Addr} {fd:FuncData} {N ps:List Str} {k:Nat} {sp:Sp} (F:FunD K x qual st dV f fd) (S:qaf N ps (qaa st)) (len:∀ vs H Q E,sp vs H Q E->vs.length=ps.length)
  (hbody:∀ (cdv:Value) (A:Around) (outer:List Env) (s:Shared) (H:Hp) (vs:List V) (Q:VK) (E:XK),Room k (A.deeper (envOfC qual (qaa st) s.heap.objs.size f cdv))->sp vs H Q E ->
   ∃ t,PSs (bx P w K mg base N qual (qaa st) f cdv A outer s H E) (qbm st) t/\t { nx:=λ_ H'=>Q .non H',rt:=Q } (start N vs) H):qgl P w K mg base (CX1 P w) (k+1) f fd ps sp:=by
 obtain ⟨oc,od,kV,doc,pm,an,cdv,ct,osl,rfl,lk,hcd⟩:=F.ex;refine qt9 lk hcd S len λA outer s H vs Q E hr hsp=>?_
 obtain ⟨t,h,q⟩:=hbody cdv A outer s H vs Q E hr hsp;exact ⟨t,h.imp λ_ _ z=>qv3 z,q⟩
end
def qAl (P:Program) (w:World) (K:Frag) (mg:Str->Option Value) (base:Heap) (k:Nat) (x:Str) (ps:List Str) (ds:List Value) (sp:Sp):Prop:=
 ∃ f fd,qgl P w K mg base (CX1 P w) k f fd ps sp/\mg x=some (.ref f)/\keepIn K (.ref f)=true/\Binds K fd ps ds
def qts (P:Program) (w:World) (K:Frag) (mg:Str->Option Value) (base:Heap) (C:Addr) (k:Nat) (m:Str) (ps:List Str) (ds:List Value) (sp:Sp):Prop:=
 ∃ f fd,qgl P w K mg base (CX1 P w) k f fd ps sp/\qqu K C m f/\Binds K fd ps ds
def qre (sp:Sp) (dvs:List V) (W:XW) (t:TA):TE:=λσ H Q=>t σ H λvs H1=>sp (vs ++ dvs) H1 Q λc d H'=>W c d σ H'
def qAm (C:Addr) (m:Str) (sp:Sp) (dvs:List V) (W:XW) (ta:TE) (t:TA):TE:=λσ H Q=>ta σ H λx H1=>qvr C m x H1 (t σ H1 λvs H2=>sp (x :: (vs ++ dvs)) H2 Q λc d H'=>W c d σ H')
section
variable {X:Cx} {W:XW} {k:Nat} {f C:Addr} {fd:FuncData} {ps:List Str} {sp:Sp} {dvs:List V} {ds:List Value} {x m:Str} {p pos apos:Pos} {e o:Expr} {es:List Expr} {ta:TE} {t:TA}
theorem qrf {pins:List (Addr×Obj)} {σ:St} {H:Hp} {s:Shared} {Q:VK} {us:List Value} {vs:List V} (hW:qpc X W) (F:qgl X.prog X.w X.K X.mg X.base (CX1 X.prog X.w) k f fd ps sp) (hr:Room k X.A) (hb:Binds X.K fd ps ds) (hd:Vals dvs ds)
  (I:Inv X pins σ H s) (r:Vals vs us) (h:sp (vs ++ dvs) H Q λc d H'=>W c d σ H'):wpAny (model X.prog X.w) X.A (call (.ref f) us) (EP X pins σ Q) X.xe s:=by
 have r2:Vals (vs ++ dvs) (us ++ ds):=r.append hd;have hl:(us ++ ds).length=ps.length:=by rw[<- r2.length];exact F.len _ _ _ _ h
 refine wpAny_call (codeAny_mono (F.run X.A X.stack s H ⟨us,[]⟩ (us ++ ds) (vs ++ dvs) Q _ hr I.env0 (hb s us I.kIn hl) r2 h) λr s' hq=>?_)
 cases r with
 | error e=>exact hW.2 _ _ (CX1.xe hW.1 I hq)
 | ok fl =>
  cases fl with
  | ret u=>exact I.after hq
  | next=>exact False.elim hq
  | brk=>exact False.elim hq
  | cont=>exact False.elim hq
theorem qv4 (hW:qpc X W) (D:qAl X.prog X.w X.K X.mg X.base k x ps ds sp) (hr:Room k X.A) (hg:Gl X x) (hd:Vals dvs ds) (ha:PA X (e :: es) t) (hdb:(x == ("__debug__" : Str))=false:=by decide)
  (he:starEach (e :: es) X.env=(false,eval e X.env) :: starEach es X.env:=by rfl) (hpl:(backTo pos (starEach es X.env)).any (·.1)=false:=by rfl):PE X (.Call (.Name x p) (e :: es) [] pos) (qre sp dvs W t):=by
 obtain ⟨f,fd,F,hm,hk,hb⟩:=D;intro pins s σ H Q I h;refine wpAny_Call_Name_kw (qgs I hg hm ?_ hdb);refine PySem.W.callWith_K (h₀:=X.base) I.ok.mod.kin hk (thn (ha pos pins s σ H _ I h) λus s1 ⟨vs,H1,I1,r,q⟩=>⟨I1.kIn,?_⟩) he hpl;exact qrf hW F hr hb hd I1 r q
theorem qb5 {pl:Sem Bool} (hW:qpc X W) (he:PE X o ta) (c:Cls X.K C) (D:qts X.prog X.w X.K X.mg X.base C k m ps ds sp) (hr:Room k X.A) (hd:Vals dvs ds) (ha:PA X (e :: es) t)
  (hst:starEach (e :: es) X.env=(false,eval e X.env) :: starEach es X.env:=by rfl) (hpl:(backTo pos (starEach es X.env)).any (·.1)=false:=by rfl)
  (ht:eval (.Call (.Attribute o m apos) (e :: es) [] pos) X.env=(do
   let ov <- eval o X.env
   standAt apos.atName
   let (f,first) <- holding [ov] (getMethod ov m pl)
   callWith pos f first (backTo pos (starEach (e :: es) X.env)) (backToKw pos (keywordEach [] X.env))):=by rfl) :
  PE X (.Call (.Attribute o m apos) (e :: es) [] pos) (qAm C m sp dvs W ta t):=by
 obtain ⟨f,fd,F,hm,hb⟩:=D;intro pins s σ H Q I h;refine PySem.W.methodCall_KW (pl:=pl) (thn (he pins s σ H _ I h) λu s1 hq__=>?_) ht;obtain ⟨x,H1,I1,rx,a,dx,fs,ex,ea,l,q⟩:=hq__;subst ex;obtain rfl:u=Value.ref a:=rx;refine qfc I1 ea c hm l ?_;refine PySem.W.callWith_K (first:=[.ref a]) (h₀:=X.base) I.ok.mod.kin hm.kp (thn (ha pos pins s1 σ H1 _ I1 q) λus s2 ⟨vs,H2,I2,r,q2⟩=>⟨I2.kIn,?_⟩) hst hpl;exact qrf (us:=.ref a :: us) (vs:=.ref a :: vs) hW F hr hb hd I2 (.cons rfl r) q2
end
def qAn:List Value:=[.type "ValueError",.type "Exception",.type "BaseException",.type "object"]
def qxy (K:Frag) (C:Addr):Prop:=PySem.W.excIn K C qAn "ValueError.__new__" = true
theorem qAo {K:Frag} {h:Heap} {C:Addr} {bmB:List Value} {newId:String} (X:K.In h) (q:PySem.W.excIn K C bmB newId=true) :
  ∃ bm N nm qn bs hd sn sub ab col dd k0 k1 k2 k3 k5 mN,h.get? C=some (excClassObj nm qn C N bs bm hd sn sub ab col dd k0 k1 k2 k3 k5 newId)/\h.Ns N mN/\mN "__init__" = none/\OwnTail h bmB bm:=by
 unfold PySem.W.excIn at q
 split at q
 case h_2=>cases q
 case h_1 dd cd sl ho =>
  split at q
  case h_2=>cases q
  case h_1 C' bm k0 k1 k2 k3 n k5 hm hsl =>
   simp only[Bool.and_eq_true,beq_iff_eq,Bool.not_eq_true'] at q;obtain ⟨⟨⟨⟨⟨q1,q2⟩,q3⟩,q4⟩,q5⟩,q6⟩:=q;subst q1 q2
   cases cd with
   | mk nm bs mro ns qn hd sn sub ab col del =>
    cases sl with
    | mk l =>
     have hm':mro=_:=hm;have hl':l=_:=hsl;have q3':del=false:=q3;subst hm' hl' q3';exact ⟨bm,ns,nm,qn,bs,hd,sn,sub,ab,col,dd,k0,k1,k2,k3,k5,_,X _ _ ho,.of_isNs (PySem.W.isNs_of_in X q5),PySem.W.nsMap_none_of_in X q5 q6,PySem.W.tail_of_in X q4⟩
def qAp (W:XW) (C:Addr) (t:TA):TS:=λ_ σ H=>t σ H λvs H1=>vs.length<=sizeLine/\W (.ref C) none σ H1
theorem qDa {h h':Heap} {N:Addr} {m:Str->Option Value} (k:∀ b o,h.get? b=some o->h'.get? b=some o) (n:h.Ns N m):h'.Ns N m:=
 let ⟨o,es,ep,e,r⟩:=n;⟨o,es,ep,k _ _ e,r⟩
theorem qc2 {X:Cx} {W:XW} {C:Addr} {x:Str} {np cpos pos:Pos} {e:Expr} {es:List Expr} {t:TA} (hW:qpc X W) (hc:X.calm=true) (hE:qxy X.K C) (hg:Gl X x) (hm:X.mg x=some (.ref C)) (ha:PA X (e :: es) t)
  (hdb:(x == ("__debug__" : Str))=false:=by decide) (he:starEach (e :: es) X.env=(false,eval e X.env) :: starEach es X.env:=by rfl) (hpl:(backTo cpos (starEach es X.env)).any (·.1)=false:=by rfl) :
  PS X (.Raise (some (.Call (.Name x np) (e :: es) [] cpos)) none pos) (qAp W C t):=by
 intro pins s σ H D I h;obtain ⟨bm,N,nm,qn,bs,hd,sn,sub,ab,col,dd,k0,k1,k2,k3,k5,mN,hC,hN,hni,hT⟩:=qAo I.ok.mod.kin hE;refine wpAny_Raise_call_subU PySem.F.excBase_ValueError (by decide +kernel) PySem.F.excBase_ValueError (C:=C) (nm:=nm) (q:=qn) (N:=N) (bs:=bs) (hdct:=hd) (sn:=sn) (sub:=sub) (ab:=ab) (col:=col) (dd:=dd) (k0:=k0) (k1:=k1) (k2:=k2) (k3:=k3) (k5:=k5) (hT.hasType (by decide +kernel)) (I.ok.hd hc) (by rw[he];show (false || (backTo cpos (starEach es X.env)).any (·.1))=false;rw[hpl];rfl) hni (qgs I hg hm ⟨rfl,?_⟩ hdb);have h2:=ha cpos pins s σ H _ I h;rw[he] at h2 ⊢;refine Calls.evalArgs_plain (thn h2 λus s1 ⟨vs,H1,I1,r,q1,q2⟩=>⟨rfl,by rw[<- r.length];exact q1,I1.bk _ _ hC,qDa I1.bk hN,hT.keeps I1.bk,λh' ex hx=>hW.2 _ _ ?_⟩);obtain ⟨tt,hex,_,_⟩:=hx.there;have J:Inv X [] σ H1 s1:=I1.pins_of (by simp);exact ⟨ex,.ref C,none,σ,H1,rfl,J.kept (t':=s1.toks) hx.keeps,⟨J.fpX hW.1 hx.new (J.noneOf hx.new),.inl ⟨_,_,hex,rfl,rfl,rfl,rfl⟩⟩,q2⟩
open PySem PySem.Spec PyProof.Rows
def qEn (a:Addr) (cls:Value) (dd:Option Addr):HO:=.ext λh=>∃ oe vs,h.get? a=some oe/\oe.cls=cls/\oe.dict=dd/\oe.data=.fields vs
abbrev hnd (X:Cx) (e:Addr):Cx:={ X with A:=X.A.mark (some (.ref e)),calm:=false,xe:=λ_ _=>False }
section
variable {X:Cx} {pins:List (Addr×Obj)} {σ:St} {H:Hp} {s:Shared} {e:Addr}
end
def qEo (K:Frag) (C:Addr) (cls:Value):Prop:=∃ D,cls=.ref D/\PySem.W.ktsIn K D "BaseException" = true/\PySem.W.mroIn K D (.ref C)=some true
def qDb (D:Ends) (j:Nat):Ends:={ nx:=λσ H=>D.nx (σ.set j none) H,rt:=D.rt,bk:=λσ H=>D.bk (σ.set j none) H,ct:=λσ H=>D.ct (σ.set j none) H }
def hW (K:Frag) (C:Addr) (th:TS) (j:Nat) (D:Ends):XW:=λcls dd σ H=>qEo K C cls/\∀ e H',New H H' e (qEn e cls dd)->th (qDb D j) (σ.set j (some (.ref e))) H'
open PySem PySem.Spec PyProof.Rows
structure qzm (K:Frag) (D:Addr):Prop where
 ga:PySem.W.findIn K (.ref D) "__getattribute__" = some (some (.builtin "BaseException.__getattribute__"))
 gt:PySem.W.findIn K (.ref D) "__getattr__" = some none
 cl:PySem.W.findIn K (.ref D) "__class__" = some (some (.builtin "object.__class__"))
 ob:PySem.W.mroIn K D (.type "object")=some true
 be:PySem.W.mroIn K D (.type "BaseException")=some true
 kt:PySem.W.ktsIn K D "BaseException" = true
section
variable {prog:Program} {w:World} {A:Around} {E:Value->Shared->Prop} {s:Shared} {K:Frag} {a D:Addr} {oe:Obj} {vs:Array Value}
end
open PySem PySem.Spec PyProof.Rows
section
variable {X:Cx}
theorem qrg (hc:X.calm=true):CallR X (.builtin "max") (λxs H Q=>∃ (p:Addr) (ns:List Int),xs=[.ref p]/\SqL X.K H p (ns.map V.int)/\0<ns.length/\∀ m,m∈ns->(∀ a∈ns,a<=m)->Q (.int m) H):=by
 intro pins s σ H xs us Q I r h;obtain ⟨p,ns,rfl,hq,hne,q⟩:=h;obtain ⟨u,rfl,ru⟩:=vals1 r
 cases (show u=Value.ref p from ru)
 obtain ⟨its,rv,pl,hz⟩:=I.list hq;have hi:IntsAre its ns:=L2.intsAre_of rv;obtain ⟨ys,e⟩:=hi.allInts.items;have hns:ns=ys.toList.map (·.1):=by rw[<- hi.numsOf,<- nums_intItems,<- e]
 have hl:=pl.isList;rw[e] at hl;have hsz:0<ys.size:=by have h3:=hne;rw[hns,List.length_map,Array.length_toList] at h3;exact h3
 refine max_intList (I.ok.hd hc) hl hsz λv h' tk hv hk=>?_
 obtain ⟨t,rfl⟩:=intItems_at hv;obtain ⟨h1,h2⟩:=argBest_gt (numAt ys) (ys.size-1);refine ⟨.int _,H,I.kept hk,⟨t,rfl⟩,q _ ?_ λa ha=>?_⟩
 ·rw[hns,numAt_eq];exact getD_mem (by rw[List.length_map,Array.length_toList];omega)
 ·rw[hns] at ha
  obtain ⟨j,hj,rfl⟩:=mem_getD ha;rw[List.length_map,Array.length_toList] at hj;rw[<- numAt_eq];exact h2 j (by omega)
theorem qrh (hc:X.calm=true):CallR X (.builtin "min") (λxs H Q=>∃ (p:Addr) (ns:List Int),xs=[.ref p]/\SqL X.K H p (ns.map V.int)/\0<ns.length/\∀ m,m∈ns->(∀ a∈ns,m<=a)->Q (.int m) H):=by
 intro pins s σ H xs us Q I r h;obtain ⟨p,ns,rfl,hq,hne,q⟩:=h;obtain ⟨u,rfl,ru⟩:=vals1 r
 cases (show u=Value.ref p from ru)
 obtain ⟨its,rv,pl,hz⟩:=I.list hq;have hi:IntsAre its ns:=L2.intsAre_of rv;obtain ⟨ys,e⟩:=hi.allInts.items;have hns:ns=ys.toList.map (·.1):=by rw[<- hi.numsOf,<- nums_intItems,<- e]
 have hl:=pl.isList;rw[e] at hl;have hsz:0<ys.size:=by have h3:=hne;rw[hns,List.length_map,Array.length_toList] at h3;exact h3
 refine min_intList (I.ok.hd hc) hl hsz λv h' tk hv hk=>?_
 obtain ⟨t,rfl⟩:=intItems_at hv;obtain ⟨h1,h2⟩:=argBest_lt (numAt ys) (ys.size-1);refine ⟨.int _,H,I.kept hk,⟨t,rfl⟩,q _ ?_ λa ha=>?_⟩
 ·rw[hns,numAt_eq];exact getD_mem (by rw[List.length_map,Array.length_toList];omega)
 ·rw[hns] at ha
  obtain ⟨j,hj,rfl⟩:=mem_getD ha;rw[List.length_map,Array.length_toList] at hj;rw[<- numAt_eq];exact h2 j (by omega)
end
theorem qkv:bootBuiltins "max" = some (.builtin "max"):=by decide +kernel
theorem qri:bootBuiltins "min" = some (.builtin "min"):=by decide +kernel
theorem qcv:bootBuiltins "sorted" = some (.builtin "sorted"):=by decide +kernel
theorem qbz {X:Cx} (hs:qg7 X):qpc X.nox (λ_ _ _ _=>False):=⟨hs,λ_ _ ⟨_,_,_,_,_,_,_,_,w⟩=>w⟩
open PySem PySem.Spec PyProof.Rows
theorem qxz {H H':Hp} {a:Addr} {o:HO} (s:Same H H') (h:H a=some o):H' a=some o:=s _ _ h
theorem qAq {H H':Hp} {p a:Addr} {u o:HO} (n:New H H' p u) (h:H a=some o):H' a=some o:=n.same _ _ h
theorem qx0 {H H1 H2:Hp} {p:Addr} {u:HO} (a:Same H H1) (n:New H1 H2 p u):Same H H2:=a.trans n.same
open PySem PySem.Spec PyProof.Rows
section
variable {X:Cx} {e e1:Expr} {te t1:TE} {pos p2:Pos}
end
open PySem PySem.Spec PyProof.Rows
section
variable {prog:Program} {w:World} {A:Around} {R:Result->Shared->Prop} {I:Addr} {fp wr:List Addr} {n:Nat} {P:Nat->Value->Prop} {St:Nat->Heap->Prop} {d:Value}
end
section
variable {X:Cx}
theorem qg8:∀ {bs:List Bool} {us:List Value},Vals (bs.map V.bl) us->us=bs.map Value.bool
 | [],_,.nil=>rfl
 | b :: r,_,.cons h t=>by cases (show _=Value.bool b from h);rw[qg8 t];rfl
theorem qno (hc:X.calm=true):CallR X (.builtin "all") (λxs H Q=>∃ (p:Addr) (bs:List Bool),xs=[.ref p]/\SqL X.K H p (bs.map V.bl)/\Q (.bl (bs.all id)) H):=by
 intro pins s σ H xs us Q I r h;obtain ⟨p,bs,rfl,hq,q⟩:=h;obtain ⟨u,rfl,ru⟩:=vals1 r
 cases (show u=Value.ref p from ru)
 obtain ⟨its,rv,pl,hz⟩:=I.list hq;have hl:=pl.isList;have hlt:p<s.heap.objs.size:=by obtain ⟨_,e,_⟩:=hl;exact Heap.lt_size e
 have hb:=qg8 rv;refine call_all_walk (wpAny_pyIter_list hl ?_);refine ⟨s.heap.objs.size,[s.heap.objs.size,p],[s.heap.objs.size],its.toArray.size,_,_,λi=>(bs[i]?).getD true,rfl,Walks.list (A:=X.A.in1) (I.ok.hd hc) _ p (Nat.ne_of_lt hlt) its.toArray,
  ⟨⟨_,Heap.get?_push_size _ rfl,rfl,rfl⟩,hl.push _⟩,λi v s' Q' E' hP hQ=>?_,λh' tk hk=>?_⟩
 ·rw[hb] at hP
  have hP':(bs.map Value.bool)[i]?=some v:=by simpa using hP
  rw[List.getElem?_map] at hP';obtain ⟨b,e1,e2⟩:=Option.map_eq_some_iff.mp hP';subst e2;simp only[e1,Option.getD_some] at hQ;exact wpAny_truthy_bool hQ
 ·have e:((List.range its.toArray.size).all λi=>(bs[i]?).getD true)=bs.all id:=by
   rw[List.size_toArray,hb,List.length_map];exact PyProof.Rows.LSm.range_all bs
  rw[e];refine ⟨.bl _,H,I.kept λb o q=>hk b o (λhm=>?_) (Heap.get?_push_of_some _ q),rfl,q⟩;rw[List.mem_singleton.mp hm] at q;exact absurd (Heap.lt_size q) (Nat.lt_irrefl _)
end
theorem qv5:bootBuiltins "all" = some (.builtin "all"):=by decide +kernel
open PySem PyProof PyProof.Rows
section
variable {X:Cx}
end
open PySem PySem.Spec PyProof.Rows
section
variable {prog:Program} {w:World} {A:Around} {E:Value->Shared->Prop} {s:Shared}
end
section
variable {X:Cx}
end
open PySem PySem.Spec PyProof.Rows
def RawD (h:Heap) (d:Addr) (es:Array DictEntry) (ep:Nat):Prop:=∃ o,h.get? d=some o/\o.ExactDict/\o.data=.dict es ep
theorem RawD.ty {s:Shared} {d:Addr} {es:Array DictEntry} {ep:Nat} (x:RawD s.heap d es ep):s.TypeIs (.ref d) "dict" :=let ⟨o,a,b,_⟩:=x;⟨o,a,b.1⟩
theorem RawD.up {h h':Heap} {d:Addr} {es:Array DictEntry} {ep:Nat} (x:RawD h d es ep) (e:∀ o,h.get? d=some o->h'.get? d=some o):RawD h' d es ep:=let ⟨o,a,b⟩:=x;⟨o,e o a,b⟩
theorem RawD.lt {h:Heap} {d:Addr} {es:Array DictEntry} {ep:Nat} (x:RawD h d es ep):d<h.objs.size:=let ⟨_,a,_⟩:=x;Heap.lt_size a
section
variable {prog:Program} {w:World} {A:Around} {E:Value->Shared->Prop} {s:Shared}
abbrev qDc (d:Addr) (n ep:Nat):Obj:={ cls:=.type "dict_keyiterator",data:=.fields #[.ref d,.int 0 0,.int n 0,.int ep 0] }
theorem qx1 {d:Addr} {es:Array DictEntry} {ep:Nat} {Q:Value->Shared->Prop} (lo:(d == sysModules)=false) (hm:RawD s.heap d es ep) (hQ:Q (.ref s.heap.objs.size) { s with heap:=s.heap.push (qDc d es.size ep) }) :
  wpAny (model prog w) A (pyIter (.ref d)) Q E s:=by
 have ty:=hm.ty;obtain ⟨o,h1,h2,h3⟩:=hm;refine wpAny_pyIter_slot ty F.slot_dict_iter (wpAny_call_entry F.slot_dict_iter ty F.entry_dict_iter ?_ (F.args_dict_iter_1 _));unfold Builtin.«dict.__iter__»;refine wpAny_bind ?_;unfold Builtin.Dict.dictSlotNone;refine wpAny_bind (wpAny_notOrdered_dict ty ?_)
 show wpAny _ _ (pure (Value.ref d)) _ _ s;refine wpAny_pure ?_
 show wpAny _ _ (Builtin.Dict.showsAll d >>= _) _ _ s;unfold Builtin.Dict.showsAll
 rw[if_neg (by rw[lo];exact Bool.false_ne_true)];refine wpAny_bind (wpAny_pure ?_);refine wpAny_bind (wpAny_dictEntries h1 h3 ?_);refine wpAny_bind (wpAny_dictEpoch h1 h3 ?_);refine wpAny_bind (wpAny_newObj_type (wpAny_pure ⟨_,rfl, "dict_keyiterator",_,⟨_,Heap.get?_push_size _ rfl,rfl⟩,F.slot_dict_keyiterator_next.lookup,?_⟩));simpa [rawInt] using hQ
theorem qx2 {it d:Addr} {i ep:Nat} {es:Array DictEntry} {Q:Option Value->Shared->Prop} (hJ:s.heap.IsKeyIter it d i es.size ep) (hm:RawD s.heap d es ep) (hx:i<es.size)
  (hQ:∀ h',h'.IsKeyIter it d (i+1) es.size ep->Heap.SameBut it s.heap h'->Q (some es[i].key) { s with heap:=h' }):wpAny (model prog w) A (pyNext (.ref it)) Q E s:=by
 obtain ⟨o,ho,hc,hd⟩:=id hJ;obtain ⟨od,h1,h2,h3⟩:=hm;have ty:=hJ.typeIs;unfold pyNext;refine wpAny_bind (wpAny_attempt (wpAny_callSpecial?_slot (name:=Str.ofString "__next__") ty F.slot_dict_keyiterator_next (wpAny_call_entry F.slot_dict_keyiterator_next ty F.entry_dict_keyiterator_next ?_ (F.args_dict_keyiterator_next_1 _))));refine wpAny_bind (wpAny_pure ?_);refine wpAny_bind ?_;refine wpAny_bind ?_
 first|refine wpAny_bind (wpAny_typeNameOfWhole_keyiter ty (wpAny_pure ?_))|refine wpAny_bind (wpAny_typeNameOf_keyiter ty (wpAny_pure ?_))
 refine wpAny_bind (wpAny_fieldsOf ho hd ?_);simp only[show Builtin.Dict_items.ownsTuple "dict_keyiterator" = false by decide,Bool.false_eq_true,if_false]
 show wpAny _ _ (if (Value.ref d == Value.none)=true then _ else _) _ _ s;rw[if_neg (show ¬ ((Value.ref d == Value.none)=true) from Bool.false_ne_true)]
 refine wpAny_bind (wpAny_pure ?_);refine wpAny_bind (wpAny_dictEntries h1 h3 ?_);rw[if_neg (by simp)];refine wpAny_bind (wpAny_pure ?_);refine wpAny_bind (wpAny_dictEpoch h1 h3 ?_);rw[if_neg (by simp)];refine wpAny_pure ?_;simp only[show ¬ ((i:Int)<0) from by omega,if_false,Int.toNat_natCast,Array.getElem?_eq_getElem hx];refine wpAny_bind ?_
 first|refine wpAny_bind (wpAny_typeNameOfWhole_keyiter ty (wpAny_pure ?_))|refine wpAny_bind (wpAny_typeNameOf_keyiter ty (wpAny_pure ?_))
 refine wpAny_bind (wpAny_isOneOf_keyiter ty ?_)
 show wpAny _ _ (setField (.ref it) 1 (rawInt ((i:Int)+1)) >>= _) _ _ s;refine wpAny_bind (wpAny_setField ho hd (by simp) ?_)
 have hJ':(s.heap.update it (Obj.mapFields (·.setIfInBounds 1 (rawInt ((i:Int)+1))))).IsKeyIter it d (i+1) es.size ep:=⟨_,Heap.get?_update_self _ ho (Obj.isFreed_of_fields (Obj.data_mapFields hd _)),(Obj.cls_mapFields ..).trans hc,by rw[Obj.data_mapFields hd];simp[rawInt]⟩;refine wpAny_bind (wpAny_holding ?_);refine wpAny_bind (wpAny_isOneOf_keyiter (s:={ s with heap:=s.heap.update it (Obj.mapFields (·.setIfInBounds 1 (rawInt ((i:Int)+1)))) }) hJ'.typeIs ?_)
 show wpAny _ _ (pure es[i].key) _ _ _
 exact wpAny_pure (wpAny_pure ⟨_,rfl,wpAny_pure (hQ _ hJ' (Heap.SameBut.update ..))⟩)
theorem qAr {it d:Addr} {ep:Nat} {es:Array DictEntry} {Q:Option Value->Shared->Prop} (hh:A.handled=none) (hJ:s.heap.IsKeyIter it d es.size es.size ep) (hm:RawD s.heap d es ep)
  (hQ:∀ h',Heap.ExtBut it s.heap h'->Q none { s with heap:=h' }):wpAny (model prog w) A (pyNext (.ref it)) Q E s:=by
 obtain ⟨o,ho,hc,hd⟩:=id hJ;obtain ⟨od,h1,h2,h3⟩:=hm;have ty:=hJ.typeIs;unfold pyNext;refine wpAny_bind (wpAny_attempt (wpAny_callSpecial?_slot (name:=Str.ofString "__next__") ty F.slot_dict_keyiterator_next (wpAny_call_entry F.slot_dict_keyiterator_next ty F.entry_dict_keyiterator_next ?_ (F.args_dict_keyiterator_next_1 _))));refine wpAny_bind (wpAny_pure ?_);refine wpAny_bind ?_;refine wpAny_bind ?_
 first|refine wpAny_bind (wpAny_typeNameOfWhole_keyiter ty (wpAny_pure ?_))|refine wpAny_bind (wpAny_typeNameOf_keyiter ty (wpAny_pure ?_))
 refine wpAny_bind (wpAny_fieldsOf ho hd ?_);simp only[show Builtin.Dict_items.ownsTuple "dict_keyiterator" = false by decide,Bool.false_eq_true,if_false]
 show wpAny _ _ (if (Value.ref d == Value.none)=true then _ else _) _ _ s;rw[if_neg (show ¬ ((Value.ref d == Value.none)=true) from Bool.false_ne_true)]
 refine wpAny_bind (wpAny_pure ?_);refine wpAny_bind (wpAny_dictEntries h1 h3 ?_);rw[if_neg (by simp)];refine wpAny_bind (wpAny_pure ?_);refine wpAny_bind (wpAny_dictEpoch h1 h3 ?_);rw[if_neg (by simp)];refine wpAny_pure ?_;simp only[show ¬ ((es.size:Int)<0) from by omega,if_false,Int.toNat_natCast,Array.getElem?_eq_none (Nat.le_refl _)];refine wpAny_bind ?_
 first|refine wpAny_bind (wpAny_typeNameOfWhole_keyiter ty (wpAny_pure ?_))|refine wpAny_bind (wpAny_typeNameOf_keyiter ty (wpAny_pure ?_))
 show wpAny _ _ (setField (.ref it) 0 .none >>= _) _ _ s;refine wpAny_bind (wpAny_setField ho hd (by simp) ?_)
 show wpAny _ _ (newExc (.type "StopIteration") [] >>= _) _ _ _;refine wpAny_bind ?_
 simp only[newExc,newTuple];refine wpAny_bind (wpAny_newObj_type ?_ (by size_fits));refine wpAny_bind (m:=firstArgMember _ _) (wpAny_of_eq (a:=Value.none) (by first|rfl|(simp only[firstArgMember];rfl)) ?_);refine wpAny_newObj_type ?_ (by size_fits);simp only[raiseNew];refine wpAny_bind (wpAny_handled ?_);rw[show A.in1.handled=none from hh];refine wpAny_bind (wpAny_pure (wpAny_throw ?_));refine wpAny_bind (wpAny_isInstance (T:= "StopIteration") (b:=true) ⟨_,Heap.get?_push_size _ rfl,rfl⟩ isSubtype_stop ?_);exact wpAny_pure (hQ _ (((Heap.SameBut.update ..).extBut.push _).push _))
theorem quo (hh:A.handled=none) (J d:Addr) (hne:d≠J) (es:Array DictEntry) (ep:Nat) :
  Walks prog w A J [J,d] [J] es.size (λi v=>∃ e,es[i]?=some e/\v=e.key) (λi h=>h.IsKeyIter J d i es.size ep/\RawD h d es ep) where
 sub:=λb hb=>by simp at hb;simp[hb]
 frame:=λ_ _ _ st hk=>⟨st.1.at λo e=>hk J (by simp) o e,st.2.up λo e=>hk d (by simp) o e⟩
 item:=λi s Q E hi st hQ=>by
  refine qx2 st.1 st.2 hi λh' hJ' hs'=>?_
  exact hQ _ h' s.toks ⟨es[i],by simp[hi],rfl⟩ ⟨hJ',st.2.up λo e=>hs'.extBut d o hne e⟩ λb o hb e=>hs'.extBut b o (λh=>hb (by simp[h])) e
 done:=λs Q E st hQ=>qAr hh st.1 st.2 λh' he'=>hQ h' s.toks λb o hb e=>he' b o (λh=>hb (by simp[h])) e
 self:=λ_ _ _ _ st hQ=>wpAny_pyIter_keyiter st.1 hQ
theorem qv6 {d:Addr} {es:Array DictEntry} {ep:Nat} (lo:(d == sysModules)=false):PySem.W.KdlSrc prog w "dict" d d es.size (λi v=>∃ e,es[i]?=some e/\v=e.key) (λh=>RawD h d es ep) where
 type:=λ_ hm=>hm.ty
 there:=λ_ hm=>⟨hm.lt,hm.lt⟩
 keep:=λ_ _ hm hk=>hm.up λo e=>hk d (.inl rfl) o e
 notList:=by decide
 notTuple:=by decide
 hint:=λ_ _ _ _ hm hq=>PySem.W.kdl_hint_dict hm.ty hq
 iter:=λ_ _ hh hm=>⟨_,_,(λ_ _ hq=>qx1 lo hm hq),quo hh _ d (Nat.ne_of_lt hm.lt) es ep,⟨⟨_,Heap.get?_push_size _ rfl,rfl,rfl⟩,hm.up λ_ e=>Heap.get?_push_of_some _ e⟩⟩
end
open PySem PySem.Spec PyProof.Rows
section
variable {prog:Program} {w:World} {A:Around} {E:Value->Shared->Prop} {s:Shared}
theorem qpd {a:Addr} {vs:List Value} {n:Nat} {P:Fin->Shared->Prop} (ho:s.heap.get? a=some (seqObj "list" vs.toArray n)) (h2:vs.length<2)
  (h:P (.done (.ret .none)) { s with heap:=sortedHeap s.heap a vs ((vs.toArray.zip vs.toArray).map (·.2)) }):wpAny (model prog w) A (Builtin.«list.sort» ⟨[.ref a],[]⟩) P E s:=by
 rw[list_sort_plain];have la:a<s.heap.objs.size:=Heap.lt_size ho;refine wpAny_bind (listItems_at ho rfl ?_);refine wpAny_bind (listUpdate_at ho rfl ?_);obtain ⟨e1,h1⟩:∃ e1,(s.heap.update a (Obj.mapSeq λ_=>#[])).get? a=some (seqObj "list" #[] e1):=⟨_,get?_update_seq ho (λ_=>#[])⟩;refine wpAny_bind (seqEpoch_at h1 rfl ?_);refine wpAny_bind (wpAny_newTuple ?_);refine wpAny_bind (wpAny_newList ?_);refine wpAny_holding ?_;have h6:(((s.heap.update a (Obj.mapSeq λ_=>#[])).push (seqObj "tuple" vs.toArray 0)).push (seqObj "list" #[] 0)).get? a=some (seqObj "list" #[] e1):=by
  rw[Heap.get?_push_ne _ _ _ (by rw[size_push',Heap.size_update];exact Nat.ne_of_lt (Nat.lt_succ_of_lt la)),Heap.get?_push_ne _ _ _ (by rw[Heap.size_update];exact Nat.ne_of_lt la)];exact h1
 show wpAny (model prog w) A _ P E { s with heap:=((s.heap.update a (Obj.mapSeq λ_=>#[])).push (seqObj "tuple" vs.toArray 0)).push (seqObj "list" #[] 0) }
 dsimp only;have z2:vs.toArray.size<2:=by simpa using h2
 rw[if_pos z2,if_pos z2];refine wpAny_bind (wpAny_pure ?_);rw[StateT.run_pure];refine wpAny_bind (wpAny_pure ?_);dsimp only;refine wpAny_bind (seqEpoch_at h6 rfl ?_);refine wpAny_bind (listUpdate_at h6 rfl ?_ (hsz2:=by rw[Array.size_map];show (pairsOf vs).size<=_;rw[pairsOf_size,sizeLine_eq];omega));simp only[bne_self_eq_false,Bool.false_eq_true,if_false];exact wpAny_pure h
end
theorem qx3 (vs:List Value):(vs.toArray.zip vs.toArray).map (·.2)=vs.toArray:=by
 apply Array.ext'
 simpa using List.map_snd_zip (l₁:=vs) (l₂:=vs) (Nat.le_refl _)
section
variable {X:Cx}
end
open PySem PySem.Spec PyProof.Rows
section
variable {X:Cx} {tg:Expr}
end
section
variable {X:Cx}
inductive qrj (K:Frag) (x y:V) (H:Hp) (Q:VK):Prop
 | mk:∀ a b xs ys,x=.ref a->y=.ref b->SqT K H a xs->SqT K H b ys->xs≠[]->ys≠[]->xs.length+ys.length<=sizeLine->(∀ p H',New H H' p (.tup (xs ++ ys))->Q (.ref p) H')->qrj K x y H Q
def qrk (K:Frag):R2:=λx y H Q=>qrj K x y H Q
theorem qnp:OpR X (binaryOp .Add) (qrk X.K):=op_catT.imp λ_ _ _ _ ⟨a,b,xs,ys,e1,e2,h1,h2,z,zy,hz,q⟩=>⟨a,b,xs,ys,e1,e2,h1,h2,z,hz,λe=>absurd e zy,λ_ p hp=>q p _ (qa0 hp)⟩
def qAs:TE:=λ_ H Q=>∀ p H',New H H' p (.dT [])->Q (.ref p) H'
theorem qnq {pos:Pos}:PE X (.Dict [] [] pos) qAs:=λpins s σ H Q I h=>quf pins s σ H Q I λp hp=>h p _ (qa0 hp)
end
open PySem PySem.Spec PyProof.Rows
end L2
namespace L2
theorem lq1 {α:Type} {us:List α} (h:us.length=1):∃ a,us=[a]:=by
 cases us with
 | nil=>cases h
 | cons a r=>exact ⟨a,by rw[List.length_eq_zero_iff.mp (Nat.succ.inj h)]⟩
theorem lq2 {α:Type} {us:List α} (h:us.length=2):∃ a0 a1,us=[a0,a1]:=by
 cases us with
 | nil=>cases h
 | cons a r=>obtain ⟨a1,e⟩:=lq1 (Nat.succ.inj h);exact ⟨a,a1,by rw[e]⟩
theorem lq3 {α:Type} {us:List α} (h:us.length=3):∃ a0 a1 a2,us=[a0,a1,a2]:=by
 cases us with
 | nil=>cases h
 | cons a r=>obtain ⟨a1,a2,e⟩:=lq2 (Nat.succ.inj h);exact ⟨a,a1,a2,by rw[e]⟩
theorem lq4 {α:Type} {us:List α} (h:us.length=4):∃ a0 a1 a2 a3,us=[a0,a1,a2,a3]:=by
 cases us with
 | nil=>cases h
 | cons a r=>obtain ⟨a1,a2,a3,e⟩:=lq3 (Nat.succ.inj h);exact ⟨a,a1,a2,a3,by rw[e]⟩
theorem lq5 {α:Type} {us:List α} (h:us.length=5):∃ a0 a1 a2 a3 a4,us=[a0,a1,a2,a3,a4]:=by
 cases us with
 | nil=>cases h
 | cons a r=>obtain ⟨a1,a2,a3,a4,e⟩:=lq4 (Nat.succ.inj h);exact ⟨a,a1,a2,a3,a4,by rw[e]⟩
open PySem PySem.Spec PyProof.Rows PySem.W
section
variable {lt:Nat->Nat->Bool} {n:Nat}
end
open PySem PySem.Spec PyProof.Rows PySem.W
def blt:List Int->List Int->Bool
 | [],[]=>false
 | [],_ :: _=>true
 | _ :: _,[]=>false
 | a :: r,b :: t=>if a=b then blt r t else decide (a<b)
theorem qjk:∀ (k l:List Int),k≠l->blt k l=false->blt l k=true
 | [],[],h,_=>absurd rfl h
 | [],_ :: _,_,h=>by simp[blt] at h
 | _ :: _,[],_,_=>rfl
 | a :: r,b :: t,h,e=>by
  unfold blt at e ⊢
  by_cases hab:a=b
  ·subst hab
   rw[if_pos rfl] at e ⊢;exact qjk r t (λz=>h (by rw[z])) e
  ·rw[if_neg hab] at e
   rw[if_neg (λz=>hab z.symm)]
   simp at e ⊢
   omega
theorem qrl:∀ (k l m:List Int),blt k l=true->blt l m=true->blt k m=true
 | [],[],_,h,_=>by simp[blt] at h
 | _ :: _,[],_,h,_=>by simp[blt] at h
 | [],_ :: _,[],_,h=>by simp[blt] at h
 | _ :: _,_ :: _,[],_,h=>by simp[blt] at h
 | [],_ :: _,_ :: _,_,_=>rfl
 | a :: r,b :: t,c :: u,h1,h2=>by
  unfold blt at h1 h2 ⊢
  by_cases hab:a=b
  ·subst hab
   rw[if_pos rfl] at h1
   by_cases hbc:a=c
   ·subst hbc
    rw[if_pos rfl] at h2 ⊢;exact qrl r t u h1 h2
   ·rw[if_neg hbc] at h2 ⊢
    exact h2
  ·rw[if_neg hab] at h1
   by_cases hbc:b=c
   ·subst hbc
    rw[if_neg hab];exact h1
   ·rw[if_neg hbc] at h2
    simp at h1 h2
    rw[if_neg (by omega)]
    simp;omega
theorem qjl:∀ k:List Int,blt k k=false
 | []=>rfl
 | a :: r=>by unfold blt;rw[if_pos rfl];exact qjl r
def qx4 (h:Heap) (v:Value) (k:List Int):Prop:=∃ b o xs e,v=.ref b/\h.get? b=some o/\o.cls=.type "tuple" /\ o.data=.seq xs e/\Vals (k.map V.int) xs.toList
section
variable {prog:Program} {w:World} {A:Around} {E:Value->Shared->Prop} {s:Shared}
theorem qnr {b fin:Bool} {Q:Bool->Shared->Prop}:∀ (k l:List Int) (us ws:List Value) (i:Nat),Vals (k.map V.int) us->Vals (l.map V.int) ws->fin=decide (k.length<l.length)->Q (blt k l) s->KatLex prog w A b fin Q (us.zip ws) i s
 | [],l,us,ws,i,hu,hw,hf,q=>by
  cases us with
  | cons _ _=>exact absurd hu.length (by simp)
  | nil =>
   rw[List.zip_nil_left];refine kat_nil ?_;rw[hf]
   cases l with
   | nil=>exact q
   | cons _ _=>exact q
 | x :: k,[],us,ws,i,hu,hw,hf,q=>by
  cases ws with
  | cons _ _=>exact absurd hw.length (by simp)
  | nil =>
   rw[List.zip_nil_right];refine kat_nil ?_;rw[hf];exact q
 | x :: k,y :: l,us,ws,i,hu,hw,hf,q=>by
  cases us with
  | nil=>exact absurd hu.length (by simp)
  | cons u us =>
   cases ws with
   | nil=>exact absurd hw.length (by simp)
   | cons v ws =>
    rw[List.map_cons] at hu hw
    cases hu with
    | cons hx hu =>
     cases hw with
     | cons hy hw =>
      obtain ⟨t,rfl⟩:=(show ∃ t,u=Value.int x t from hx);obtain ⟨t',rfl⟩:=(show ∃ t,v=Value.int y t from hy);rw[List.zip_cons_cons];refine kat_cons (wpAny_eqBool_int ?_)
      by_cases hxy:x=y
      ·subst hxy
       rw[show (x == x)=true by simp];refine kat_yes (qnr k l us ws (i+1) hu hw (by rw[hf];simp) ?_);unfold blt at q
       rwa [if_pos rfl] at q
      ·rw[show (x == y)=false by simpa using hxy]
       unfold blt at q;rw[if_neg hxy] at q;refine kat_no ?_
       cases (b && i == 0) with
       | true=>exact oneLt_int q
       | false=>exact kat_one _ _ (lt_int q)
theorem qAt {b:Bool} {Q:Bool->Shared->Prop} {x y:Value} {k l:List Int} (hx:qx4 s.heap x k) (hy:qx4 s.heap y l) (q:Q (blt k l) s):wpAny (model prog w) A (keyLt' (tuples' b) x y) Q E s:=by
 obtain ⟨a,o,xs,e,rfl,h1,h2,h3,h4⟩:=hx;obtain ⟨a',o',xs',e',rfl,h1',h2',h3',h4'⟩:=hy;refine kat_lt h1 h3 h1' h3' (qnr k l _ _ 0 h4 h4' ?_ q);have e1:k.length=xs.size:=by have:=h4.length;simpa using this
 have e2:l.length=xs'.size:=by have:=h4'.length;simpa using this
 rw[e1,e2]
theorem qv7 {h:Heap}:∀ {vs:List Value} {ks:List (List Int)},vs.length=ks.length->(∀ (i:Nat) v k,vs[i]?=some v->ks[i]?=some k->qx4 h v k/\k≠[])->∃ fs,KatTups h vs fs/\fs.length=vs.length/\∀ v∈fs,∃ i t,v=Value.int i t
 | [],[],_,_=>⟨[],.nil,rfl,λv hv=>by cases hv⟩
 | v :: vs,k :: ks,hl,H=>by
  obtain ⟨fs,f1,f2,f3⟩:=qv7 (vs:=vs) (ks:=ks) (by simpa using hl) (λi v k e1 e2=>H (i+1) v k (by simpa using e1) (by simpa using e2));obtain ⟨⟨b,o,xs,e,rfl,h1,h2,h3,h4⟩,hne⟩:=H 0 v k rfl rfl
  cases k with
  | nil=>exact absurd rfl hne
  | cons i r =>
   obtain ⟨u,us,eu,hu⟩:∃ u us,xs.toList=u :: us/\RelV (.int i) u:=by
    generalize xs.toList=ys at h4
    cases h4 with
    | cons hx _=>exact ⟨_,_,rfl,hx⟩
   obtain ⟨t,rfl⟩:=(show ∃ t,u=Value.int i t from hu);refine ⟨Value.int i t :: fs,?_,by simp[f2],λv hv=>?_⟩
   ·rw[KatTups.eq_2]
    refine ⟨⟨b,o,xs,e,rfl,h1,h2,h3,?_⟩,f1⟩;rw[<- Array.getElem?_toList,eu];rfl
   ·rcases List.mem_cons.mp hv with h|h
    ·exact ⟨i,t,h⟩
    ·exact f3 v h
end
open PySem PySem.Spec PyProof.Rows PySem.W
def pick {α:Type} (idx:List Nat) (xs:List α) (d:α):List α:=idx.map λi=>xs.getD i d
theorem qff {α:Type} (xs:List α) (d:α):pick (List.range xs.length) xs d=xs:=by
 unfold pick
 apply List.ext_getElem?
 intro i;rw[List.getElem?_map]
 by_cases h:i<xs.length
 ·rw[List.getElem?_range h,List.getElem?_eq_getElem h]
  simp[List.getD_eq_getElem?_getD,List.getElem?_eq_getElem h]
 ·rw[List.getElem?_eq_none (by simpa using by omega),List.getElem?_eq_none (by omega)];rfl
theorem qkw {α:Type} {idx:List Nat} {xs:List α} {d:α} (h:idx.Perm (List.range xs.length)):(pick idx xs d).Perm xs:=by
 have:=h.map (λi=>xs.getD i d);have e:=qff xs d;unfold pick at e;rw[e] at this;exact this
def TupsH (H:Hp) (xs:List V) (ks:List (List Int)):Prop:=Paired (λv r=>∃ a,v=V.ref a/\H a=some (.tup (r.map V.int))) xs ks
theorem TupsH.len {H:Hp}:∀ {xs:List V} {ks:List (List Int)},TupsH H xs ks->xs.length=ks.length
 | _,_,.nil=>rfl
 | _,_,.cons _ t=>by simp[TupsH.len t]
theorem TupsH.get {H:Hp}:∀ {xs:List V} {ks:List (List Int)} {i:Nat} {x:V} {k:List Int},TupsH H xs ks->xs[i]?=some x->ks[i]?=some k->∃ a,x=.ref a/\H a=some (.tup (k.map V.int))
 | _,_,_,_,_,.nil,e,_=>by simp at e
 | _,_,0,_,_,.cons r _,e,f=>by simp at e f;subst e f;exact r
 | _,_,i+1,x,k,.cons _ t,e,f=>TupsH.get (i:=i) t (by simpa using e) (by simpa using f)
theorem TupsH.pick {H:Hp} {xs:List V} {ks:List (List Int)} (h:TupsH H xs ks):∀ {idx:List Nat},(∀ i∈idx,i<ks.length)->TupsH H (pick idx xs .non) (pick idx ks [])
 | [],_=>.nil
 | i :: r,hi=>by
  have h0:=hi i List.mem_cons_self;have hl:=h.len;refine .cons (h.get (i:=i) ?_ ?_) (TupsH.pick h λj hj=>hi j (List.mem_cons_of_mem _ hj))
  ·show xs[i]?=some (xs.getD i .non)
   rw[List.getD_eq_getElem?_getD,List.getElem?_eq_getElem (by omega)];rfl
  ·show ks[i]?=some (ks.getD i [])
   rw[List.getD_eq_getElem?_getD,List.getElem?_eq_getElem h0];rfl
theorem qkx {xs:List V} {vs:List Value} (h:Vals xs vs):∀ {idx:List Nat},(∀ i∈idx,i<xs.length)->Vals (pick idx xs .non) (pick idx vs .none)
 | [],_=>.nil
 | i :: r,hi=>by
  have h0:=hi i List.mem_cons_self;have hl:=h.length;refine .cons ?_ (qkx h λj hj=>hi j (List.mem_cons_of_mem _ hj))
  show RelV (xs.getD i .non) (vs.getD i .none)
  rw[List.getD_eq_getElem?_getD,List.getElem?_eq_getElem h0,List.getD_eq_getElem?_getD,List.getElem?_eq_getElem (by omega)];exact qg9 h h0 (by omega)
where
 qg9:∀ {xs:List V} {vs:List Value} {i:Nat},Vals xs vs->(h1:i<xs.length)->(h2:i<vs.length)->RelV xs[i] vs[i]
  | _,_,0,.cons r _,_,_=>r
  | _,_,i+1,.cons _ t,h1,h2=>qg9 (i:=i) t (by simpa using h1) (by simpa using h2)
section
variable {prog:Program} {w:World} {A:Around} {E:Value->Shared->Prop} {s:Shared}
end
section
variable {X:Cx}
theorem qx5 {pins:List (Addr×Obj)} {σ:St} {H:Hp} {s:Shared} {a:Addr} {k:List Int} (I:Inv X pins σ H s) (h:H a=some (.tup (k.map V.int))):qx4 s.heap (.ref a) k:=by
 obtain ⟨its,rv,p,_⟩:=I.tuple (SqT.of h);obtain ⟨o,h1,h2,n,h3⟩:=(show s.heap.IsTuple a its.toArray from p);exact ⟨a,o,its.toArray,n,rfl,h1,h2,h3,by simpa using rv⟩
theorem qrm {H:Hp}:∀ {kvs:List (List Key×V)} {ys:List (List Key×Addr×Value)} {ks:List (List Int)},KT H kvs ys->kvs.map (·.1)=ks.map (λk=>k.map Sum.inl)->TupsH H (ys.map λy=>V.ref y.2.1) ks
 | [],_,ks,.nil,e=>by
  cases ks with
  | nil=>exact .nil
  | cons _ _=>cases e
 | p :: r,_,ks,.cons (b:=y) hy t,e=>by
  cases ks with
  | nil=>cases e
  | cons k ks =>
   rw[List.map_cons,List.map_cons] at e;injection e with e1 e2
   refine .cons ⟨y.2.1,rfl,?_⟩ (qrm t e2);have:=hy.2.1;rw[e1] at this;rw[this,List.map_map];rfl
theorem qky:∀ ys:List (List Key×Addr×Value),Vals (ys.map λy=>V.ref y.2.1) (ys.map λy=>Value.ref y.2.1)
 | []=>.nil
 | _ :: r=>.cons rfl (qky r)
end
open PySem PySem.Spec PyProof.Rows
section
variable {X:Cx} {k:Nat} {C:Addr} {ps:List Str} {sp:Sp} {dvs:List V} {ds:List Value} {m:Str} {pos apos:Pos} {e o:Expr} {es:List Expr} {ta:TE} {t:TA}
end
open PySem PySem.Spec PyProof.Rows PySem.W
section
variable {prog:Program} {w:World} {A:Around} {E:Value->Shared->Prop} {s:Shared}
end
section
variable {X:Cx} {pos:Pos}
end
open PySem PySem.Spec PyProof.Rows
section
variable {prog:Program} {w:World} {A:Around} {E:Value->Shared->Prop} {s:Shared}
end
open PySem PySem.Spec PyProof.Rows
section
variable {X:Cx} {pins:List (Addr×Obj)} {σ:St} {H:Hp} {s:Shared} {d:Addr}
end
section
variable {X:Cx}
end
open PySem PySem.Spec PyProof.Rows
section
variable {prog:Program} {w:World} {A:Around} {E:Value->Shared->Prop} {h:Heap} {g:Array GenState} {d:Drawn} {t:Nat} {os:OsState}
variable {nm q:Str} {C N x:Addr} {bs bm:List Value} {hdct:Bool} {sn:List Str} {sub:List Value} {ab:Bool} {col:Option Bool} {dd:Option Addr} {k0 k1 k2 k3 k5:Option Value}
end
section
variable {prog:Program} {w:World} {A:Around} {E:Value->Shared->Prop} {K:Frag} {h:Heap} {g:Array GenState} {d:Drawn} {t:Nat} {os:OsState} {C f x:Addr} {o:Obj} {vs:Array Value}
end
open PySem PySem.Spec PyProof.Rows
section
variable {prog:Program} {w:World} {A:Around} {E:Value->Shared->Prop} {s:Shared} {K:Frag} {a D:Addr} {oe:Obj} {od:Option Obj}
end
open PySem PySem.Spec PyProof.Rows
end L2
namespace L2
open PySem PySem.Spec PyProof.Rows PySem.Builtin PySem.Builtin.Str
def slS (x:Str) (lo hi:Option Int):Str:=
 if ((strSliceIndices lo hi 1 x.length).length == x.length)=true then x else ⟨((strSliceIndices lo hi 1 x.length).filterMap (x.cps[·]?)).toArray⟩
def qEp:V->Option Int->Option Int->Hp->VK->Prop:=λx lo hi H Q=>∃ z,x=.str z/\(slS z lo hi).length<=sizeLine/\Q (.str (slS z lo hi)) H
theorem qv8 {X:Cx}:SlR X qEp:=by
 intro pins s σ H x v vl vu lo hi sl Q I rx hs pl pu h;obtain ⟨z,rfl,hz,q⟩:=h;obtain ⟨t,rfl⟩:=rx;obtain ⟨l,el,el2⟩:∃ l:Option (Int×Tok),vl=partValue l/\l.map (·.1)=lo:=by
  cases pl with
  | none=>exact ⟨none,rfl,rfl⟩
  | int i t=>exact ⟨some (i,t),rfl,rfl⟩
 obtain ⟨u,eu,eu2⟩:∃ u:Option (Int×Tok),vu=partValue u/\u.map (·.1)=hi:=by
  cases pu with
  | none=>exact ⟨none,rfl,rfl⟩
  | int i t=>exact ⟨some (i,t),rfl,rfl⟩
 subst el eu el2 eu2;have hs':s.heap.IsSlice sl l u none:=hs;refine ⟨"str",_,F.slot_str_getitem.lookup,typeIs_str _ _ _,wpAny_getItem_str_slice (l:=l) (u:=u) (st:=none) hs' rfl ?_⟩;unfold slS at q hz;unfold sliceMade slicePicked
 by_cases c:((strSliceIndices (l.map (·.1)) (u.map (·.1)) 1 z.length).length == z.length)=true
 ·rw[if_pos c] at q
  rw[if_pos (by simpa using c)];exact ⟨.str z,H,I,⟨_,rfl⟩,q⟩
 ·rw[if_neg c] at q hz
  rw[if_neg (by simpa using c)];exact ⟨hz,⟨.str _,H,I.tok _,⟨_,rfl⟩,q⟩⟩
open PySem PySem.Spec PyProof.Rows PySem.W
end L2
namespace L2
open PySem PySem.Spec PyProof.Rows PySem.W
section
variable {prog:Program} {w:World} {A:Around} {E:Value->Shared->Prop} {s:Shared}
end
section
variable {X:Cx}
inductive qkz  (x:V) (vs:List V) (H:Hp) (Q:VK):Prop
 | mk:∀ l b xs zs,x=.ref l->vs=[.ref b]->H l=some (.lst xs)->H b=some (.lst zs)->xs.length+zs.length<=sizeLine->(∀ H',But l H H'->H' l=some (.lst (xs ++ zs))->Q .non H')->qkz x vs H Q
def qup:V->List V->Hp->VK->Prop:=λx vs H Q=>qkz x vs H Q
theorem qpe:MtM X "list.extend" qup:=mt_extend.imp λ_ _ _ _ ⟨l,b,xs,zs,e1,e2,h,h2,z,q⟩=>⟨l,b,xs,zs,e1,e2,h,h2,z,q _ qb2 qba⟩
end
open PySem PySem.Spec PyProof.Rows
section
variable {prog:Program} {w:World} {A:Around} {R:Result->Shared->Prop} {I:Addr} {fp wr:List Addr} {n:Nat} {P:Nat->Value->Prop} {St:Nat->Heap->Prop} {K:Type} [DecidableEq K] {knd:KeyKind prog w K}
end
open PySem PySem.Spec PyProof.Rows
section
variable {prog:Program} {w:World} {A:Around} {E:Value->Shared->Prop} {s:Shared} {K:Type} [DecidableEq K] {knd:KeyKind prog w K}
end
open PySem PySem.Spec PyProof.Rows
theorem qDd {X:Cx}:qgz (CX1 X.prog X.w) X E0:=λ_ _ _ _ _ _ _ ⟨_,_,_,_,_,_,_,_,_,_,_,_,_,_,_,q⟩=>q.elim
section
variable {X:Cx} {k:Nat} {ps:List Str} {sp:Sp} {dvs:List V} {ds:List Value} {x:Str} {p pos:Pos} {e:Expr} {es:List Expr} {t:TA}
end
open PySem
def qDe (K:Frag):R2:=λx y H Q=>∃ (a b:Addr) (xs:List V),x=.ref a/\y=.ref b/\SqL K H a xs/\H b=some (.lst [])/\Q (.bl (decide (xs≠[]))) H
theorem qx6 {X:Cx} (hu:X.A.units+64<cLine):OpR X (compareOp .NotEq) (qDe X.K):=by
 intro pins s σ H x y v u Q I rx ry h;obtain ⟨a,b,xs,rfl,rfl,ha,hb,q⟩:=h
 cases (show v=Value.ref a from rx)
 cases (show u=Value.ref b from ry)
 obtain ⟨its,rv,pa,hz⟩:=I.list ha;obtain ⟨its2,rv2,pb,hz2⟩:=I.list (SqL.of hb);cases rv2
 cases rv with
 | nil =>
  exact SeqAt.RcNeAt.lists (e:=λ_=>true) pa.isList pb.isList rfl (by omega) (λj h1=>absurd h1 (Nat.not_lt_zero _)) X.prog X.w X.xe _ ⟨.bl _,H,I,rfl,q⟩
 | cons r1 r2 =>
  exact SeqAt.RcNeAt.lists_lengths pa.isList pb.isList (by simp) (by omega) X.prog X.w X.xe _ ⟨.bl _,H,I,rfl,q⟩
open PySem
def qx7:TE:=λ_ H Q=>∀ p H',New H H' p (.dK [])->Q (.ref p) H'
theorem qk0 {X:Cx} {pos:Pos}:PE X (.Dict [] [] pos) qx7:=λpins s σ H Q I h=>que pins s σ H Q I λp hp=>h p _ (qa0 hp)
open PySem
section
variable {X:Cx}
theorem jS (i:Nat) {x:Str} {e:Expr} {te:TE} {pos pos':Pos} (hN:X.N.Nodup) (he:PE X e te) (hi:X.N[i]?=some x:=by rfl) (hx:Loc X.env.scope x:=by exact Or.inl rfl) (hs:swapsWith e (some (.Name x pos')) pos.line X.env=pure false:=by rfl) (hf:X.fn x=true\/X.env.scope.names.lookup x=some .local:=by first|exact .inl rfl|exact .inr rfl|assumption):PS X (.Assign [.Name x pos'] e pos) (qzy te (qem i)):=qqj hN hi hx he hs hf
theorem jN (i:Nat) {x:Str} {pos:Pos} (hN:X.N.Nodup) (hi:X.N[i]?=some x:=by rfl) (hx:Loc X.env.scope x:=by exact Or.inl rfl) (hf:X.fn x=true\/X.env.scope.names.lookup x=some .local:=by first|exact .inl rfl|exact .inr rfl|assumption):PG X (.Name x pos) (qem i):=qja hN hi hx hf
theorem jM (i:Nat) {x:Str} {pos:Pos} (L:List Str) (hl:X.N=L:=by rfl) (hd:L.Nodup:=by decide +kernel) (hi:X.N[i]?=some x:=by rfl) (hx:Loc X.env.scope x:=by exact Or.inl rfl) (hf:X.fn x=true\/X.env.scope.names.lookup x=some .local:=by first|exact .inl rfl|exact .inr rfl|assumption):PG X (.Name x pos) (qem i):=qja (by rw[hl];exact hd) hi hx hf
theorem jF {k k2:Nat} {x:Str} {ps:List Str} {sp:Sp} {e:Expr} {es:List Expr} {t:TA} {p pos:Pos} (D:qbe X.prog X.w X.K X.mg X.base k x ps sp) (hr:Room k2 X.A) (ha:PA X (e :: es) t) (hk:k<=k2:=by decide) (hg:Gl X x:=by rfl) (hdb:(x == ("__debug__" : Str))=false:=by decide) (he:starEach (e :: es) X.env=(false,eval e X.env) :: starEach es X.env:=by rfl) (hpl:(backTo pos (starEach es X.env)).any (·.1)=false:=by rfl):PE X (.Call (.Name x p) (e :: es) [] pos) (qxg sp [] E0 t):=qC3 D (hr.mono hk) hg ha hdb he hpl
theorem jX {Y:Cx} {k k2:Nat} {x:Str} {ps:List Str} {sp:Sp} {e:Expr} {es:List Expr} {t:TA} {p pos:Pos} (D:qAl Y.prog Y.w Y.K Y.mg Y.base k x ps [] sp) (hr:Room k2 Y.A) (ha:PA Y.nox (e :: es) t) (hk:k<=k2:=by decide) (hs:qg7 Y:=by exact ⟨rfl,rfl,rfl⟩) (hg:Gl Y.nox x:=by rfl) (hdb:(x == ("__debug__" : Str))=false:=by decide) (he:starEach (e :: es) Y.nox.env=(false,eval e Y.nox.env) :: starEach es Y.nox.env:=by rfl) (hpl:(backTo pos (starEach es Y.nox.env)).any (·.1)=false:=by rfl):PE Y.nox (.Call (.Name x p) (e :: es) [] pos) (qre sp [] (λ_ _ _ _=>False) t):=qv4 (qbz hs) D (hr.mono hk) hg .nil ha hdb he hpl
theorem jW {Y:Cx} {W:XW} {k k2:Nat} {x:Str} {ps:List Str} {sp:Sp} {e:Expr} {es:List Expr} {t:TA} {p pos:Pos} (D:qAl Y.prog Y.w Y.K Y.mg Y.base k x ps [] sp) (hr:Room k2 Y.A) (ha:PA (Y.wish (XE Y W)) (e :: es) t) (hk:k<=k2:=by decide) (hs:qg7 Y:=by exact ⟨rfl,rfl,rfl⟩) (hg:Gl (Y.wish (XE Y W)) x:=by rfl) (hdb:(x == ("__debug__" : Str))=false:=by decide) (he:starEach (e :: es) Y.env=(false,eval e Y.env) :: starEach es Y.env:=by rfl) (hpl:(backTo pos (starEach es Y.env)).any (·.1)=false:=by rfl):PE (Y.wish (XE Y W)) (.Call (.Name x p) (e :: es) [] pos) (qre sp [] W t):=qv4 (qav hs) D (hr.mono hk) hg .nil ha hdb he hpl
theorem jC {op:CmpOp} {r:R2} {a b:Expr} {ta tb:TE} {pos:Pos} (ho:OpR X (compareOp op) r) (ha:PE X a ta) (hb:PE X b tb) (hm:behindInMarks op b=false:=by exact qvq _):PT X (.Compare a [op] [b] pos) (qxc (tOp r ta tb)):=qqr ho ha hb hm
theorem jD {op:CmpOp} {r:R2} {a b:Expr} {ta tb:TE} {pos:Pos} (ho:OpR X (compareOp op) r) (ha:PE X a ta) (hb:PE X b tb) (hm:behindInMarks op b=false:=by exact qvq _):PE X (.Compare a [op] [b] pos) (tOp r ta tb):=qqq ho ha hb hm
theorem jI {a b:Expr} {ta tb:TE} {pos:Pos} (ha:PE X a ta) (hb:PE X b tb) (hs:qmr b:=by exact λ_ _=>rfl):PE X (.Subscript a b pos) (tOp (qDu X.K) ta tb):=qxk qxl ha hb hs
theorem jT {a b:Expr} {ta tb:TE} {pos:Pos} (ha:PE X a ta) (hb:PE X b tb) (hs:qmr b:=by exact λ_ _=>rfl):PE X (.Subscript a b pos) (tOp (qCx X.K) ta tb):=qxk qvs ha hb hs
theorem jA1 {e1:Expr} {t1:TE} (h1:PE X e1 t1) (s1:starEach [e1] X.env=(false,eval e1 X.env) :: starEach [] X.env:=by rfl):PA X [e1] (qd3 t1 qig):=qbl h1 qes s1
theorem jA2 {e1 e2:Expr} {t1 t2:TE} (h1:PE X e1 t1) (h2:PE X e2 t2) (s1:starEach [e1,e2] X.env=(false,eval e1 X.env) :: starEach [e2] X.env:=by rfl) (s2:starEach [e2] X.env=(false,eval e2 X.env) :: starEach [] X.env:=by rfl):PA X [e1,e2] (qd3 t1 (qd3 t2 qig)):=qbl h1 (qbl h2 qes s2) s1
theorem jA3 {e1 e2 e3:Expr} {t1 t2 t3:TE} (h1:PE X e1 t1) (h2:PE X e2 t2) (h3:PE X e3 t3) (s1:starEach [e1,e2,e3] X.env=(false,eval e1 X.env) :: starEach [e2,e3] X.env:=by rfl) (s2:starEach [e2,e3] X.env=(false,eval e2 X.env) :: starEach [e3] X.env:=by rfl) (s3:starEach [e3] X.env=(false,eval e3 X.env) :: starEach [] X.env:=by rfl):PA X [e1,e2,e3] (qd3 t1 (qd3 t2 (qd3 t3 qig))):=qbl h1 (qbl h2 (qbl h3 qes s3) s2) s1
theorem jA4 {e1 e2 e3 e4:Expr} {t1 t2 t3 t4:TE} (h1:PE X e1 t1) (h2:PE X e2 t2) (h3:PE X e3 t3) (h4:PE X e4 t4) (s1:starEach [e1,e2,e3,e4] X.env=(false,eval e1 X.env) :: starEach [e2,e3,e4] X.env:=by rfl) (s2:starEach [e2,e3,e4] X.env=(false,eval e2 X.env) :: starEach [e3,e4] X.env:=by rfl) (s3:starEach [e3,e4] X.env=(false,eval e3 X.env) :: starEach [e4] X.env:=by rfl) (s4:starEach [e4] X.env=(false,eval e4 X.env) :: starEach [] X.env:=by rfl):PA X [e1,e2,e3,e4] (qd3 t1 (qd3 t2 (qd3 t3 (qd3 t4 qig)))):=qbl h1 (qbl h2 (qbl h3 (qbl h4 qes s4) s3) s2) s1
theorem jA5 {e1 e2 e3 e4 e5:Expr} {t1 t2 t3 t4 t5:TE} (h1:PE X e1 t1) (h2:PE X e2 t2) (h3:PE X e3 t3) (h4:PE X e4 t4) (h5:PE X e5 t5) (s1:starEach [e1,e2,e3,e4,e5] X.env=(false,eval e1 X.env) :: starEach [e2,e3,e4,e5] X.env:=by rfl) (s2:starEach [e2,e3,e4,e5] X.env=(false,eval e2 X.env) :: starEach [e3,e4,e5] X.env:=by rfl) (s3:starEach [e3,e4,e5] X.env=(false,eval e3 X.env) :: starEach [e4,e5] X.env:=by rfl) (s4:starEach [e4,e5] X.env=(false,eval e4 X.env) :: starEach [e5] X.env:=by rfl) (s5:starEach [e5] X.env=(false,eval e5 X.env) :: starEach [] X.env:=by rfl):PA X [e1,e2,e3,e4,e5] (qd3 t1 (qd3 t2 (qd3 t3 (qd3 t4 (qd3 t5 qig))))):=qbl h1 (qbl h2 (qbl h3 (qbl h4 (qbl h5 qes s5) s4) s3) s2) s1
theorem jG2 {e1 e2:Expr} {t1 t2:TG} {k:Nat} {pos:Pos} (h1:PG X e1 t1) (h2:PG X e2 t2) (hc:X.calm=true:=by rfl) (s1:(assignEach [e1,e2] X.env).map (·.2)=assign e1 X.env :: (assignEach [e2] X.env).map (·.2):=by rfl) (s2:(assignEach [e2] X.env).map (·.2)=assign e2 X.env :: (assignEach [] X.env).map (·.2):=by rfl) (hn:(assignEach [e1,e2] X.env).length=2:=by rfl) (hst:(assignEach [e1,e2] X.env).findIdx? (·.1)=none:=by rfl):PG X (.Tuple [e1,e2] k pos) (qzx X.K 2 (qie t1 (qie t2 qzw))):=qvo hc (qen h1 (qen h2 qqi s2) s1) hn hst
theorem jG3 {e1 e2 e3:Expr} {t1 t2 t3:TG} {k:Nat} {pos:Pos} (h1:PG X e1 t1) (h2:PG X e2 t2) (h3:PG X e3 t3) (hc:X.calm=true:=by rfl) (s1:(assignEach [e1,e2,e3] X.env).map (·.2)=assign e1 X.env :: (assignEach [e2,e3] X.env).map (·.2):=by rfl) (s2:(assignEach [e2,e3] X.env).map (·.2)=assign e2 X.env :: (assignEach [e3] X.env).map (·.2):=by rfl) (s3:(assignEach [e3] X.env).map (·.2)=assign e3 X.env :: (assignEach [] X.env).map (·.2):=by rfl) (hn:(assignEach [e1,e2,e3] X.env).length=3:=by rfl) (hst:(assignEach [e1,e2,e3] X.env).findIdx? (·.1)=none:=by rfl):PG X (.Tuple [e1,e2,e3] k pos) (qzx X.K 3 (qie t1 (qie t2 (qie t3 qzw)))):=qvo hc (qen h1 (qen h2 (qen h3 qqi s3) s2) s1) hn hst
theorem jB2 {s1 s2:Stmt} {t1 t2:TS} (h1:PS X s1 t1) (h2:PS X s2 t2):PSs X [s1,s2] (qed t1 t2):=qaq h1 (qae h2)
theorem jB3 {s1 s2 s3:Stmt} {t1 t2 t3:TS} (h1:PS X s1 t1) (h2:PS X s2 t2) (h3:PS X s3 t3):PSs X [s1,s2,s3] (qed t1 (qed t2 t3)):=qaq h1 (qaq h2 (qae h3))
theorem jB4 {s1 s2 s3 s4:Stmt} {t1 t2 t3 t4:TS} (h1:PS X s1 t1) (h2:PS X s2 t2) (h3:PS X s3 t3) (h4:PS X s4 t4):PSs X [s1,s2,s3,s4] (qed t1 (qed t2 (qed t3 t4))):=qaq h1 (qaq h2 (qaq h3 (qae h4)))
theorem jB5 {s1 s2 s3 s4 s5:Stmt} {t1 t2 t3 t4 t5:TS} (h1:PS X s1 t1) (h2:PS X s2 t2) (h3:PS X s3 t3) (h4:PS X s4 t4) (h5:PS X s5 t5):PSs X [s1,s2,s3,s4,s5] (qed t1 (qed t2 (qed t3 (qed t4 t5)))):=qaq h1 (qaq h2 (qaq h3 (qaq h4 (qae h5))))
theorem jB7 {s1 s2 s3 s4 s5 s6 s7:Stmt} {t1 t2 t3 t4 t5 t6 t7:TS} (h1:PS X s1 t1) (h2:PS X s2 t2) (h3:PS X s3 t3) (h4:PS X s4 t4) (h5:PS X s5 t5) (h6:PS X s6 t6) (h7:PS X s7 t7):PSs X [s1,s2,s3,s4,s5,s6,s7] (qed t1 (qed t2 (qed t3 (qed t4 (qed t5 (qed t6 t7)))))):=qaq h1 (qaq h2 (qaq h3 (qaq h4 (qaq h5 (qaq h6 (qae h7))))))
theorem qEq {s1 s2 s3 s4 s5 s6 s7 s8 s9 s10 s11 s12:Stmt} {t1 t2 t3 t4 t5 t6 t7 t8 t9 t10 t11 t12:TS} (h1:PS X s1 t1) (h2:PS X s2 t2) (h3:PS X s3 t3) (h4:PS X s4 t4) (h5:PS X s5 t5) (h6:PS X s6 t6) (h7:PS X s7 t7) (h8:PS X s8 t8) (h9:PS X s9 t9) (h10:PS X s10 t10) (h11:PS X s11 t11) (h12:PS X s12 t12):PSs X [s1,s2,s3,s4,s5,s6,s7,s8,s9,s10,s11,s12] (qed t1 (qed t2 (qed t3 (qed t4 (qed t5 (qed t6 (qed t7 (qed t8 (qed t9 (qed t10 (qed t11 t12))))))))))):=qaq h1 (qaq h2 (qaq h3 (qaq h4 (qaq h5 (qaq h6 (qaq h7 (qaq h8 (qaq h9 (qaq h10 (qaq h11 (qae h12)))))))))))
theorem jL0 {scope:Scope} {cl:List (Str×Addr)} (h1:closureFor scope X.env=pure cl) (h2:scope.kind=.function:=by rfl) (h3:∀ y∈scope.names,y.2≠.cell:=by decide +kernel) (h4:∀ y∈scope.names,y.2=.local->scope.names.lookup y.1=some .local:=by decide +kernel) (h5:∀ p∈cl,X.env.cells.lookup p.1=some p.2:=by intro p hp;cases hp) (h6:((relabel scope X.env).names.all λy=>(y.2 != .cell && y.2 != .free) || (cl.lookup y.1).isSome)=true:=by rfl):qv0 X scope cl:=qC9 h1 h2 h3 h4 h5 h6
theorem jL1 {scope:Scope} {cl:List (Str×Addr)} (h1:closureFor scope X.env=pure cl) (h2:scope.kind=.function:=by rfl) (h3:∀ y∈scope.names,y.2≠.cell:=by decide +kernel) (h4:∀ y∈scope.names,y.2=.local->scope.names.lookup y.1=some .local:=by decide +kernel) (h5:∀ p∈cl,X.env.cells.lookup p.1=some p.2:=by intro p hp;simp only[List.mem_cons,List.not_mem_nil,or_false] at hp;rcases hp with rfl<;>rfl) (h6:((relabel scope X.env).names.all λy=>(y.2 != .cell && y.2 != .free) || (cl.lookup y.1).isSome)=true:=by rfl):qv0 X scope cl:=qC9 h1 h2 h3 h4 h5 h6
theorem jL2 {scope:Scope} {cl:List (Str×Addr)} (h1:closureFor scope X.env=pure cl) (h2:scope.kind=.function:=by rfl) (h3:∀ y∈scope.names,y.2≠.cell:=by decide +kernel) (h4:∀ y∈scope.names,y.2=.local->scope.names.lookup y.1=some .local:=by decide +kernel) (h5:∀ p∈cl,X.env.cells.lookup p.1=some p.2:=by intro p hp;simp only[List.mem_cons,List.not_mem_nil,or_false] at hp;rcases hp with rfl|rfl<;>rfl) (h6:((relabel scope X.env).names.all λy=>(y.2 != .cell && y.2 != .free) || (cl.lookup y.1).isSome)=true:=by rfl):qv0 X scope cl:=qC9 h1 h2 h3 h4 h5 h6
end
open PySem PyProof PyProof.Rows
section
variable {X:Cx}
end
open PySem PySem.Calls PySem.NumText PyProof.Rows
section
variable {prog:Program} {w:World} {A:Around} {E:Value->Shared->Prop} {s:Shared} {Q:Value->Shared->Prop} {x:PySem.Str} {t:Tok} {n:Int}
end
open PySem PySem.Spec PyProof.Rows PySem.Builtin PySem.Builtin.Str
def S (l:List Nat):Str:=⟨l.toArray⟩
theorem qd4 (l:List Nat):(S l).length=l.length:=by show l.toArray.size=_;simp
theorem qpf {a b:List Nat} (h:S a=S b):a=b:=by
 have:=congrArg (λx:Str=>x.cps.toList) h
 simpa [S] using this
theorem qAu (a b:List Nat):S a ++ S b=S (a ++ b):=by
 show (⟨a.toArray ++ b.toArray⟩:Str)=⟨(a ++ b).toArray⟩
 simp
theorem qk1 {X:Cx}:CallR X (.builtin "len") (λxs H Q=>∃ z,xs=[.str (S z)]/\z.length<=sizeLine/\Q (.int z.length) H):=by
 intro pins s σ H xs us Q I r h;obtain ⟨z,rfl,hz,q⟩:=h;exact qt4 pins s σ H _ us Q I r ⟨_,_,rfl,⟨by rw[qd4];exact hz,rfl⟩,by rw[qd4];exact q⟩
theorem qv9 {X:Cx} {a b:Expr} {ta tb:TE} {pos:Pos} (ha:PE X a ta) (hb:PE X b tb) (hs:qt3 b) :
  PE X (.Subscript a b pos) (tOp (λx y H Q=>∃ z i c,x=.str (S z)/\y=.int i/\0<=i/\i<2 ^ 63/\z[i.toNat]?=some c/\Q (.str (S [c])) H) ta tb):=by
 intro pins s σ H Q I h;refine Subscript_ (qB9 ha hb I h λv u s2 x y H2 I2 rx ry q=>?_);obtain ⟨z,i,c,rfl,rfl,h0,h63,hc,q⟩:=q;obtain ⟨t,rfl⟩:=rx;obtain ⟨t',rfl⟩:=ry;have hl:=(List.getElem?_eq_some_iff.mp hc).1;have e:seqIndex? i (S z).length=some i.toNat:=PySem.StrLaws.seqIndex_nonneg h0 (by rw[qd4];omega);exact tail_any (typeIs_str s2 (S z) t) PySem.F.slot_str_getitem.lookup (getItem_str (c:=c) (by
  have e1:decide (i < -(2 ^ 63:Int))=false:=decide_eq_false (by omega);have e2:decide (i ≥ 2 ^ 63)=false:=decide_eq_false (by omega);rw[e1,e2]<;>rfl) (by rw[e];simpa [S] using hc) ⟨.str (S [c]),H2,I2.tok _,⟨_,rfl⟩,q⟩) (hs _ _)
def Its (x:List Nat):It:=⟨λi _=>i<x.length,λi H v H'=>H'=H/\∃ c,x[i]?=some c/\v=.str (S [c]),λi _=>i=x.length⟩
theorem qns {P:Program} {w:World} {K:Frag} {tg:Expr} (it:Addr) (x:List Nat) (t:Tok) (ty:String) (hty:ty = "str_ascii_iterator" \/ ty = "str_iterator"):Turn P w K tg (Its x) [it] it (λi h=>h.IsStrIter it ty (S x) t i) where
 mem:=by simp
 obj:=λi h st b hb=>by
  have e:b=it:=by simpa using hb
  subst e;obtain ⟨o,e,c,d⟩:=st;exact ⟨o,e,λv z=>by rw[d] at z;cases z⟩
 keep:=λi h h' st k=>by
  obtain ⟨o,ho,r⟩:=st;exact ⟨o,k it (by simp) o ho,r⟩
 item:=by
  intro X hP hw hK hc i pins s σ H E I hf st hg;subst hP hw hK;obtain ⟨f0,f1,f2,f3,f4,f5⟩:=hf it (by simp);have W:Walks X.prog X.w X.A it [it] [it] (S x).cps.size (SignAt (S x)) (λi h=>h.IsStrIter it ty (S x) t i):=by
   rcases hty with rfl|rfl
   ·exact Walks.strAscii (I.ok.hd hc) it (S x) t
   ·exact Walks.strWide (I.ok.hd hc) it (S x) t
  refine W.item i s _ _ (by have hg':i<x.length:=hg;show i<x.toArray.size;simpa using hg') st λv h' tk hv st' kk=>?_
  obtain ⟨c,u,hx,rfl⟩:=hv;have I1:Inv X pins σ H { s with heap:=h',toks:=tk }:=I.turned (λb o hb e=>kk b o (by simpa using hb) e) f0 f1 f3 f4 f5;obtain ⟨o,e,hcl,d⟩:=id st';exact ⟨_,rfl,qtz (s:={ s with heap:=h',toks:=tk }) e hcl d (by rcases hty with rfl|rfl<;>decide) ⟨.str (S [c]),H,I1,⟨u,rfl⟩,⟨rfl,c,by simpa [S] using hx,rfl⟩,st',λb hb=>(hf b hb).1⟩⟩
 done:=by
  intro X hP hw hK hc i pins s σ H E I hf st hg;subst hP hw hK;obtain ⟨f0,f1,f2,f3,f4,f5⟩:=hf it (by simp);have W:Walks X.prog X.w X.A it [it] [it] (S x).cps.size (SignAt (S x)) (λi h=>h.IsStrIter it ty (S x) t i):=by
   rcases hty with rfl|rfl
   ·exact Walks.strAscii (I.ok.hd hc) it (S x) t
   ·exact Walks.strWide (I.ok.hd hc) it (S x) t
  have e:i=(S x).cps.size:=by
   have h2:i=x.length:=hg;rw[h2];show x.length=x.toArray.size;simp
  subst e;exact W.done s _ _ st λh' tk kk=>⟨rfl,I.turned (λb o hb e=>kk b o (by simpa using hb) e) f0 f1 f3 f4 f5⟩
 self:=λA i s Q E st h=>by
  rcases hty with rfl|rfl
  ·exact wpAny_pyIter_striter_ascii st h
  ·exact wpAny_pyIter_striter_wide st h
def qEr (tl:TE):TI:=λσ H R=>tl σ H λx H1=>∃ z,x=.str (S z)/\R (Its z) H1
theorem qAv {X:Cx} {tg l:Expr} {tl:TE} (hl:PE X l tl):PI X tg l (qEr tl):=by
 intro pins s σ H R I h;refine thn (hl pins s σ H _ I h) λv s1 hq__=>?_
 obtain ⟨x,H1,I1,r1,q1⟩:=hq__;obtain ⟨z,e,q⟩:=q1;subst e;obtain ⟨t,rfl⟩:=r1;have fin:∀ b∈[s1.heap.objs.size],qnd X pins H1 b:=λb hb=>by
  have e:b=s1.heap.objs.size:=by simpa using hb
  subst e;exact I1.fpOk (Nat.le_refl _) (I1.hok.fresh (Nat.le_refl _))
 cases ha:(S z).cps.all (· < 128)
 ·exact wpAny_pyIter_wide ha ⟨s1.heap.objs.size,[s1.heap.objs.size],_,_,H1,rfl,I1.kept (t':=s1.toks) λb o e=>Heap.get?_push_of_some _ e,qns _ z t "str_iterator" (.inr rfl),⟨_,Heap.get?_push_size _ rfl,rfl,rfl⟩,fin,q⟩
 ·exact wpAny_pyIter_ascii ha ⟨s1.heap.objs.size,[s1.heap.objs.size],_,_,H1,rfl,I1.kept (t':=s1.toks) λb o e=>Heap.get?_push_of_some _ e,qns _ z t "str_ascii_iterator" (.inl rfl),⟨_,Heap.get?_push_size _ rfl,rfl,rfl⟩,fin,q⟩
theorem qAw {x:List Nat} {g:TG} {tc:TT} {te:TE} {Q:VK} {σ:St} {H:Hp} (Pv:Nat->List V->Hp->Prop) (hz:x.length<=sizeLine) (h0:Pv 0 [] H) (hl:∀ i ys H,Pv i ys H->ys.length<=i)
  (hs:∀ i c ys H,x[i]?=some c->Pv i ys H->g (.str (S [c])) σ H λσ4 H4=>tc σ4 H4 λb H5=>if b=true then te σ4 H5 λv H6=>Pv (i+1) (ys ++ [v]) H6 else Pv (i+1) ys H5)
  (hd:∀ ys H p H',Pv x.length ys H->New H H' p (.lst ys)->Q (.ref p) H'):qd5 (Its x) Q g tc te σ H:=by
 refine ⟨λi m ys H=>m=x.length-i/\i<=x.length/\Pv i ys H,⟨x.length,by simp,Nat.zero_le _,h0⟩,?_⟩;rintro i m ys H2 ⟨rfl,hi,p⟩;have hy:=hl i ys H2 p
 by_cases hlt:i<x.length
 ·refine .inr ⟨hlt,by omega,Pv (i+1),λzs H' p'=>⟨x.length-(i+1),by omega,rfl,hlt,p'⟩,λv H3 y=>?_⟩
  obtain ⟨e,c,y,z⟩:=y;subst e z;exact hs i c ys _ y p
 ·have e:i=x.length:=by omega
  subst e;exact .inl ⟨rfl,by omega,λp' hp'=>hd ys H2 p' _ p (qa0 hp')⟩
theorem qx8 (K:Frag):PySem.W.kitOne K (.type "str") (.type "str")=some true:=by rfl
theorem qAx {X:Cx}:OpR X (compareOp .In) (λx y H Q=>∃ c j,x=.str (S [c])/\y=.str j/\Q (.bl (decide (c∈j.cps.toList))) H):=by
 intro pins s σ H x y v u Q I rx ry h;obtain ⟨c,j,rfl,rfl,q⟩:=h;exact qqp pins s σ H _ _ v u Q I rx ry ⟨_,j,rfl,rfl,by rw[show S [c]=⟨#[c]⟩ from rfl,PySem.StrLaws.found_one];exact q⟩
theorem qwa (x:List Nat) {a b:Nat} (hab:a<=b) (hb:b<=x.length) {lo hi:Option Int} (h:strSliceIndices lo hi 1 (S x).length=strSliceIndices (some (a:Int)) (some (b:Int)) 1 (S x).length):slS (S x) lo hi=S ((x.drop a).take (b-a)):=by
 have hb':b<=(S x).length:=by rw[qd4];exact hb
 have e:=PySem.StrLaws.sliced_plain (S x) hab hb';unfold slS;rw[h]
 by_cases c:((strSliceIndices (some (a:Int)) (some (b:Int)) 1 (S x).length).length == (S x).length)=true
 ·rw[if_pos c]
  have hl:b-a=x.length:=by
   have:=eq_of_beq c;rw[PySem.StrLaws.strSliceIndices_plain hab hb',qd4] at this
   simpa using this
  have h1:a=0:=by omega
  rw[h1,List.drop_zero,Nat.sub_zero,List.take_of_length_le (by omega)]
 ·rw[if_neg c,e]
  show (⟨_⟩:Str)=⟨_⟩
  simp[S]
theorem qx9 (x:List Nat) {k:Nat} (h:k<=x.length):slS (S x) none (some (k:Int))=S (x.take k):=by
 have e:=qwa x (Nat.zero_le k) h (lo:=none) (hi:=some (k:Int)) (by
  unfold strSliceIndices;have:max (0:Int) (min (0:Int) ((S x).length:Int))=0:=by omega
  simp[this])
 simpa using e
theorem qya (x:List Nat) (k:Nat):slS (S x) (some (k:Int)) none=S (x.drop k):=by
 have key:∀ k:Nat,k<=x.length->slS (S x) (some (k:Int)) none=S (x.drop k):=λk hk=>by
  have e:=qwa x hk (Nat.le_refl _) (lo:=some (k:Int)) (hi:=none) (by
   rw[qd4];unfold strSliceIndices;have h1:max (0:Int) (min (x.length:Int) (x.length:Int))=x.length:=by omega
   have h2:¬ (x.length:Int)<0:=by omega
   simp[h1,h2])
  rw[e,List.take_of_length_le (by simp)]
 by_cases hk:k<=x.length
 ·exact key k hk
 ·have h1:=key x.length (Nat.le_refl _)
  rw[List.drop_eq_nil_of_le (by omega)];rw[List.drop_eq_nil_of_le (by omega)] at h1;rw[<- h1];unfold slS;rw[indices_beyond (n:=(S x).length) (i:=(k:Int)) (by rw[qd4];omega),qd4]
open PySem PySem.Spec PyProof.Rows PySem.Builtin PySem.Builtin.Str
def qih (sep:List Nat):List (List Nat)->List Nat
 | []=>[]
 | [p]=>p
 | p :: ps=>p ++ sep ++ qih sep ps
theorem qwb (sep:List Nat):∀ (ps:List (List Nat)) (a:List Nat),(ps.map S).foldl (λacc p=>acc ++ (S sep).cps ++ p.cps) a.toArray=(match ps with|[]=>a|_=>a ++ sep ++ qih sep ps).toArray
 | [],a=>rfl
 | [p],a=>by
  show (a.toArray ++ sep.toArray ++ p.toArray)=_
  simp[qih]
 | p :: r :: ps,a=>by
  have ih:=qwb sep (r :: ps) (a ++ sep ++ p);rw[List.map_cons,List.foldl_cons];have e:a.toArray ++ (S sep).cps ++ (S p).cps=(a ++ sep ++ p).toArray:=by show a.toArray ++ sep.toArray ++ p.toArray=_;simp
  rw[e,ih]
  simp[qih]
theorem qAy (sep:List Nat) (ps:List (List Nat)):PySem.Txt.join (S sep) (ps.map S)=S (qih sep ps):=by
 unfold PySem.Txt.join glued
 cases ps with
 | nil=>rfl
 | cons p ps =>
  show (⟨(ps.map S).foldl (λacc p=>acc ++ (S sep).cps ++ p.cps) p.toArray⟩:Str)=_
  rw[qwb]
  cases ps with
  | nil=>rfl
  | cons r ps=>simp[qih,S]
def rJoin (K:Frag) (x:V) (vs:List V) (H:Hp) (Q:VK):Prop:=∃ sep ps p,x=.str (S sep)/\vs=[.ref p]/\SqL K H p (ps.map λq=>V.str (S q))/\(ps.map List.length).sum+ps.length*sep.length<=1000000/\Q (.str (S (qih sep ps))) H
theorem qnt:∀ {ps:List (List Nat)} {us:List Value},Vals (ps.map λq=>V.str (S q)) us->StrsAre us (ps.map S)
 | [],_,.nil=>.nil
 | p :: ps,_,.cons ⟨t,e⟩ r=>by subst e;exact .cons _ _ (qnt r)
theorem qyb {X:Cx}:MtR X "str.join" (rJoin X.K):=by
 intro pins s σ H x xs v us Q I rx r h;obtain ⟨sep,ps,p,rfl,rfl,hq,hz,q⟩:=h;obtain ⟨t,rfl⟩:=rx;obtain ⟨u,rfl,ru⟩:=vals1 r
 cases (show u=Value.ref p from ru)
 obtain ⟨its,rv,pl,_⟩:=I.list hq;refine join_list (ys:=ps.map S) pl.isList (by simpa using qnt rv) ?_ λt' k=>⟨.str (S (qih sep ps)),H,I.tok _,⟨t',by rw[qAy]⟩,q⟩
 have e:((ps.map S).map (·.length))=ps.map List.length:=by
  rw[List.map_map];exact List.map_congr_left λl _=>qd4 l
 rw[e,List.length_map,qd4];omega
open PySem PySem.Spec PyProof.Rows
section
variable {X:Cx} {pins:List (Addr×Obj)} {σ:St} {H:Hp} {s:Shared} {scope:Scope} {cl:List (Str×Addr)} {vars frees:List Str} {fv:List Nat} {elt target iter:Expr} {ifs:List Expr} {pos:Pos}
end
section
variable {X:Cx} {σ:St} {EK:XK} {C:Addr} {k:Nat} {x:Str} {ps:List Str} {ds:List Value} {dvs:List V} {sp:Sp} {e:Expr} {es:List Expr} {t:TA} {p pos:Pos} {Nc:List Str} {scope:Scope} {cl:List (Str×Addr)} {s0:Shared} {H0:Hp} {ex:List Addr}
end
open PySem PySem.Spec PyProof.Rows
theorem qdz:∀ {ss:List Str} {us:List Value},Vals (ss.map V.str) us->StrsAre us ss
 | [],_,.nil=>.nil
 | s :: ss,_,.cons ⟨t,e⟩ r=>by subst e;exact .cons _ _ (qdz r)
theorem qey:∀ {ss:List Str} {us:List Value},StrsAre us ss->Vals (ss.map V.str) us
 | _,_,.nil=>.nil
 | _,_,.cons y t r=>.cons ⟨t,rfl⟩ (qey r)
theorem qk2 {X:Cx}:CallR X (.builtin "sorted") (λxs H Q=>∃ (p:Addr) (ss:List Str),xs=[.ref p]/\SqL X.K H p (ss.map V.str)/\ss.length<64/\∀ (ms:List Str) l H',ms.Perm ss->sortedS ms=true->New H H' l (.lst (ms.map V.str))->Q (.ref l) H'):=by
 intro pins s σ H xs us Q I r h;obtain ⟨p,ss,rfl,hq,h64,q⟩:=h;obtain ⟨u,rfl,ru⟩:=vals1 r
 cases (show u=Value.ref p from ru)
 obtain ⟨its,rv,pl,hz⟩:=I.list hq;have hi:StrsAre its ss:=qdz rv;have hln:its.length=ss.length:=by have:=rv.length;simpa using this.symm
 refine sorted_strs pl.isList hi (by omega) λout ms a1 a2 a3=>?_
 obtain ⟨e,he⟩:=sortedAll_at s.heap its out;have hl:ms.length<=sizeLine:=by rw[a2.length_eq];simpa using hz
 refine ⟨.ref (s.heap.objs.size+1),upd H (s.heap.objs.size+1) (.lst (ms.map V.str)),I.laid (t':=s.toks) (λ_ _=>sortedAll_old) (Nat.le_succ _) ⟨by simpa using hl,out.toList,e,qey a1,?_⟩,rfl,q ms _ _ a2 a3 (qa0 (I.hok.fresh (Nat.le_succ _)))⟩;rw[he]
open PySem PySem.Spec PyProof.Rows
theorem qjm:plainId "set.update.loop" = true:=by decide +kernel
theorem qnu:entryFor table "set.update.loop" = some Builtin.«set.update.loop» :=entryFor_of_fast (by kernel_rfl)
theorem qmx (a:Value):checkTypeCall "set" ⟨[a],[]⟩=pure ():=by kernel_rfl
theorem qpg (a:Value):checkBuiltinCall "set.__new__" ⟨[.type "set",a],[]⟩=pure ():=by kernel_rfl
section
variable {prog:Program} {w:World} {A:Around} {E:Value->Shared->Prop} {s:Shared}
theorem quq {M:Model} {self a:Value} {Q:Unit->Shared->Prop} (hT:s.TypeIs self "set") (hQ:Q () s) :
  wpAny M A (checkBuiltinCall "set.__init__" ⟨[self,a],[]⟩) Q E s:=by
 simp only[checkBuiltinCall,kind_set_init,split_set_init,sig_set_init];refine wpAny_bind (wpAny_isInstance hT sub_set_self ?_);simp only[Bool.not_true,Bool.false_eq_true,if_false];unfold Bind.checkArgs;dsimp only;refine wpAny_bind (m:=Bind.printed "set" true _ _) (PyProof.Rows.printed_name (by decide) ?_);refine wpAny_bind (m:=Bind.printed "*" false _ _) (PyProof.Rows.printed_star (self:=self) rfl hT λshort=>?_);have hrn:(Manifest.Receiver.self == Manifest.Receiver.none)=false:=by decide
 have hn:(if (Manifest.Receiver.self == Manifest.Receiver.none)=true then [self,a].length else [self,a].length-1)=1:=by simp[hrn]
 rw[hn];simp only[List.map_nil];have hc:Bind.check ⟨.positional, "set", "*",.self,[⟨"iterable",.posOnly,false⟩]⟩ "set" short 1 []=pure ():=by
  simp[Bind.check,Bind.checkCount,Bind.isPositional]
  intro h;exact absurd h (by decide)
 rw[hc];exact wpAny_pure hQ
end
section
variable {prog:Program} {w:World} {A:Around} {R:Result->Shared->Prop} {I:Addr} {fp wr:List Addr} {n:Nat} {P:Nat->Value->Prop} {St:Nat->Heap->Prop} {K:Type} [DecidableEq K] {knd:KeyKind prog w K}
def qct:List K->Nat
 | []=>0
 | k :: l=>if k∈l then qct l else qct l+1
theorem qez (l:List K):qct l<=l.length:=by
 induction l with
 | nil=>exact Nat.le_refl _
 | cons k l ih=>unfold qct;split<;>simp<;>omega
end
section
variable {prog:Program} {w:World} {A:Around} {E:Value->Shared->Prop} {s:Shared} {K:Type} [DecidableEq K] {knd:KeyKind prog w K}
theorem qrn {p:Addr} {Q:Bool->Shared->Prop} (hT:s.TypeIs (.ref p) "list") (h:Q false s):wpAny (model prog w) A (Builtin.Frozenset.isAnySet (.ref p)) Q E s:=by
 have f1:=F.sub_list_set;have f2:=F.sub_list_frozenset;unfold Builtin.Frozenset.isAnySet
 wp_walk
 exact h
end
theorem qro:∀ {ss:List Str} {us:List Value},Vals (ss.map V.str) us->ss.length=us.length/\∀ (i:Nat) v,us[i]?=some v->∃ k t,v=.str k t/\ss[i]?=some k
 | [],_,.nil=>⟨rfl,λi v h=>by simp at h⟩
 | x :: ss,_,.cons ⟨t,e⟩ r=>by
  subst e;obtain ⟨h1,h2⟩:=qro r;refine ⟨by simp[h1],λi v h=>?_⟩
  cases i with
  | zero=>cases h;exact ⟨x,t,rfl,rfl⟩
  | succ i=>exact h2 i v h
theorem qrp:bootBuiltins "set" = some (.type "set"):=by decide +kernel
open PySem PySem.Spec PyProof.Rows
def leT (a b:List Nat):Bool:=decide (¬ b<a)
def qay (l:List (List Nat)):List (List Nat):=l.mergeSort leT
theorem qk3 (a b c:List Nat) (h1:leT a b=true) (h2:leT b c=true):leT a c=true:=by
 unfold leT at *
 have h1:=of_decide_eq_true h1;have h2:=of_decide_eq_true h2;exact decide_eq_true (List.le_trans h1 h2)
theorem qrq (a b:List Nat):(leT a b || leT b a)=true:=by
 unfold leT
 rcases List.le_total a b with h|h
 ·rw[show decide (¬ b<a)=true from decide_eq_true h];rfl
 ·rw[show decide (¬ a<b)=true from decide_eq_true h,Bool.or_true]
theorem qur {a b:List Nat} (h1:leT a b=true) (h2:leT b a=true):a=b:=List.le_antisymm (of_decide_eq_true h1) (of_decide_eq_true h2)
theorem qah (l:List (List Nat)):(qay l).Perm l:=List.mergeSort_perm l leT
theorem qus (l:List (List Nat)):(qay l).Pairwise (λa b=>leT a b=true):=List.pairwise_mergeSort qk3 qrq l
theorem qAz:∀ {a b:List (List Nat)},a.Perm b->a.Pairwise (λa b=>leT a b=true)->b.Pairwise (λa b=>leT a b=true)->a=b
 | [],b,p,_,_=>p.nil_eq
 | x :: a,[],p,_,_=>absurd p.symm.nil_eq (by simp)
 | x :: a,y :: b,p,h1,h2=>by
  have h1':=List.pairwise_cons.mp h1;have h2':=List.pairwise_cons.mp h2;have e:x=y:=by
   rcases List.mem_cons.mp (p.mem_iff.mp (List.mem_cons_self (a:=x) (l:=a))) with e|e
   ·exact e
   ·rcases List.mem_cons.mp (p.symm.mem_iff.mp (List.mem_cons_self (a:=y) (l:=b))) with e'|e'
    ·exact e'.symm
    ·exact qur (h1'.1 y e') (h2'.1 x e)
  subst e;rw[qAz (List.Perm.cons_inv p) h1'.2 h2'.2]
theorem qut {a b:List (List Nat)} (p:a.Perm b) (h:a.Pairwise (λa b=>leT a b=true)):a=qay b:=qAz (p.trans (qah b).symm) h (qus b)
theorem qk4:∀ (x:List Nat) (l:List (List Nat)),risingS (S x) (l.map S)=true->(x :: l).Pairwise (λa b=>leT a b=true)
 | x,[],_=>List.pairwise_singleton ..
 | x,y :: l,h=>by
  have h:(!ltCps (S y).cps.toList (S x).cps.toList && risingS (S y) (l.map S))=true:=h;rw[Bool.and_eq_true] at h;have t:=qk4 y l h.2;have e:leT x y=true:=by
   have h1:=h.1;rw[ltCps_eq] at h1;unfold leT S at *
   simpa using h1
  refine List.pairwise_cons.mpr ⟨λz hz=>?_,t⟩
  rcases List.mem_cons.mp hz with rfl|hz
  ·exact e
  ·exact qk3 _ _ _ e ((List.pairwise_cons.mp t).1 z hz)
theorem qph:∀ {l:List (List Nat)},sortedS (l.map S)=true->l.Pairwise (λa b=>leT a b=true)
 | [],_=>.nil
 | x :: l,h=>qk4 x l h
theorem qDx (x:Str):S x.cps.toList=x:=by unfold S;simp
theorem qjn {ss:List (List Nat)} {ms:List Str} (p:ms.Perm (ss.map S)) (h:sortedS ms=true):ms=(qay ss).map S:=by
 have e:ms=(ms.map λx=>x.cps.toList).map S:=by
  rw[List.map_map]
  conv=>lhs;rw[<- List.map_id ms]
  exact List.map_congr_left λx _=>(qDx x).symm
 have e2:(ss.map S).map (λx=>x.cps.toList)=ss:=by
  rw[List.map_map]
  conv=>rhs;rw[<- List.map_id ss]
  exact List.map_congr_left λx _=>by show (S x).cps.toList=x;unfold S;simp
 rw[e] at h;have p':=p.map (λx=>x.cps.toList);rw[e2] at p';rw[e,qut p' (qph h)]
theorem qjo {X:Cx}:CallR X (.builtin "sorted") (λxs H Q=>∃ (p:Addr) (ss:List (List Nat)),xs=[.ref p]/\SqL X.K H p (ss.map λq=>V.str (S q))/\ss.length<64/\∀ l H',New H H' l (.lst ((qay ss).map λq=>V.str (S q)))->Q (.ref l) H'):=by
 intro pins s σ H xs us Q I r h;obtain ⟨p,ss,rfl,hq,h64,q⟩:=h;refine qk2 pins s σ H _ us Q I r ⟨p,ss.map S,rfl,by rw[List.map_map];exact hq,by simpa using h64,λms l H' h1 h2 n=>q l H' ?_⟩;rw[qjn h1 h2,List.map_map] at n;exact n
section
variable {X:Cx}
theorem qrr {P:Program} {w:World}:∀ {kvs:List (Key×V)} {vs:List (Key×Value)} {es:List DictEntry},KV kvs vs->PySem.Pairs (qbj P w) es vs->kvs.length=es.length/\∀ (i:Nat) k v,kvs[i]?=some (k,v)->∃ e,es[i]?=some e/\RelV (kV k) e.key/\RelV v e.val
 | _,_,_,.nil,.nil=>⟨rfl,λi k v h=>by simp at h⟩
 | _,_,_,.cons (a:=p) (b:=q) ⟨h1,h2⟩ t,.cons (e:=e) hk hv r=>by
  obtain ⟨hl,at_⟩:=qrr t r;refine ⟨by simp[hl],λi k v h=>?_⟩
  cases i with
  | zero =>
   cases h;refine ⟨e,rfl,?_,?_⟩
   ·subst h1
    rcases qa6 hk with ⟨i,t,e1,e2⟩|⟨x,t,e1,e2⟩
    ·rw[e1,e2];exact ⟨t,rfl⟩
    ·rw[e1,e2];exact ⟨t,rfl⟩
   ·rw[hv];exact h2
  | succ i=>exact at_ i k v h
theorem qg9:∀ {xs:List V} {us:List Value},xs.length=us.length->(∀ (i:Nat) x v,xs[i]?=some x->us[i]?=some v->RelV x v)->Vals xs us
 | [],[],_,_=>.nil
 | [],_ :: _,h,_=>by simp at h
 | _ :: _,[],h,_=>by simp at h
 | x :: xs,u :: us,h,g=>.cons (g 0 x u rfl rfl) (qg9 (by simpa using h) λi y v hy hv=>g (i+1) y v hy hv)
theorem qii (hc:X.calm=true):CallR X (.builtin "sorted") (λxs H Q=>∃ (a:Addr) (kvs:List (Key×V)) (ss:List (List Nat)),xs=[.ref a]/\Rd H a (.dK kvs)/\kvs.map (·.1)=ss.map (λq=>Sum.inr (S q))/\ss.length<64/\∀ l H',New H H' l (.lst ((qay ss).map λq=>V.str (S q)))->Q (.ref l) H'):=by
 intro pins s σ H xs us Q I r h;obtain ⟨a,kvs,ss,rfl,ha,ek,h64,q⟩:=h;obtain ⟨u,rfl,rx⟩:=vals1 r
 cases (show u=Value.ref a from rx)
 obtain ⟨hz,lo,vs,kt,o,es,ep,e1,e2,e3,ek',e4,_⟩:=qkq I.hok ha;have hR:RawD s.heap a es ep:=⟨o,e1,e2,e3⟩;obtain ⟨hl,at_⟩:=qrr kt e4;have hl:kvs.length=es.size:=by simpa using hl
 have lk:kvs.length=ss.length:=by have:=congrArg List.length ek;simpa using this
 refine Calls.call_function_entry kind_sorted plain_sorted entry_sorted (args_sorted1 _) ?_;unfold Builtin.«sorted»;refine wpAny_bind (m:=checkCount "sorted" 1 1 _) (wpAny_pure ?_);refine wpAny_bind (PySem.W.kdu_collect (qv6 lo) (I.ok.hd hc) hR (by rw[sizeLine_eq];omega) λh' tk acc hk hacc=>?_);have hlen:acc.toList.length=ss.length:=by rw[Array.length_toList,hacc.1];omega
 have rv:Vals ((ss.map S).map V.str) acc.toList:=by
  refine qg9 (by simpa using hlen.symm) λi x v hx hv=>?_
  obtain ⟨e,he,hve⟩:=hacc.2 i v (by rw[<- Array.getElem?_toList];exact hv);have hi:i<kvs.length:=by have:=(List.getElem?_eq_some_iff.mp hv).1;omega
  obtain ⟨e',he',hk',_⟩:=at_ i kvs[i].1 kvs[i].2 (by rw[List.getElem?_eq_getElem hi]);rw[Array.getElem?_toList,he] at he'
  cases he'
  have e5:(kvs.map (·.1))[i]?=some kvs[i].1:=by simp[hi]
  rw[ek,List.getElem?_map] at e5;rw[List.map_map,List.getElem?_map] at hx
  cases hq:ss[i]? with
  | none=>rw[hq] at hx;cases hx
  | some z =>
   rw[hq] at hx e5;cases hx;have e6:=Option.some.inj e5;rw[<- e6] at hk';rw[hve];exact hk'
 have hS:StrsAre acc.toList (ss.map S):=qdz rv;have I':Inv X pins σ H { s with heap:=h',toks:=tk }:=I.kept hk;refine wpAny_bind (wpAny_newList ?_ (by rw[hlen,sizeLine_eq];omega));have hoL:(h'.push (seqObj "list" acc.toList.toArray 0)).get? h'.objs.size=some (seqObj "list" acc.toList.toArray 0):=Heap.get?_push_size _ rfl;refine wpAny_bind (wpAny_holding (wpAny_call_entry slot_list_sort ⟨_,hoL,rfl⟩ entry_list_sort (list_sort_treeK (s:={ s with heap:=h'.push (seqObj "list" acc.toList.toArray 0),toks:=tk }) strKind_oneLt hoL hS.keysOf (λv₁ v₂ rest e=>keyKind_strs (by rw[<- e];exact hS)) (by omega) λst' a1 a2=>⟨_,rfl,?_⟩) (args_list_sort _)));refine wpAny_pure ⟨_,rfl,?_⟩;obtain ⟨ms,m1,m2,m3⟩:=sorted_out_str hS a1 a2;have em:=qjn m2 m3;subst em;obtain ⟨c,hat⟩:∃ c,(sortedHeap (h'.push (seqObj "list" acc.toList.toArray 0)) h'.objs.size acc.toList ((arrOf st').map (·.2))).get? h'.objs.size=some (seqObj "list" ((arrOf st').map (·.2)) c):=sortedHeap_at hoL;have kp:∀ b ob,h'.get? b=some ob->(sortedHeap (h'.push (seqObj "list" acc.toList.toArray 0)) h'.objs.size acc.toList ((arrOf st').map (·.2))).get? b=some ob:=λb ob hb=>by
  have lb:=Heap.lt_size hb;rw[sortedHeap_old (Nat.ne_of_lt lb) (by rw[size_push'];exact Nat.lt_succ_of_lt lb)];exact Heap.get?_push_of_some _ hb
 have hl2:((qay ss).map S).length<=sizeLine:=by rw[List.length_map,(qah ss).length_eq,sizeLine_eq];omega
 have vv:=qey m1;rw[List.map_map] at vv;exact ⟨.ref h'.objs.size,upd H h'.objs.size (.lst ((qay ss).map λq=>V.str (S q))),I'.laid (t':=tk) kp (Nat.le_refl _) ⟨by simpa using hl2,_,c,vv,by rw[hat]⟩,rfl,q _ _ (qa0 (I'.hok.fresh (Nat.le_refl _)))⟩
end
open PySem PySem.Spec PyProof.Rows
end L2
namespace L2
open PySem PySem.Spec PyProof.Rows
open PySem PySem.Spec PyProof.Rows
section
variable {P:Program} {w:World} {K:Frag} {mg:Str->Option Value} {base:Heap}
end
open PySem PySem.Spec PyProof.Rows
section
variable {X:Cx} {k:Nat} {f C:Addr} {fd:FuncData} {ps:List Str} {sp:Sp} {m:Str} {pos apos:Pos} {o:Expr} {ta:TE}
end
open PySem PySem.Spec PyProof.Rows
section
variable {prog:Program} {w:World} {A:Around} {E:Value->Shared->Prop} {s:Shared}
end
open PySem PySem.Spec PyProof.Rows
section
variable {prog:Program} {w:World} {A:Around} {E:Value->Shared->Prop} {s:Shared}
end
section
variable {X:Cx}
end
open PySem PySem.Spec PyProof.Rows
theorem qmy (t:SetTable) (n:Nat):(t.orStandIn n).led=t.led/\(t.plain=false->(t.orStandIn n).plain=false):=by
 unfold SetTable.orStandIn
 split
 ·exact ⟨rfl,λe=>e⟩
 ·exact ⟨rfl,λ_=>rfl⟩
theorem qpi (t:SetTable) (es:Array (Int×Value)) (h:Int) (x:Value):(layNew t es h x).2.1.led=t.led/\(t.plain=false->(layNew t es h x).2.1.plain=false):=by
 unfold layNew
 split
 ·exact qmy _ _
 ·exact ⟨rfl,λ_=>rfl⟩
theorem qrs (t:SetTable) (es:Array (Int×Value)) (n:Nat):(relayAll t es n).2.1.led=t.led/\(t.plain=false->(relayAll t es n).2.1.plain=false):=by
 unfold relayAll
 split
 ·rename_i t' order e
  have e2:t'.led=t.led/\t'.plain=t.plain:=by
   unfold SetTable.relaid SetTable.laid at e
   cases hc:SetTable.layClean (SetTable.sizeAbove n-1) (Array.map (λx=>x.fst) es) with
   | none=>rw[hc] at e;cases e
   | some ow=>rw[hc] at e;cases e;exact ⟨rfl,rfl⟩
  dsimp only
  split
  ·exact ⟨e2.1,λh=>e2.2.trans h⟩
  ·exact ⟨rfl,λ_=>rfl⟩
 ·exact ⟨rfl,λ_=>rfl⟩
section
variable {prog:Program} {w:World} {K:Type} [DecidableEq K]
def qpj (knd:KeyKind prog w K) (h:Heap) (a:Addr) (S:K->Bool) (n:Nat) (led:Bool):Prop:=
 ∃ o es ep t,h.get? a=some o/\o.ExactSet/\o.data=.set es ep t/\ElemsOf knd es.toList/\(∀ k,S k=true↔∃ e∈es.toList,knd.is k e.2=true)/\es.size<scanBound/\t.fits es.size=true/\es.size=n/\t.led=led/\(t.plain=false\/es.size=0)
variable {knd:KeyKind prog w K} {A:Around} {E:Value->Shared->Prop} {s:Shared}
theorem qnv {h:Heap} {a:Addr} {o:Obj} {es:Array (Int×Value)} {ep:Nat} {t:SetTable} (ho:h.get? a=some o) (hex:o.ExactSet) (hd:o.data=.set es ep t)
  {es':Array (Int×Value)} {t':SetTable} {S':K->Bool} {led:Bool} (hel:ElemsOf knd es'.toList) (hmem:∀ k,S' k=true↔∃ e∈es'.toList,knd.is k e.2=true) (hb:es'.size<scanBound) (hf:t'.fits es'.size=true) (hl:t'.led=led) (hp:t'.plain=false) :
  (h.update a (Obj.putSet es' t')).get? a=some { o with data:=.set es' (ep+1) t' }/\qpj knd (h.update a (Obj.putSet es' t')) a S' es'.size led:=by
 obtain ⟨h1,_⟩:=SetOf_store (knd:=knd) ho hex hd hel hmem hb hf;exact ⟨h1,_,_,_,_,h1,hex,rfl,hel,hmem,hb,hf,rfl,hl,.inl hp⟩
theorem qrt {g:Bool->Sem Unit} (hg:∀ (b:Bool) (s₁:Shared) (Q':Unit->Shared->Prop),Q' () s₁->wpAny (model prog w) A (g b) Q' E s₁)
  {a:Addr} {o:Obj} {es:Array (Int×Value)} {ep:Nat} {t:SetTable} (ho:s.heap.get? a=some o) (hex:o.ExactSet) (hd:o.data=.set es ep t)
  {es1:Array (Int×Value)} {t2:SetTable} {S':K->Bool} {led:Bool} (hel1:ElemsOf knd es1.toList) (hmem1:∀ k',S' k'=true↔∃ e∈es1.toList,knd.is k' e.2=true)
  (hb1:es1.size<scanBound) (hf2:t2.fits es1.size=true) (hl:t2.led=led) (hp:t2.plain=false) {wasDummy:Bool} {R:Option Bool->Shared->Prop}
  (h:∀ h',Heap.SameBut a s.heap h'->qpj knd h' a S' es1.size led->R (some true) { s with heap:=h' }) :
  wpAny (model prog w) A (do
    storeSet a es1 t2
    if (!wasDummy && t2.tooFull)=true then do
      g (relayAll t2 es1 (SetTable.grown es1.size)).2.2
      storeSet a (relayAll t2 es1 (SetTable.grown es1.size)).1 (relayAll t2 es1 (SetTable.grown es1.size)).2.1
      pure (some true)
     else pure (some true)) R E s:=by
 refine wpAny_bind (wpAny_storeSet_of ho hd ?_ (fits_of_scanBound hb1));obtain ⟨ho1,hS1⟩:=qnv (knd:=knd) ho hex hd hel1 hmem1 hb1 hf2 hl hp;have hsb:=Heap.SameBut.update s.heap a (Obj.putSet es1 t2)
 split
 ·have q1:=relayAll_perm t2 es1 (SetTable.grown es1.size)
  have q2:=relayAll_fits t2 es1 (SetTable.grown es1.size);have q3:=qrs t2 es1 (SetTable.grown es1.size)
  generalize relayAll t2 es1 (SetTable.grown es1.size)=L at q1 q2 q3 ⊢
  obtain ⟨es2,t3,g2⟩:=L;dsimp only at q1 q2 q3 ⊢;have sz:es2.size=es1.size:=by have:=q1.length_eq;simpa using this
  refine wpAny_bind (hg _ _ _ ?_);refine wpAny_bind (wpAny_storeSet_of ho1 rfl ?_ (fits_of_scanBound (by omega)));have X2:=(qnv (knd:=knd) (S':=S') ho1 hex rfl (hel1.perm q1) (λk'=>(hmem1 k').trans ⟨fun ⟨e,he,q⟩=>⟨e,q1.mem_iff.mpr he,q⟩,fun ⟨e,he,q⟩=>⟨e,q1.mem_iff.mp he,q⟩⟩) (by omega) q2 (q3.1.trans hl) (q3.2 hp)).2;rw[sz] at X2;exact wpAny_pure (h _ (hsb.trans (Heap.SameBut.update _ a _)) X2)
 ·exact wpAny_pure (h _ hsb hS1)
theorem qA0 {a:Addr} {S:K->Bool} {n:Nat} {led:Bool} {k:K} {x:Value} {Q:Bool->Shared->Prop} (hkey:knd.is k x=true) (hsc:x.scannable=true) (hpk:plainKind x=false) (hS:qpj knd s.heap a S n led) (hr0:n+1<scanBound)
  (h:∀ (b:Bool) h',Heap.SameBut a s.heap h'->qpj knd h' a (λk'=>S k' || decide (k'=k)) (if S k=true then n else n+1) led->Q b { s with heap:=h' }) :
  wpAny (model prog w) A (setAddHashed a x (knd.hash k)) Q E s:=by
 obtain ⟨o,es,ep,t,ho,hex,hd,hel,hmem,hb,hf,hn,hl,hpl⟩:=hS;have hb1:es.size+1<scanBound:=by omega
 unfold setAddHashed setAddHashedIn;refine wpAny_holding (wpAny_bind (wpAny_setState_of ho hd hf ?_));dsimp only;rw[byScan_of hsc hb hel];simp only[↓reduceIte];unfold setAddByScan;refine wpAny_bind ?_;refine wpAny_bind (wpAny_rule ?_);refine wpAny_bind (wpAny_setScan_of hkey ho hd hf hel ?_)
 cases hr:List.findIdx? (λe=>knd.is k e.2) es.toList with
 | some j =>
  dsimp only;obtain ⟨hj,hpj,_⟩:=List.findIdx?_eq_some_iff_getElem.mp hr;have hSk:S k=true:=(hmem k).mpr ⟨es.toList[j],List.getElem_mem hj,hpj⟩;refine wpAny_pure (wpAny_pure ?_);have e:s={ s with heap:=s.heap }:=by cases s;rfl
  rw[e];refine h _ s.heap (Heap.SameBut.refl a s.heap) ⟨o,es,ep,t,ho,hex,hd,hel,λk'=>?_,hb,hf,by rw[if_pos hSk];exact hn,hl,hpl⟩;rw[Bool.or_eq_true,decide_eq_true_eq,<- hmem k'];exact ⟨λhk=>hk.elim id (λe=>e ▸ hSk),.inl⟩
 | none =>
  dsimp only;have hSk:¬ S k=true:=λhk=>by
   obtain ⟨e,he,hp⟩:=(hmem k).mp hk;have:=List.findIdx?_eq_none_iff.mp hr e he;rw[hp] at this;cases this
  have hgw:∀ (b:Bool) {s₁:Shared} {Q':Unit->Shared->Prop},Q' () s₁->wpAny (model prog w) A (match b with|true=>rule "set.scan.the-table-gave-way" | false=>pure ()) Q' E s₁:=
   λb s₁ Q' hq=>by cases b<;>first|exact wpAny_pure hq|exact wpAny_rule hq
  have q1:=layNew_perm t es (knd.hash k) x;have q2:=layNew_fits t es (knd.hash k) x;have q3:=qpi t es (knd.hash k) x
  generalize layNew t es (knd.hash k) x=L at q1 q2 q3 ⊢
  obtain ⟨es1,t1,wd,gv⟩:=L;dsimp only at q1 q2 q3 ⊢;rw[Array.toList_push] at q1;have sz:es1.size=n+1:=by have:=q1.length_eq;rw[List.length_append] at this;simp at this;omega
  refine wpAny_bind (hgw _ ?_);have fin:∀ h',Heap.SameBut a s.heap h'->qpj knd h' a (λk'=>S k' || decide (k'=k)) es1.size led->Q true { s with heap:=h' }:=λh' hs hX=>by
   refine h true h' hs ?_;rw[if_neg hSk,<- sz];exact hX
  split
  ·refine wpAny_bind ?_
   rw[hashByValue_scannable 8 hsc,hpk];refine wpAny_pure ?_;simp only[Bool.false_eq_true,↓reduceIte];refine qrt ?_ ho hex hd (hel.push hkey hsc |>.perm q1) (mem_push_iff hkey hmem q1) (by omega) (SetTable.fits_plain_off q2) (led:=led) (q3.1.trans hl) rfl λh' hs hX=>wpAny_pure (fin h' hs hX)
   intro b s₁ Q' hq;cases b<;>first|exact wpAny_pure hq|exact wpAny_rule hq
  ·rename_i hp1
   refine wpAny_bind (wpAny_pure ?_);simp only[↓reduceIte];refine qrt ?_ ho hex hd (hel.push hkey hsc |>.perm q1) (mem_push_iff hkey hmem q1) (by omega) q2 (led:=led) (q3.1.trans hl) (by simpa using hp1) λh' hs hX=>wpAny_pure (fin h' hs hX)
   intro b s₁ Q' hq;cases b<;>first|exact wpAny_pure hq|exact wpAny_rule hq
end
section
variable {prog:Program} {w:World} {A:Around} {E:Value->Shared->Prop} {s:Shared}
theorem qA1 (a:Value) {Q₁:Value->Shared->Prop}
  (h:Q₁ (.ref s.heap.objs.size) { s with heap:=s.heap.push { cls:=.type "set",dict:=none,data:=.set #[] 0 (.fresh 0 0 (!w.params.followText "set-order")) } }) :
  codeAny (model prog w) A (.call (.builtin "set.__new__") ⟨[.type "set",a],[]⟩) (wants Q₁ E) s:=by
 refine codeAny_of_tree ?_
 show wpAny _ A.in1 (do checkBuiltinCall "set.__new__" ⟨[.type "set",a],[]⟩;again (.builtin "set.__new__" ⟨[.type "set",a],[]⟩)) _ _ s
 refine wpAny_bind (wpAny_of_eq (qpg a) (wpAny_pure ⟨plainId_quiet F.plain_set_new _,codeAny_builtin F.entry_set_new ?_⟩));rw[Around.under_plainId F.plain_set_new _];unfold Builtin.«set.__new__» Builtin.Frozenset.newClass;have hsub:=sub_set_self;obtain ⟨hp,g,d,tk,os⟩:=s;dsimp only
 wp_walk
 refine wpAny_askSetting (wpAny_pure ?_);dsimp only;simp only[newObj];refine wpAny_bind (wpAny_alloc (wpAny_pure ?_));exact wpAny_pure h
end
section
variable {prog:Program} {w:World} {A:Around} {R:Result->Shared->Prop} {I:Addr} {fp wr:List Addr} {n:Nat} {P:Nat->Value->Prop} {St:Nat->Heap->Prop} {K:Type} [DecidableEq K] {knd:KeyKind prog w K}
theorem qyc (W:Walks prog w A.in1 I fp wr n P St) (D:Addr) (hDf:D ∉ fp) (rs:List K) {led:Bool} (hn:n<=1000)
  (hP:∀ i v,P i v->∃ k,knd.is k v=true/\v.scannable=true/\plainKind v=false/\rs[i]?=some k) (hl:rs.length=n) :
  ∀ (k i:Nat) (s:Shared) (m:Nat),n-i=k->i<=n->St i s.heap->qpj knd s.heap D (λq=>decide (q∈(rs.take i).reverse)) m led->m=qct (rs.take i).reverse ->
  (∀ h' tk,qpj knd h' D (λq=>decide (q∈rs.reverse)) (qct rs.reverse) led->(∀ b o,b ∉ wr->b≠D->s.heap.get? b=some o->h'.get? b=some o)->R (.ok (.ret .none)) { s with heap:=h',toks:=tk }) ->
  codeAny (model prog w) A (.builtin "set.update.loop" ⟨[.ref D,.ref I],[]⟩) R s:=by
 have hDw:D ∉ wr:=λh=>hDf (W.sub _ h)
 intro k
 induction k with
 | zero =>
  intro i s m hk hi hst hd hm hR;have hin:i=n:=by omega
  subst hin;rw[<- hl,List.take_length] at hd hm;refine codeAny_builtin qnu ?_;rw[Around.under_plainId qjm _]
  show wpAny _ A.in1 (pyNext (.ref I) >>= _) _ _ s
  refine wpAny_bind (W.done s _ _ hst λh' tk hm'=>?_);refine wpAny_pure (hR h' tk ?_ λb o hb _ e=>hm' b o hb e);obtain ⟨o,es,ep,t,ho,r⟩:=hd;exact ⟨o,es,ep,t,hm' D o hDw ho,hm ▸ r⟩
 | succ k ih =>
  intro i s m hk hi hst hd hm hR;have hlt:i<n:=by omega
  refine codeAny_builtin qnu ?_;rw[Around.under_plainId qjm _]
  show wpAny _ A.in1 (pyNext (.ref I) >>= _) _ _ s
  refine wpAny_bind (W.item i s _ _ hlt hst λv h' tk hp hst' hmk=>?_);obtain ⟨kk,hkey,hsc,hpk,hrs⟩:=hP i v hp;obtain ⟨o1,es,ep,t,ho1,rr⟩:=hd;have hd':qpj knd h' D (λq=>decide (q∈(rs.take i).reverse)) m led:=⟨o1,es,ep,t,hmk D o1 hDw ho1,rr⟩;have ml:m<=1000:=by
   have:=qez (rs.take i).reverse;rw[List.length_reverse,List.length_take] at this;omega
  show wpAny _ A.in1 (holding [v] _ >>= _) _ _ _
  refine wpAny_bind (wpAny_holding ?_);unfold setAdd;refine wpAny_holding (wpAny_bind (knd.pyHash hkey ?_));refine qA0 (s:={ s with heap:=h',toks:=_ }) hkey hsc hpk hd' (by unfold scanBound;omega) λ_ h2 hs2 hd2=>?_
  have et:rs.take (i+1)=rs.take i ++ [kk]:=by rw[List.take_succ,hrs];rfl
  refine wpAny_pure ⟨plainId_quiet qjm _,ih (i+1) _ _ (by omega) hlt (W.frame _ _ _ hst' λb hb o e=>?_) ?_ rfl λh3 tk3 hd3 hk3=>?_⟩
  ·exact (hs2.2 b (λh:b=D=>hDf (by rw[<- h];exact hb))).trans e
  ·rw[et]
   have e1:(λq=>decide (q∈(rs.take i ++ [kk]).reverse))=(λk'=>decide (k'∈(rs.take i).reverse) || decide (k'=kk)):=by
    funext q
    simp[Bool.or_comm]
   have e2:qct (rs.take i ++ [kk]).reverse=(if decide (kk∈(rs.take i).reverse)=true then m else m+1):=by
    rw[List.reverse_append,hm]
    show qct (kk :: (rs.take i).reverse)=_
    unfold qct
    by_cases e:kk∈(rs.take i).reverse
    ·rw[if_pos e,if_pos (decide_eq_true e)]
     cases hq:(rs.take i).reverse<;>rfl
    ·rw[if_neg e,if_neg (by simpa using e)]
     cases hq:(rs.take i).reverse<;>rfl
   rw[e1,e2];exact hd2
  ·exact hR h3 tk3 hd3 λb o hb hbD e=>hk3 b o hb hbD ((hs2.2 b hbD).trans (hmk b o hb e))
end
section
variable {prog:Program} {w:World} {A:Around} {E:Value->Shared->Prop} {s:Shared} {K:Type} [DecidableEq K] {knd:KeyKind prog w K}
theorem qyd {id:String} {D p:Addr} {its:List Value} {rs:List K} {led:Bool} {Q:Unit->Shared->Prop} (hl:PlainL s.heap p its.toArray) (hpD:p≠D) (hA:A.handled=none) (hn:its.length<=1000) (hlen:rs.length=its.length)
  (hP:∀ (i:Nat) v,its[i]?=some v->∃ k,knd.is k v=true/\v.scannable=true/\plainKind v=false/\rs[i]?=some k) (hD:qpj knd s.heap D (λ_=>false) 0 led)
  (h:∀ h' tk,qpj knd h' D (λq=>decide (q∈rs.reverse)) (qct rs.reverse) led->(∀ b o,b≠D->s.heap.get? b=some o->h'.get? b=some o)->Q () { s with heap:=h',toks:=tk }) :
  wpAny (model prog w) A (Builtin.Frozenset.updateFrom id D (.ref p)) Q E s:=by
 obtain ⟨ol,nl,e1,e2,e3,e4⟩:=hl;have hpl:p<s.heap.objs.size:=Heap.lt_size e1;have hT:s.TypeIs (.ref p) "list" :=⟨ol,e1,e2⟩;have hDl:D<s.heap.objs.size:=by obtain ⟨o,_,_,_,ho,_⟩:=hD;exact Heap.lt_size ho
 unfold Builtin.Frozenset.updateFrom;refine wpAny_bind (qrn hT ?_);rw[if_neg (by decide)];refine wpAny_bind (wpAny_typeOf hT ?_);rw[if_neg (by decide)];refine wpAny_bind (wpAny_pyIter_list (PlainL.isList ⟨ol,nl,e1,e2,e3,e4⟩) ?_);have W:=Walks.list (prog:=prog) (w:=w) (A:=A.in1) hA s.heap.objs.size p (Nat.ne_of_lt hpl) its.toArray;have keep:∀ b o,s.heap.get? b=some o->(s.heap.push { cls:=Value.type "list_iterator",data:=Data.fields #[Value.ref p,Value.int 0 0] }).get? b=some o:=λb o q=>Heap.get?_push_of_some _ q
 refine wpAny_bind (wpAny_runValue (qyc (A:=A) (knd:=knd) (led:=led) W D ?_ rs (by simpa using hn) (λi v q=>?_) (by simpa using hlen) _ 0 _ 0 rfl (Nat.zero_le _) ⟨⟨_,Heap.get?_push_size _ rfl,rfl,rfl⟩,?_⟩ ?_ rfl λh' tk hd' hk=>wpAny_pure ?_))
 ·intro hm
  simp only[List.mem_cons,List.not_mem_nil,or_false] at hm
  rcases hm with e|e
  ·exact absurd e (Nat.ne_of_lt hDl)
  ·exact absurd e.symm hpD
 ·exact hP i v (by simpa using q)
 ·exact PlainL.isList ⟨ol,nl,keep _ _ e1,e2,e3,e4⟩
 ·obtain ⟨o,es,ep,t,ho,r⟩:=hD
  exact ⟨o,es,ep,t,keep _ _ ho,r⟩
 ·refine h h' tk hd' λb o hb q=>?_
  have lt:=Heap.lt_size q;exact hk b o (λhm=>absurd (List.mem_singleton.mp hm) (Nat.ne_of_lt lt)) hb (keep b o q)
theorem qye {p:Addr} {its:List Value} {rs:List K} {Q:Value->Shared->Prop} (hl:PlainL s.heap p its.toArray) (hA:A.handled=none) (hn:its.length<=1000) (hlen:rs.length=its.length)
  (hP:∀ (i:Nat) v,its[i]?=some v->∃ k,knd.is k v=true/\v.scannable=true/\plainKind v=false/\rs[i]?=some k)
  (h:∀ h' tk,qpj knd h' s.heap.objs.size (λq=>decide (q∈rs.reverse)) (qct rs.reverse) (!w.params.followText "set-order")->(∀ b o,s.heap.get? b=some o->h'.get? b=some o)->Q (.ref s.heap.objs.size) { s with heap:=h',toks:=tk }) :
  wpAny (model prog w) A (call (.type "set") [.ref p]) Q E s:=by
 obtain ⟨c,tl,hmro⟩:=F.called_set.mro;have hmade:=F.called_set.made;have hsub:=F.called_set.sub;refine wpAny_call (codeAny_of_tree ?_)
 show wpAny _ _ (callAny (.type "set") _) _ _ _
 refine wpAny_pure ⟨Code.quiet_builtin _ (by decide +kernel),codeAny_builtin F.entry_type_call ?_⟩;rw[Around.under_plain (weight_type_call_type "set" [.ref p] []) rfl];have h1:=F.called_set.notType;have h2:=F.called_set.canCreate;have hct:=qmx (.ref p)
 repeat (any_goals (first|assumption|wp_step))
 refine codeAny_mono (qA1 (E:=E) (.ref p) (Q₁:=λobj s₁=>∃ led:Bool,led=(!w.params.followText "set-order")/\obj=.ref s.heap.objs.size/\s₁={ s with heap:=s.heap.push { cls:=.type "set",dict:=none,data:=.set #[] 0 (.fresh 0 0 led) } }) ⟨_,rfl,rfl,rfl⟩) λr s₁ hr=>?_
 cases r with
 | error e=>exact hr
 | ok fl =>
  cases fl with
  | ret obj =>
   obtain ⟨led,eled,rfl,rfl⟩:=hr;have hS:(s.heap.push { cls:=.type "set",dict:=none,data:=.set #[] 0 (.fresh 0 0 led) }).get? s.heap.objs.size=some { cls:=.type "set",dict:=none,data:=.set #[] 0 (.fresh 0 0 led) }:=Heap.get?_push_size _ rfl;have hT:Shared.TypeIs { s with heap:=s.heap.push { cls:=.type "set",dict:=none,data:=.set #[] 0 (.fresh 0 0 led) } } (.ref s.heap.objs.size) "set" :=⟨_,hS,rfl⟩;have hli:=F.called_set.init.lookup;have hbi:=F.called_set.init.bind (.ref s.heap.objs.size)
   repeat (any_goals (first|assumption|wp_step))
   refine codeAny_mono (codeAny_call_builtin (R:=wants (λr s₂=>r=.none/\Q (.ref s.heap.objs.size) s₂) E) F.called_set.init.plain F.entry_set_init (quq hT ?_)) λr₂ s₂ hr₂=>?_
   ·unfold Builtin.«set.__init__» noKeywords
    have hl':PlainL (s.heap.push { cls:=.type "set",dict:=none,data:=.set #[] 0 (.fresh 0 0 led) }) p its.toArray:=by
     obtain ⟨ol,nl,e1,e2,e3,e4⟩:=hl;exact ⟨ol,nl,Heap.get?_push_of_some _ e1,e2,e3,e4⟩
    have hpD:p≠s.heap.objs.size:=by
     obtain ⟨ol,nl,e1,e2,e3,e4⟩:=hl;exact Nat.ne_of_lt (Heap.lt_size e1)
    have hnew:qpj knd (s.heap.push { cls:=.type "set",dict:=none,data:=.set #[] 0 (.fresh 0 0 led) }) s.heap.objs.size (λ_=>false) 0 (!w.params.followText "set-order"):=by
     obtain ⟨o,es,ep,t,ho,h3,h4,h5,h6,h7,h8,h9⟩:=(setObjOf_fresh (knd:=knd) led).setOf hS (by decide);rw[hS] at ho;cases ho;cases h4;exact ⟨_,_,_,_,hS,h3,rfl,h5,h6,h7,h8,h9,eled,.inr rfl⟩
    repeat (any_goals (first|(refine qyd hl' hpD hA hn hlen hP hnew (λh' tk hd hk=>?_))|assumption|wp_step))
    exact ⟨rfl,h h' tk hd λb o q=>hk b o (Nat.ne_of_lt (Heap.lt_size q)) (Heap.get?_push_of_some _ q)⟩
   ·cases r₂ with
    | error e=>exact hr₂
    | ok fl₂ =>
     cases fl₂ with
     | ret r =>
      obtain ⟨rfl,hq⟩:=hr₂
      repeat (any_goals (first|assumption|wp_step))
     | _=>exact hr₂.elim
  | _=>exact hr.elim
end
open PySem PySem.Spec PyProof.Rows
theorem si_slot:Slot "set_iterator" "__next__" "set_iterator.__next__" :=
 .of (owner:= "set_iterator") (n:= "__next__") (by rw[typeLookup_type,builtinLookup_eq_fast];kernel_rfl) (by decide +kernel) (by decide +kernel) (by decide +kernel)
  (by first|exact .inl (by decide +kernel)|exact .inr (by decide +kernel)) (by rw[isSubtype_type];kernel_rfl)
theorem qnw:entryFor table "set_iterator.__next__" = some Builtin.«set_iterator.__next__» :=entryFor_of_tree (by kernel_rfl)
theorem qnx:Manifest.owners.lookup (String.ofList "set_iterator".toList.reverse.reverse)=some Manifest.sig_set_iterator:=by kernel_rfl
theorem qru (a:Value):argsOk "set_iterator.__next__" ⟨[a],[]⟩:=by
 unfold argsOk;rw[signature?_of (id:= "set_iterator.__next__") (n:= "__next__".toList.reverse) (o:= "set_iterator".toList.reverse) (by kernel_rfl) qnx];kernel_rfl
theorem quu:entryFor table "set.__iter__" = some Builtin.«frozenset.__iter__» :=
 entryFor_alias (id':= "frozenset.__iter__") (by kernel_rfl) rfl (by decide +kernel) (by kernel_rfl)
theorem qfg {α:Type}:∀ (l:List α) (i:Nat) (h:i<l.length),(l[i] :: l.eraseIdx i).Perm l
 | _ :: _,0,_=>.refl _
 | x :: l,i+1,h=>by
  rw[List.eraseIdx_cons_succ,List.getElem_cons_succ];exact (List.Perm.swap _ _ _).trans (.cons x (qfg l i (by simpa using h)))
section
variable {prog:Program} {w:World} {A:Around} {E:Value->Shared->Prop} {s:Shared}
theorem qrv {src:Source} {n:Nat} {Q:Nat->Shared->Prop} (hn:n≠0) (h:∀ i d,i<n->Q i { s with drawn:=d }):wpAny (model prog w) A (choose src n) Q E s:=λΓ p hΓ=>by
 unfold choose;rw[Sem.wp_choose];exact ⟨hn,h _ _ (Nat.mod_lt _ (Nat.pos_of_ne_zero hn))⟩
theorem qrw {α:Type} {Q:List α->Shared->Prop}:∀ (n:Nat) (xs:List α) (s:Shared),xs.length<=n->(∀ ys d,ys.Perm xs->Q ys { s with drawn:=d })->wpAny (model prog w) A (drawOrder n xs) Q E s
 | 0,xs,s,hl,h=>by
  have e:xs=[]:=List.length_eq_zero_iff.mp (by omega);subst e;exact wpAny_pure (h [] s.drawn (.refl _))
 | n+1,[],s,_,h=>wpAny_pure (h [] s.drawn (.refl _))
 | n+1,x :: xs,s,hl,h=>by
  unfold drawOrder;refine wpAny_bind (qrv (by simp) λi d hi=>?_);rw[List.getElem?_eq_getElem hi];dsimp only;refine wpAny_bind (qrw n _ _ ?_ λys d' hp=>wpAny_pure (h _ d' ?_))
  ·rw[List.length_eraseIdx_of_lt hi];simp at hl ⊢;omega
  ·exact (List.Perm.cons _ hp).trans (qfg _ _ hi)
end
theorem qrx {α:Type} (next:Nat->Nat):∀ (f k:Nat) (left:List α) (out:Array α),left.length=f->(pickOrder.go next f k left out).toList.Perm (out.toList ++ left)
 | 0,k,left,out,h=>by
  have e:left=[]:=List.length_eq_zero_iff.mp h;subst e;unfold pickOrder.go;simp
 | f+1,k,left,out,h=>by
  unfold pickOrder.go;have hi:next k % left.length<left.length:=Nat.mod_lt _ (by omega);rw[List.getElem?_eq_getElem hi];dsimp only;refine (qrx next f (k+1) _ _ (by rw[List.length_eraseIdx_of_lt hi];omega)).trans ?_;rw[Array.toList_push,List.append_assoc];exact List.Perm.append_left _ (qfg _ _ hi)
theorem qpk {α:Type} (next:Nat->Nat) (xs:Array α):(pickOrder next xs).toList.Perm xs.toList:=by
 have:=qrx next xs.size 0 xs.toList #[] (by simp)
 simp at this
 exact this
open PySem PySem.Spec PyProof.Rows
def SM (w:World) (es:Array (Int×Value)) (t:SetTable) (T:Addr) (pl:List Nat) (md:Nat) (h:Heap) (first:Value) (i:Nat):Prop:=
 match md with
 | 0=>w.params.followText "set-order" = true/\first=.int 0 0
 | 1=>w.params.followText "set-order" = false/\first=.ref T/\h.get? T=some { cls:=.type "tuple",data:=.seq (pl.map fun (i:Nat)=>Value.int i 0).toArray }
 | _=>w.params.followText "set-order" = false/\es.size<=1/\t.led=true/\((i=0/\first=.int 0 0)\/(i=1/\∃ j:Nat,t.place[0]?=some j/\first=.int (j+1:Nat) 0))
def qny (w:World) (r:Addr) (es:Array (Int×Value)) (ep:Nat) (pl:List Nat) (md:Nat):List Value:=
 match md with
 | 0=>(pickOrder (w.params.setOrder r ep) es).toList.map (·.2)
 | 1=>pl.map λp=>(es.getD p (0,.none)).2
 | _=>es.toList.map (·.2)
def SIt (h:Heap) (I r:Addr) (es:Array (Int×Value)) (ep:Nat) (first:Value) (i:Nat):Prop:=
 h.get? I=some { cls:=.type "set_iterator",dict:=none,data:=.fields #[first,.int i 0,.ref r,.int es.size 0,.int ep 0],slots:=#[] }
section
variable {prog:Program} {w:World} {A:Around} {E:Value->Shared->Prop} {s:Shared} {I r T:Addr} {o:Obj} {es:Array (Int×Value)} {ep:Nat} {t:SetTable} {pl:List Nat} {md i:Nat} {first v:Value}
theorem qe0 {Q:Bool->Shared->Prop} (h:Q (w.params.followText "set-order") s):wpAny (model prog w) A setsByText Q E s:=by
 unfold setsByText;exact wpAny_bind (wpAny_askSetting (wpAny_pure h))
theorem quv {Q:Array (Int×Value)->Shared->Prop} (ho:s.heap.get? r=some o) (hd:o.data=.set es ep t) (hf:t.fits es.size=true) (hb:w.params.followText "set-order" = true) (h:Q (pickOrder (w.params.setOrder r ep) es) s):wpAny (model prog w) A (setWalk r) Q E s:=by
 unfold setWalk;refine wpAny_bind (wpAny_setState_of ho hd hf ?_);dsimp only;refine wpAny_bind (qe0 ?_);rw[hb,if_pos rfl];exact wpAny_bind (wpAny_askSetting (wpAny_pure h))
theorem qnz {slot given:Nat} {Q:Option (Value×Nat)->Shared->Prop} (ho:s.heap.get? r=some o) (hd:o.data=.set es ep t) (hf:t.fits es.size=true) (hb:w.params.followText "set-order" = true) (h:Q (((pickOrder (w.params.setOrder r ep) es)[given]?).map λe=>(e.2,slot)) s):wpAny (model prog w) A (setNext r slot given ep) Q E s:=by
 unfold setNext;refine wpAny_bind (wpAny_setState_of ho hd hf ?_);dsimp only;refine wpAny_bind (qe0 ?_);rw[hb,if_pos rfl,if_neg (by simp)];exact wpAny_bind (quv ho hd hf hb (wpAny_pure h))
theorem qn0 {slot given:Nat} {Q:Option (Value×Nat)->Shared->Prop} (ho:s.heap.get? r=some o) (hd:o.data=.set es ep t) (hf:t.fits es.size=true) (hb:w.params.followText "set-order" = false) (h1:es.size<=1) (hl:t.led=true)
  (h:Q (match es[SetTable.below t.place slot]?,t.place[SetTable.below t.place slot]? with|some (_,x),some j=>some (x,j+1)|_,_=>none) s):wpAny (model prog w) A (setNext r slot given ep) Q E s:=by
 unfold setNext;refine wpAny_bind (wpAny_setState_of ho hd hf ?_);dsimp only;refine wpAny_bind (qe0 ?_);rw[hb,if_neg Bool.false_ne_true];refine wpAny_ite_split (λz=>absurd (show (!t.plain && decide (es.size>1))=true from z) ?_) λ_=>?_
 ·rw[decide_eq_false (by omega),Bool.and_false];exact Bool.false_ne_true
 refine wpAny_bind ?_
 show wpAny _ _ (if (!t.led && !es.isEmpty)=true then unsupported _ else pure ()) _ _ _
 rw[hl,if_neg (by simp)];exact wpAny_pure (wpAny_pure h)
theorem qk5 {a:Array Nat} (h:a.size=1) (j:Nat):SetTable.below a j=if a.getD 0 j<j then 1 else 0:=by
 unfold SetTable.below;rw[h];simp only[SetTable.below.go]
 simp
theorem SM.up {h h':Heap} (hM:SM w es t T pl md h first i) (e:h'.get? T=h.get? T):SM w es t T pl md h' first i:=by
 match md,hM with
 | 0,x=>exact x
 | 1,⟨a,b,c⟩=>exact ⟨a,b,e.trans c⟩
 | k+2,x=>exact x
theorem qyf {Q:Option Value->Shared->Prop} (ho:s.heap.get? r=some o) (hd:o.data=.set es ep t) (hf:t.fits es.size=true) (hI:SIt s.heap I r es ep first i) (hM:SM w es t T pl md s.heap first i) (hTI:T≠I) (hpl:∀ p∈pl,p<es.size)
  (hx:(qny w r es ep pl md)[i]?=some v)
  (hQ:∀ h' first',SIt h' I r es ep first' (i+1)->SM w es t T pl md h' first' (i+1)->Heap.SameBut I s.heap h'->Q (some v) { s with heap:=h' }):wpAny (model prog w) A (pyNext (.ref I)) Q E s:=by
 have hTy:s.TypeIs (.ref I) "set_iterator" :=⟨_,hI,rfl⟩;unfold pyNext;refine wpAny_bind (wpAny_attempt (wpAny_callSpecial?_slot (name:=Str.ofString "__next__") hTy si_slot (wpAny_call_entry si_slot hTy qnw ?_ (qru _))));unfold Builtin.«set_iterator.__next__» slotArgs;simp only[List.isEmpty_nil,Bool.not_true,Bool.false_eq_true,↓reduceIte,bind_assoc,List.length_nil,bne_self_eq_false];refine wpAny_bind (wpAny_pure ?_);refine wpAny_bind (wpAny_fieldsOf hI rfl ?_);dsimp only;refine wpAny_bind (wpAny_setEntries_of ho hd hf ?_);rw[if_neg (by simp)];have fin:∀ {s':Shared} {E':Value->Shared->Prop} (first':Value),SIt s'.heap I r es ep first' i->SM w es t T pl md s'.heap first' (i+1)->Heap.SameBut I s.heap s'.heap->s'={ s with heap:=s'.heap }->wpAny (model prog w) A.in1 (do setField (.ref I) 1 (rawInt ((i:Int)+1));ret v) (λfin s'=>∃ v,fin=Fin.done (Flow.ret v)/\wpAny (model prog w) A (pure (some v)) Q E s') E' s':=fun {s' E'} first' h1 h2 h3 h4=>by
  refine wpAny_bind (wpAny_setField_rec h1 (by simp) λh' g1 g2=>?_);refine wpAny_pure ⟨v,rfl,wpAny_pure ?_⟩;rw[h4];exact hQ h' first' (by simpa [SIt,rawInt] using g1) (h2.up (g2.2 T hTI)) (h3.trans g2)
 match md,hM with
 | 0,⟨hb,e⟩ =>
  subst e;dsimp only;refine wpAny_bind (qnz ho hd hf hb ?_);simp only[qny,List.getElem?_map,Option.map_eq_some_iff] at hx;obtain ⟨e,he,rfl⟩:=hx;rw[Array.getElem?_toList] at he;simp only[Int.toNat_natCast,he,Option.map_some];refine wpAny_bind (wpAny_setField_rec hI (by simp) λh1 g1 g2=>?_);exact fin (.int 0 0) (by simpa [SIt,rawInt] using g1) ⟨hb,rfl⟩ g2 rfl
 | 1,⟨hb,e,hT⟩ =>
  subst e;dsimp only;refine wpAny_bind (wpAny_seqItems hT rfl ?_);simp only[qny,List.getElem?_map,Option.map_eq_some_iff] at hx;obtain ⟨p,hp,rfl⟩:=hx;have hps:=hpl p (List.mem_of_getElem? hp);simp only[Int.toNat_natCast,List.getElem?_toArray,List.getElem?_map,hp,Option.map_some];unfold setNextDrawn;refine wpAny_bind (wpAny_bind (wpAny_setState_of ho hd hf ?_));dsimp only;rw[if_neg (by simp),Array.getElem?_eq_getElem hps];refine wpAny_pure ?_;have ev:(es.getD p (0,.none)).2=es[p].2:=by simp[Array.getD,hps]
  have ev2:(es.getD p (0,.none)).2=(es.toList.get ⟨p,hps⟩).2:=ev;rw[<- ev2];exact fin (.ref T) hI ⟨hb,rfl,hT⟩ (Heap.SameBut.refl I s.heap) rfl
 | k+2,⟨hb,h1,hl,hh⟩ =>
  simp only[qny,List.getElem?_map,Option.map_eq_some_iff] at hx;obtain ⟨e,he,rfl⟩:=hx;rw[Array.getElem?_toList] at he;have il:=(Array.getElem?_eq_some_iff.mp he).1;have i0:i=0:=by omega
  subst i0;have e1:es.size=1:=by omega
  have hp1:t.place.size=1:=by
   unfold SetTable.fits at hf
   simp at hf
   omega
  rcases hh with ⟨_,rfl⟩|⟨z,_⟩
  ·dsimp only
   refine wpAny_bind (qn0 ho hd hf hb h1 hl ?_);have eb:SetTable.below t.place (Int.toNat 0)=0:=by rw[qk5 hp1];simp
   rw[eb,he,Array.getElem?_eq_getElem (by omega:0<t.place.size)];dsimp only;refine wpAny_bind (wpAny_setField_rec hI (by simp) λh1 g1 g2=>?_);exact fin (.int (t.place[0]+1:Nat) 0) (by simpa [SIt,rawInt] using g1) ⟨hb,by omega,hl,.inr ⟨rfl,t.place[0],by simp,rfl⟩⟩ g2 rfl
  ·omega
theorem qmz {R:Fin->Shared->Prop} {Q:Option Value->Shared->Prop} {s':Shared} (hh:A.handled=none) (he:Heap.ExtBut I s.heap s'.heap) (hs:s'={ s with heap:=s'.heap })
  (hQ:∀ h',Heap.ExtBut I s.heap h'->Q none { s with heap:=h' }):wpAny (model prog w) A.in1 (do let x <- newExc (.type "StopIteration") [];raiseNew x) R
   (λe s'=>wpAny (model prog w) A (do let b <- isInstance e (.type "StopIteration");if b=true then pure none else throw e) Q E s') s':=by
 refine wpAny_bind ?_;simp only[newExc,newTuple];refine wpAny_bind (wpAny_newObj_type ?_ (by size_fits));refine wpAny_bind (m:=firstArgMember _ _) (wpAny_of_eq (a:=Value.none) (by first|rfl|(simp only[firstArgMember];rfl)) ?_);refine wpAny_newObj_type ?_ (by size_fits);simp only[raiseNew];refine wpAny_bind (wpAny_handled ?_);rw[show A.in1.handled=none from hh];refine wpAny_bind (wpAny_pure (wpAny_throw ?_));refine wpAny_bind (wpAny_isInstance (T:= "StopIteration") (b:=true) ⟨_,Heap.get?_push_size _ rfl,rfl⟩ isSubtype_stop ?_);rw[hs];exact wpAny_pure (hQ _ ((he.push _).push _))
theorem qA2 {Q:Option Value->Shared->Prop} (hh:A.handled=none) (ho:s.heap.get? r=some o) (hd:o.data=.set es ep t) (hf:t.fits es.size=true) (hI:SIt s.heap I r es ep first i) (hM:SM w es t T pl md s.heap first i)
  (hx:(qny w r es ep pl md)[i]?=none)
  (hQ:∀ h',Heap.ExtBut I s.heap h'->Q none { s with heap:=h' }):wpAny (model prog w) A (pyNext (.ref I)) Q E s:=by
 have hTy:s.TypeIs (.ref I) "set_iterator" :=⟨_,hI,rfl⟩;unfold pyNext;refine wpAny_bind (wpAny_attempt (wpAny_callSpecial?_slot (name:=Str.ofString "__next__") hTy si_slot (wpAny_call_entry si_slot hTy qnw ?_ (qru _))));unfold Builtin.«set_iterator.__next__» slotArgs;simp only[List.isEmpty_nil,Bool.not_true,Bool.false_eq_true,↓reduceIte,bind_assoc,List.length_nil,bne_self_eq_false];refine wpAny_bind (wpAny_pure ?_);refine wpAny_bind (wpAny_fieldsOf hI rfl ?_);dsimp only;refine wpAny_bind (wpAny_setEntries_of ho hd hf ?_);rw[if_neg (by simp)]
 match md,hM with
 | 0,⟨hb,e⟩ =>
  subst e;dsimp only;refine wpAny_bind (qnz ho hd hf hb ?_);simp only[qny,List.getElem?_map,Option.map_eq_none_iff] at hx;rw[Array.getElem?_toList] at hx;simp only[Int.toNat_natCast,hx,Option.map_none];refine wpAny_bind (wpAny_setField_rec hI (by simp) λh1 g1 g2=>?_);exact qmz hh g2.extBut rfl hQ
 | 1,⟨hb,e,hT⟩ =>
  subst e;dsimp only;refine wpAny_bind (wpAny_seqItems hT rfl ?_);simp only[qny,List.getElem?_map,Option.map_eq_none_iff] at hx;simp only[Int.toNat_natCast,List.getElem?_toArray,List.getElem?_map,hx,Option.map_none];refine wpAny_bind (wpAny_setField_rec hI (by simp) λh1 g1 g2=>?_);refine wpAny_bind (wpAny_setField_rec g1 (by simp) λh2 g3 g4=>?_);exact qmz hh (g2.trans g4).extBut rfl hQ
 | k+2,⟨hb,h1,hl,hm⟩ =>
  simp only[qny,List.getElem?_map,Option.map_eq_none_iff] at hx;rw[Array.getElem?_toList] at hx;have il:=Array.getElem?_eq_none_iff.mp hx;have hps:t.place.size=es.size:=by
   unfold SetTable.fits at hf
   simp at hf
   omega
  have key:∃ slot:Nat,first=.int slot 0/\es[SetTable.below t.place slot]?=none:=by
   rcases hm with ⟨rfl,rfl⟩|⟨rfl,j,hj,rfl⟩
   ·exact ⟨0,rfl,Array.getElem?_eq_none (by omega)⟩
   ·have hj1:=(Array.getElem?_eq_some_iff.mp hj).1
    refine ⟨j+1,rfl,?_⟩;have hj2:t.place.getD 0 (j+1)=j:=by
     rw[Array.getD_eq_getD_getElem?,hj];rfl
    rw[qk5 (by omega),hj2,if_pos (by omega)];exact Array.getElem?_eq_none (by omega)
  obtain ⟨slot,rfl,hn⟩:=key;dsimp only;refine wpAny_bind (qn0 ho hd hf hb h1 hl ?_);simp only[Int.toNat_natCast,hn];refine wpAny_bind (wpAny_setField_rec hI (by simp) λh1 g1 g2=>?_);exact qmz hh g2.extBut rfl hQ
end
open PySem PySem.Spec PyProof.Rows
theorem qn1:Slot "set_iterator" "__iter__" "set_iterator.__iter__" :=
 .of (owner:= "set_iterator") (n:= "__iter__") (by rw[typeLookup_type,builtinLookup_eq_fast];kernel_rfl) (by decide +kernel) (by decide +kernel) (by decide +kernel)
  (by first|exact .inl (by decide +kernel)|exact .inr (by decide +kernel)) (by rw[isSubtype_type];kernel_rfl)
theorem quw (a:Value):argsOk "set_iterator.__iter__" ⟨[a],[]⟩:=by
 unfold argsOk;rw[signature?_of (id:= "set_iterator.__iter__") (n:= "__iter__".toList.reverse) (o:= "set_iterator".toList.reverse) (by kernel_rfl) qnx];kernel_rfl
theorem SM.keep {w:World} {es:Array (Int×Value)} {t:SetTable} {T:Addr} {pl:List Nat} {md i:Nat} {first:Value} {h h':Heap} (hM:SM w es t T pl md h first i) (e:∀ o,h.get? T=some o->h'.get? T=some o):SM w es t T pl md h' first i:=by
 match md,hM with
 | 0,x=>exact x
 | 1,⟨a,b,c⟩=>exact ⟨a,b,e _ c⟩
 | k+2,x=>exact x
theorem qry:entryFor table "set_iterator.__iter__" = some Builtin.«dict_keyiterator.__iter__» :=
 entryFor_alias (id':= "dict_keyiterator.__iter__") (by kernel_rfl) rfl (by decide +kernel) (by kernel_rfl)
section
variable {prog:Program} {w:World} {A:Around} {E:Value->Shared->Prop} {s:Shared} {I r T:Addr} {o:Obj} {es:Array (Int×Value)} {ep:Nat} {t:SetTable} {pl:List Nat} {md i:Nat} {first v:Value}
def StS (w:World) (I r:Addr) (o:Obj) (es:Array (Int×Value)) (ep:Nat) (t:SetTable) (T:Addr) (pl:List Nat) (md:Nat) (i:Nat) (h:Heap):Prop:=
 h.get? r=some o/\∃ first,SIt h I r es ep first i/\SM w es t T pl md h first i
theorem qux (hh:A.handled=none) (hd:o.data=.set es ep t) (hf:t.fits es.size=true) (hrI:r≠I) (hTI:T≠I) (hpl:∀ p∈pl,p<es.size) :
  Walks prog w A I [I,r,T] [I] (qny w r es ep pl md).length (λj v=>(qny w r es ep pl md)[j]?=some v) (StS w I r o es ep t T pl md) where
 sub:=λb hb=>by rw[List.mem_singleton.mp hb];simp
 frame:=λi h h' ⟨h1,first,h2,h3⟩ hk=>⟨hk r (by simp) _ h1,first,hk I (by simp) _ h2,h3.keep λo e=>hk T (by simp) o e⟩
 item:=λi s Q E hi ⟨h1,first,h2,h3⟩ hQ=>by
  refine qyf h1 hd hf h2 h3 hTI hpl (v:=(qny w r es ep pl md)[i]) (List.getElem?_eq_getElem hi) λh' first' g1 g2 g3=>?_
  exact hQ _ h' s.toks (List.getElem?_eq_getElem hi) ⟨(g3.2 r hrI).trans h1,first',g1,g2⟩ λb o hb e=>(g3.2 b λz=>hb (by rw[z];simp)).trans e
 done:=λs Q E ⟨h1,first,h2,h3⟩ hQ=>qA2 hh h1 hd hf h2 h3 (List.getElem?_eq_none (Nat.le_refl _)) λh' he=>hQ h' s.toks λb o hb e=>he b o (λz=>hb (by rw[z];simp)) e
 self:=λi s Q E ⟨_,first,h2,_⟩ hQ=>by
  have hTy:s.TypeIs (.ref I) "set_iterator" :=⟨_,h2,rfl⟩;refine wpAny_pyIter_slot hTy qn1 (wpAny_call_entry qn1 hTy qry ?_ (quw _))
  show wpAny _ _ (ret (.ref I)) _ _ s
  exact wpAny_pure ⟨_,rfl, "set_iterator",_,hTy,si_slot.lookup,hQ⟩
theorem qyg {Q:Value->Shared->Prop} (ho:s.heap.get? r=some o) (hex:o.ExactSet) (hd:o.data=.set es ep t) (hf:t.fits es.size=true) (hz:es.size<=1000) (hl:t.led = !w.params.followText "set-order") (hp:t.plain=false\/es.size=0)
  (hQ:∀ I T pl md h' d,s.heap.objs.size<=I->T≠I->(∀ p∈pl,p<es.size)->(qny w r es ep pl md).Perm (es.toList.map (·.2))->(∀ b o,s.heap.get? b=some o->h'.get? b=some o)->(T=r\/s.heap.objs.size<=T)->StS w I r o es ep t T pl md 0 h'->Q (.ref I) { s with heap:=h',drawn:=d }) :
  wpAny (model prog w) A (pyIter (.ref r)) Q E s:=by
 have hT:s.TypeIs (.ref r) "set" :=⟨o,ho,hex.1⟩;refine wpAny_pyIter_slot hT F.slot_set_iter (wpAny_call_entry F.slot_set_iter hT quu ?_ (F.args_set_iter_1 _));unfold Builtin.«frozenset.__iter__» Builtin.Frozenset.slot0 slotArgs;simp only[List.isEmpty_nil,Bool.not_true,Bool.false_eq_true,↓reduceIte,bind_assoc,List.length_nil,bne_self_eq_false];unfold Builtin.Frozenset.addrOf Builtin.Frozenset.sizeOf;refine wpAny_bind (wpAny_pure ?_)
 try dsimp only
 refine wpAny_bind (wpAny_pure ?_);refine wpAny_bind (wpAny_bind (wpAny_setEntries_of ho hd hf (wpAny_pure ?_)));have hrl:=Heap.lt_size ho;refine wpAny_bind ?_;unfold setDrawn;refine wpAny_bind (wpAny_setState_of ho hd hf ?_);dsimp only;refine wpAny_bind (qe0 (wpAny_pure ?_));refine wpAny_ite_split (λz=>?_) λz=>?_
 ·have z2:(!w.params.followText "set-order" && (!t.plain && decide (es.size>1)))=true:=z
  have hb:w.params.followText "set-order" = false:=by simp at z2;exact z2.1
  refine wpAny_bind (qrw es.size _ _ (by simp) λpl d hpm=>?_);refine wpAny_bind (wpAny_newTuple ?_ (by rw[List.length_map,hpm.length_eq,List.length_range,sizeLine_eq];omega));refine wpAny_bind (wpAny_setEpoch_of (Heap.get?_push_of_some _ ho) hd hf ?_);refine wpAny_bind (wpAny_newObj_type (wpAny_pure ⟨_,rfl, "set_iterator",_,⟨_,Heap.get?_push_size _ rfl,rfl⟩,si_slot.lookup,?_⟩));refine hQ _ s.heap.objs.size pl 1 _ d ?_ ?_ (λp hp=>List.mem_range.mp (hpm.mem_iff.mp hp)) ?_ (λb o e=>Heap.get?_push_of_some _ (Heap.get?_push_of_some _ e)) (.inr (Nat.le_refl _)) ⟨Heap.get?_push_of_some _ (Heap.get?_push_of_some _ ho),_,Heap.get?_push_size _ rfl,hb,rfl,Heap.get?_push_of_some _ (Heap.get?_push_size _ rfl)⟩
  ·simp[Heap.push]
  ·simp[Heap.push]
  ·show (pl.map λp=>(es.getD p (0,.none)).2).Perm _
   refine (hpm.map _).trans ?_;refine List.Perm.of_eq (List.ext_getElem? λj=>?_);have e2:es.toList[j]?=es[j]?:=Array.getElem?_toList;rw[List.getElem?_map,List.getElem?_map,e2]
   by_cases hj:j<es.size
   ·rw[List.getElem?_range hj,Array.getElem?_eq_getElem hj]
    simp[Array.getD,hj]
   ·rw[List.getElem?_eq_none (by simp;omega),Array.getElem?_eq_none (by omega)];rfl
 ·have z2:¬ (!w.params.followText "set-order" && (!t.plain && decide (es.size>1)))=true:=z
  refine wpAny_bind (wpAny_pure ?_);refine wpAny_bind (wpAny_setEpoch_of ho hd hf ?_);refine wpAny_bind (wpAny_newObj_type (wpAny_pure ⟨_,rfl, "set_iterator",_,⟨_,Heap.get?_push_size _ rfl,rfl⟩,si_slot.lookup,?_⟩))
  by_cases hb:w.params.followText "set-order" = true
  ·refine hQ _ r [] 0 _ s.drawn (Nat.le_refl _) (Nat.ne_of_lt hrl) (λp hp=>by cases hp) ((qpk _ _).map _) (λb o e=>Heap.get?_push_of_some _ e) (.inl rfl) ⟨Heap.get?_push_of_some _ ho,_,Heap.get?_push_size _ rfl,hb,rfl⟩
  ·have hb2:w.params.followText "set-order" = false:=by simpa using hb
   rw[hb2] at z2 hl;have h1:es.size<=1:=by
    rcases hp with hp|hp
    ·rw[hp] at z2;simp at z2;omega
    ·omega
   exact hQ _ r [] 2 _ s.drawn (Nat.le_refl _) (Nat.ne_of_lt hrl) (λp hp=>by cases hp) (.refl _) (λb o e=>Heap.get?_push_of_some _ e) (.inl rfl) ⟨Heap.get?_push_of_some _ ho,_,Heap.get?_push_size _ rfl,hb2,h1,hl,.inl ⟨rfl,rfl⟩⟩
theorem qyh {Q:Bool->Shared->Prop} (hT:s.TypeIs (.ref r) "set") (h:Q false s):wpAny (model prog w) A (Builtin.List.listLengthHint (.ref r)) Q E s:=by
 unfold Builtin.List.listLengthHint;refine wpAny_bind (wpAny_specialOf hT PySem.F.slot_set_len.lookup ?_)
 generalize hid:("set.__len__" : String)=id0
 wp_delta
 rw[show splitId id0=some ("set", "__len__") from by subst hid;decide +kernel];subst hid;refine wpAny_bind (wpAny_isInstance (T:= "set") (b:=true) hT (by rw[isSubtype_type];kernel_rfl) ?_);refine wpAny_ite_split (λhab=>absurd hab (by decide)) (λ_=>?_);refine wpAny_ite_split (λ_=>?_) (λhab=>absurd (by decide +kernel) hab);refine wpAny_bind (wpAny_typeOf hT ?_);exact wpAny_pure h
theorem qrz {R:Result->Shared->Prop} (hh:A.handled=none) (ho:s.heap.get? r=some o) (hex:o.ExactSet) (hd:o.data=.set es ep t) (hf:t.fits es.size=true) (hz:es.size<=1000) (hl:t.led = !w.params.followText "set-order") (hp:t.plain=false\/es.size=0)
  (S:Addr) (hSr:S≠r) (res:Value) (c₀:Nat) (hS:s.heap.get? S=some { cls:=.type "list",dict:=none,data:=.seq #[] c₀,slots:=#[] })
  (hR:∀ h' d tk acc' c',(∀ b o,b≠S->s.heap.get? b=some o->h'.get? b=some o)->h'.get? S=some { cls:=.type "list",dict:=none,data:=.seq acc' c',slots:=#[] }->acc'.toList.Perm (es.toList.map (·.2))->R (.ok (.ret res)) { s with heap:=h',drawn:=d,toks:=tk }) :
  wpAny (model prog w) A.in1 (Builtin.List.listExtendWith (.ref S) (.ref r) res)
   (λfin s'=>match fin with|.done f=>R (.ok f) s'|.again c'=>c'.quiet=true/\codeAny (model prog w) A c' R s') (λe s'=>R (.error e) s') s:=by
 have hT:s.TypeIs (.ref r) "set" :=⟨o,ho,hex.1⟩;unfold Builtin.List.listExtendWith;refine wpAny_bind (wpAny_typeOf hT ?_);have h1:Builtin.List.listSameRef (.ref S) (.ref r)=false:=by simp[Builtin.List.listSameRef,hSr]
 simp only[h1,show (Value.type "set" == Value.type "list")=false by decide,show (Value.type "set" == Value.type "tuple")=false by decide,Bool.or_false,Bool.false_eq_true,if_false];refine wpAny_bind (qyg ho hex hd hf hz hl hp λI T pl md h1 d gI gT gp gperm gk gTr gst=>?_);have hSI:S≠I:=Nat.ne_of_lt (Nat.lt_of_lt_of_le (Heap.lt_size hS) gI);have hST:S≠T:=by
  rcases gTr with e|e
  ·rw[e];exact hSr
  ·exact Nat.ne_of_lt (Nat.lt_of_lt_of_le (Heap.lt_size hS) e)
 have hrI:r≠I:=Nat.ne_of_lt (Nat.lt_of_lt_of_le (Heap.lt_size ho) gI);have hSf:S ∉ [I,r,T]:=by simp[hSI,hSr,hST]
 have W:=qux (prog:=prog) (w:=w) (A:=A.in1) (md:=md) (I:=I) (T:=T) (r:=r) hh hd hf hrI gT gp;have nl:(qny w r es ep pl md).length=es.size:=by rw[gperm.length_eq];simp
 have key:∀ (h:Heap) (c₁ tk:Nat),StS w I r o es ep t T pl md 0 h->(∀ b o,b≠S->s.heap.get? b=some o->h.get? b=some o) ->
   h.get? S=some { cls:=.type "list",data:=.seq #[] c₁ }->codeAny (model prog w) A (.builtin "list.extend.loop" ⟨[.ref S,.ref I,res],[]⟩) R { s with heap:=h,drawn:=d,toks:=tk }:=by
  intro h c₁ tk hst hk hS₁;refine codeAny_extend_loopS W.toS (by rw[nl,sizeLine_eq];omega) S hSf res _ 0 _ #[] c₁ rfl (Nat.zero_le _) hst hS₁ (ItemsOf.nil _) λs' acc' c' hm hS' hacc=>?_
  rw[Moved.eq_with hm];refine hR s'.heap d s'.toks acc' c' (λb o hb e=>hm.heap b o (λhmem=>?_) (hk b o hb e)) hS' ?_
  ·rcases List.mem_cons.mp hmem with e'|hmem
   ·exact hb e'
   ·rw[List.mem_singleton.mp hmem] at e
    exact absurd (Heap.lt_size e) (Nat.not_lt.mpr gI)
  ·have e3:acc'.toList=qny w r es ep pl md:=by
    refine List.ext_getElem? λj=>?_
    by_cases hj:j<acc'.size
    ·rw[Array.getElem?_toList,Array.getElem?_eq_getElem hj]
     exact (hacc.2 j _ (Array.getElem?_eq_getElem hj)).symm
    ·rw[List.getElem?_eq_none (by simp;omega),List.getElem?_eq_none (by rw[<- hacc.1];omega)]
   rw[e3];exact gperm
 have hS₁:=gk _ _ hS;have hT1:Shared.TypeIs { s with heap:=h1,drawn:=d } (.ref r) "set" :=⟨o,gk _ _ ho,hex.1⟩;refine wpAny_bind (wpAny_holding (qyh hT1 ?_));refine wpAny_ite_split (λ_=>?_) (λ_=>wpAny_pure ⟨plainId_quiet PySem.F.plain_extend_loop _,key _ c₀ _ gst (λb o _ e=>gk b o e) hS₁⟩);refine wpAny_bind (wpAny_rule ?_);refine wpAny_bind ?_
 show wpAny _ _ (updateSeq S (·.push .none) >>= λ_=>updateSeq S (·.pop)) _ _ _
 refine wpAny_bind (wpAny_updateSeq hS₁ rfl ?_);have hS₂:=Heap.get?_update_self (Obj.mapSeq (·.push Value.none)) hS₁ rfl;refine wpAny_updateSeq (hz:=by seq_fits) hS₂ rfl ?_;have hS₃:=Heap.get?_update_self (Obj.mapSeq (·.pop)) hS₂ rfl;have oth:∀ b o,b≠S->h1.get? b=some o->((h1.update S (Obj.mapSeq (·.push Value.none))).update S (Obj.mapSeq (·.pop))).get? b=some o:=λb o hb e =>
  (Heap.get?_update_other _ _ (Ne.symm hb)).trans ((Heap.get?_update_other _ _ (Ne.symm hb)).trans e)
 refine wpAny_pure ⟨plainId_quiet PySem.F.plain_extend_loop _,key _ _ _ ?_ (λb o hb e=>oth b o hb (gk b o e)) hS₃⟩;exact W.frame 0 _ _ gst λb hb o e=>oth b o (λh=>hSf (h ▸ hb)) e
theorem qpl {R:List Value->Shared->Prop} (hh:A.handled=none) (ho:s.heap.get? r=some o) (hex:o.ExactSet) (hd:o.data=.set es ep t) (hf:t.fits es.size=true) (hz:es.size<=1000) (hl:t.led = !w.params.followText "set-order") (hp:t.plain=false\/es.size=0)
  (h:∀ h' d tk (acc:Array Value),(∀ b o,s.heap.get? b=some o->h'.get? b=some o)->acc.toList.Perm (es.toList.map (·.2))->R acc.toList { s with heap:=h',drawn:=d,toks:=tk }) :
  wpAny (model prog w) A (collect (.ref r)) R E s:=by
 have hrl:=Heap.lt_size ho;unfold collect;refine wpAny_bind (wpAny_runValue (codeAny_builtin entry_proto_collect' ?_));rw[Around.under_plainId PySem.F.plain_proto_collect _]
 show wpAny _ A.in1 (newList [] >>= λl=>again (.builtin "list.__iadd__" ⟨[l,.ref r],[]⟩)) _ _ s
 refine wpAny_bind (wpAny_newObj_type ?_);refine wpAny_pure ⟨plainId_quiet PySem.F.plain_list_iadd _,codeAny_builtin entry_list_iadd' ?_⟩;rw[Around.under_plainId PySem.F.plain_list_iadd _];have hS₁:(s.heap.push { cls:=.type "list",data:=.seq ([]:List Value).toArray }).get? s.heap.objs.size=some { cls:=.type "list",data:=.seq #[] }:=Heap.get?_push_size _ rfl
 show wpAny _ A.in1 (Builtin.List.listExtendWith (.ref s.heap.objs.size) (.ref r) (.ref s.heap.objs.size)) _ _ _
 have key:=qrz (prog:=prog) (A:=A) (s:={ s with heap:=s.heap.push { cls:=.type "list",data:=.seq ([]:List Value).toArray } })
  (R:=fun (q:Result) (s':Shared)=>∃ (h':Heap) (d:Drawn) (tk:Nat) (acc':Array Value) (c':Nat),q=.ok (.ret (.ref s.heap.objs.size))/\s'={ s with heap:=h',drawn:=d,toks:=tk } /\
   (∀ b o,s.heap.get? b=some o->h'.get? b=some o)/\h'.get? s.heap.objs.size=some { cls:=.type "list",dict:=none,data:=.seq acc' c',slots:=#[] }/\acc'.toList.Perm (es.toList.map (·.2)))
  hh (Heap.get?_push_of_some _ ho) hex hd hf hz hl hp s.heap.objs.size (Nat.ne_of_gt hrl) (.ref s.heap.objs.size) 0 hS₁
  (λh' d tk acc' c' hk hS' hacc=>⟨h',d,tk,acc',c',rfl,rfl,λb o e=>hk b o (Nat.ne_of_lt (Heap.lt_size e)) (Heap.get?_push_of_some _ e),hS',hacc⟩)
 refine wpAny_mono key (λfin s' x=>?_) λe s' x=>?_
 ·cases fin with
  | done f =>
   obtain ⟨h',d,tk,acc',c',e,rfl,hk,hS',hacc⟩:=x;cases e
   show wpAny _ A (load s.heap.objs.size >>= _) _ _ _
   refine wpAny_bind (wpAny_load hS' ?_);exact wpAny_pure (h h' d tk acc' hk hacc)
  | again c₁ =>
   refine ⟨x.1,codeAny_mono x.2 λq s₂ y=>?_⟩;obtain ⟨h',d,tk,acc',c',rfl,rfl,hk,hS',hacc⟩:=y
   show wpAny _ A (load s.heap.objs.size >>= _) _ _ _
   refine wpAny_bind (wpAny_load hS' ?_);exact wpAny_pure (h h' d tk acc' hk hacc)
 ·obtain ⟨_,_,_,_,_,e',_⟩:=x
  cases e'
end
open PySem PySem.Spec PyProof.Rows
def qCg (P:Program) (w:World) (a:Addr) (ss:List Str):HO:=.ext λh=>qpj (PySem.strKind P w) h a (λq=>decide (q∈ss.reverse)) (qct ss.reverse) (!w.params.followText "set-order")
theorem qha {X:Cx} (hc:X.calm=true):CallR X (.type "set") (λxs H Q=>∃ (p:Addr) (ss:List Str),xs=[.ref p]/\SqL X.K H p (ss.map V.str)/\ss.length<=1000/\∀ a H',New H H' a (qCg X.prog X.w a ss)->Q (.ref a) H'):=by
 intro pins s σ H xs us Q I r h;obtain ⟨p,ss,rfl,hq,hz,q⟩:=h;obtain ⟨u,rfl,ru⟩:=vals1 r
 cases (show u=Value.ref p from ru)
 obtain ⟨its,rv,pl,_⟩:=I.list hq;obtain ⟨hl,hP⟩:=qro rv;refine qye (knd:=PySem.strKind X.prog X.w) pl (I.ok.hd hc) (by omega) hl (λi v e=>?_) λh' tk hd hk'=>?_
 ·obtain ⟨k,t,rfl,e'⟩:=hP i v e
  exact ⟨k,by simp[PySem.strKind,Value.isStrOf],rfl,rfl,e'⟩
 ·refine ⟨.ref s.heap.objs.size,_,I.laid (a:=s.heap.objs.size) (o:=qCg X.prog X.w s.heap.objs.size ss) (h':=h') (t':=tk) hk' (Nat.le_refl _) ?_,rfl,q _ _ (qa0 (I.hok.fresh (Nat.le_refl _)))⟩
  refine ⟨hd,let ⟨o,_,_,_,ho,_⟩:=hd;⟨o,ho⟩,λh1 h2 x y=>?_⟩;obtain ⟨o,es,ep,t,ho,r⟩:=x;exact ⟨o,es,ep,t,y _ ho,r⟩
theorem qhb {P:Program} {w:World} (k:Str) (v:Value):(PySem.strKind P w).is k v=true↔∃ t,v=.str k t:=by
 cases v<;>simp[PySem.strKind,Value.isStrOf]
theorem qr0:∀ (us:List Value),(∀ u∈us,∃ k t,u=Value.str k t)->∃ ks:List Str,Vals (ks.map V.str) us/\∀ k,k∈ks↔∃ t,Value.str k t∈us
 | [],_=>⟨[],.nil,λk=>by simp⟩
 | u :: us,h=>by
  obtain ⟨k,t,rfl⟩:=h u (by simp);obtain ⟨ks,v,m⟩:=qr0 us λu hu=>h u (List.mem_cons_of_mem _ hu)
  refine ⟨k :: ks,.cons ⟨t,rfl⟩ v,λk'=>?_⟩;rw[List.mem_cons,m k']
  constructor
  ·rintro (rfl|⟨t',h'⟩)
   ·exact ⟨t,by simp⟩
   ·exact ⟨t',List.mem_cons_of_mem _ h'⟩
  ·rintro ⟨t',h'⟩
   rcases List.mem_cons.mp h' with e|e
   ·injection e with e1 e2;exact .inl e1
   ·exact .inr ⟨t',e⟩
section
variable {α:Type} [DecidableEq α]
def qr1:List α->List α
 | []=>[]
 | x :: l=>if x∈l then qr1 l else x :: qr1 l
theorem qjp:∀ l:List α,(qr1 l).length=qct l
 | []=>rfl
 | x :: l=>by
  unfold qr1 qct
  split
  ·exact qjp l
  ·rw[List.length_cons,qjp l]
theorem qe1:∀ (l:List α) (k:α),k∈qr1 l↔k∈l
 | [],k=>by simp[qr1]
 | x :: l,k=>by
  unfold qr1
  split
  ·rename_i h
   rw[qe1 l k,List.mem_cons];exact ⟨.inr,λz=>z.elim (λe=>e ▸ h) id⟩
  ·rw[List.mem_cons,List.mem_cons,qe1 l k]
theorem qjq:∀ l:List α,(qr1 l).Nodup
 | []=>List.Pairwise.nil
 | x :: l=>by
  unfold qr1
  split
  ·exact qjq l
  ·rename_i h
   exact List.nodup_cons.mpr ⟨λz=>h ((qe1 l x).mp z),qjq l⟩
theorem qn2:∀ {d ks:List α},d.Nodup->(∀ x∈d,x∈ks)->ks.length<=d.length->ks.Perm d
 | [],ks,_,_,hl=>by rw[List.length_eq_zero_iff.mp (show ks.length=0 by simpa using hl)]
 | x :: d,ks,nd,sb,hl=>by
  have hx:x∈ks:=sb x (by simp);have n2:=List.nodup_cons.mp nd;have p:=List.perm_cons_erase hx;refine p.trans (.cons x (qn2 n2.2 (λy hy=>?_) ?_))
  ·exact (List.mem_erase_of_ne (λe:y=x=>n2.1 (e ▸ hy))).mpr (sb y (List.mem_cons_of_mem _ hy))
  ·have:=p.length_eq;simp at this hl;omega
theorem qA3 {ks l:List α} (m:∀ k,k∈ks↔k∈l) (hl:ks.length=qct l):ks.Nodup:=
 (qn2 (qjq l) (λx hx=>(m x).mpr ((qe1 l x).mp hx)) (by rw[qjp];omega)).nodup_iff.mpr (qjq l)
end
theorem qDy:∀ {ks:List Str} {ss:List (List Nat)},(∀ k∈ks,k∈ss.map S)->∃ kl:List (List Nat),ks=kl.map S
 | [],_,_=>⟨[],rfl⟩
 | k :: ks,ss,h=>by
  obtain ⟨x,_,e⟩:=List.mem_map.mp (h k (by simp));obtain ⟨kl,e2⟩:=qDy (ks:=ks) (ss:=ss) λk hk=>h k (List.mem_cons_of_mem _ hk)
  exact ⟨x :: kl,by rw[e2,<- e];rfl⟩
theorem qd6 {X:Cx} (hc:X.calm=true):CallR X (.builtin "sorted") (λxs H Q=>∃ (a:Addr) (ss:List (List Nat)),xs=[.ref a]/\H a=some (qCg X.prog X.w a (ss.map S))/\ss.length<64/\∀ ks l H',ks.Nodup->(∀ k,k∈ks↔k∈ss)->New H H' l (.lst ((qay ks).map λq=>V.str (S q)))->Q (.ref l) H'):=by
 intro pins s σ H xs us Q I r h;obtain ⟨a,ss,rfl,ha,h64,q⟩:=h;obtain ⟨u,rfl,rx⟩:=vals1 r
 cases (show u=Value.ref a from rx)
 obtain ⟨⟨o,es,ep,t,ho,hex,hd,hel,hmem,hb,hf,hn,hl,hp⟩,_⟩:=I.hok a _ ha;have hz:es.size<64:=by
  have:=qez (ss.map S).reverse;rw[List.length_reverse,List.length_map] at this;omega
 refine Calls.call_function_entry kind_sorted plain_sorted entry_sorted (args_sorted1 _) ?_;unfold Builtin.«sorted»;refine wpAny_bind (m:=checkCount "sorted" 1 1 _) (wpAny_pure ?_);refine wpAny_bind (qpl (I.ok.hd hc) ho hex hd hf (by omega) hl hp λh' d tk acc hk hacc=>?_);obtain ⟨ks,rv,mk⟩:=qr0 acc.toList λu hu=>by
  obtain ⟨e,he,rfl⟩:=List.mem_map.mp (hacc.mem_iff.mp hu);obtain ⟨⟨k,hk1,_⟩,_⟩:=hel e he;obtain ⟨t',e1⟩:=(qhb k e.2).mp hk1;exact ⟨k,t',e1⟩
 have mem:∀ k,k∈ks↔k∈ss.map S:=λk=>by
  rw[mk k];have m2:=hmem k;rw[decide_eq_true_eq,List.mem_reverse] at m2;rw[m2]
  constructor
  ·rintro ⟨t',ht'⟩
   obtain ⟨e,he,e1⟩:=List.mem_map.mp (hacc.mem_iff.mp ht');exact ⟨e,he,(qhb k e.2).mpr ⟨t',e1⟩⟩
  ·rintro ⟨e,he,hk1⟩
   obtain ⟨t',e1⟩:=(qhb k e.2).mp hk1;exact ⟨t',hacc.mem_iff.mpr (List.mem_map.mpr ⟨e,he,e1⟩)⟩
 have lks:ks.length=es.size:=by
  have:=rv.length;rw[List.length_map,hacc.length_eq] at this
  simpa using this
 obtain ⟨kl,rfl⟩:=qDy (ks:=ks) (ss:=ss) λk hk=>(mem k).mp hk
 have nd:(kl.map S).Nodup:=qA3 (l:=(ss.map S).reverse) (λk=>by rw[List.mem_reverse];exact mem k) (by rw[lks,hn]);have ndk:kl.Nodup:=List.Pairwise.of_map S (λa b h e=>h (congrArg S e)) nd;have memk:∀ k,k∈kl↔k∈ss:=λk=>by
  have:=mem (S k);rw[List.mem_map,List.mem_map] at this
  constructor
  ·intro hk
   obtain ⟨x,hx,e⟩:=this.mp ⟨k,hk,rfl⟩;rw[<- qpf e];exact hx
  ·intro hk
   obtain ⟨x,hx,e⟩:=this.mpr ⟨k,hk,rfl⟩;rw[<- qpf e];exact hx
 have hlen:acc.toList.length=kl.length:=by have:=rv.length;simpa using this.symm
 have hkl:kl.length<64:=by rw[List.length_map] at lks;omega
 have I0:Inv X pins σ H { s with drawn:=d }:=⟨I.ok,I.os,I.bare,I.base,I.loc,I.cell,I.free,I.freeC,I.pin,I.hok,I.len⟩;have hS:StrsAre acc.toList (kl.map S):=qdz rv;have I':Inv X pins σ H { s with heap:=h',drawn:=d,toks:=tk }:=I0.kept hk;refine wpAny_bind (wpAny_newList ?_ (by rw[hlen,sizeLine_eq];omega));have hoL:(h'.push (seqObj "list" acc.toList.toArray 0)).get? h'.objs.size=some (seqObj "list" acc.toList.toArray 0):=Heap.get?_push_size _ rfl;refine wpAny_bind (wpAny_holding (wpAny_call_entry slot_list_sort ⟨_,hoL,rfl⟩ entry_list_sort (list_sort_treeK (s:={ s with heap:=h'.push (seqObj "list" acc.toList.toArray 0),drawn:=d,toks:=tk }) strKind_oneLt hoL hS.keysOf (λv₁ v₂ rest e=>keyKind_strs (by rw[<- e];exact hS)) (by omega) λst' a1 a2=>⟨_,rfl,?_⟩) (args_list_sort _)));refine wpAny_pure ⟨_,rfl,?_⟩;obtain ⟨ms,m1,m2,m3⟩:=sorted_out_str hS a1 a2;have em:=qjn m2 m3;subst em;obtain ⟨c,hat⟩:∃ c,(sortedHeap (h'.push (seqObj "list" acc.toList.toArray 0)) h'.objs.size acc.toList ((arrOf st').map (·.2))).get? h'.objs.size=some (seqObj "list" ((arrOf st').map (·.2)) c):=sortedHeap_at hoL;have kp:∀ b ob,h'.get? b=some ob->(sortedHeap (h'.push (seqObj "list" acc.toList.toArray 0)) h'.objs.size acc.toList ((arrOf st').map (·.2))).get? b=some ob:=λb ob hb=>by
  have lb:=Heap.lt_size hb;rw[sortedHeap_old (Nat.ne_of_lt lb) (by rw[size_push'];exact Nat.lt_succ_of_lt lb)];exact Heap.get?_push_of_some _ hb
 have hl2:((qay kl).map S).length<=sizeLine:=by rw[List.length_map,(qah kl).length_eq,sizeLine_eq];omega
 have vv:=qey m1;rw[List.map_map] at vv;exact ⟨.ref h'.objs.size,upd H h'.objs.size (.lst ((qay kl).map λq=>V.str (S q))),I'.laid (t':=tk) kp (Nat.le_refl _) ⟨by simpa using hl2,_,c,vv,by rw[hat]⟩,rfl,q kl _ _ ndk memk (qa0 (I'.hok.fresh (Nat.le_refl _)))⟩
open PySem PySem.Spec PyProof.Rows
section
variable {X:Cx}
end
open PySem PySem.Spec PyProof.Rows
theorem qr2 {X:Cx}:CallR X (.builtin "len") (λxs H Q=>∃ (a:Addr) (ss:List Str),xs=[.ref a]/\H a=some (qCg X.prog X.w a ss)/\ss.length<=1000/\Q (.int (qct ss.reverse:Nat)) H):=by
 intro pins s σ H xs us Q I r h;obtain ⟨a,ss,rfl,ha,hz,q⟩:=h;obtain ⟨u,rfl,ru⟩:=vals1 r
 cases (show u=Value.ref a from ru)
 obtain ⟨⟨o,es,ep,t,ho,hex,hdt,_,_,_,hf,hn,_⟩,_⟩:=I.hok a _ ha;have:=qez ss.reverse;rw[List.length_reverse] at this;refine call_len_set ho hex hdt hf (by omega) ?_;exact ⟨.int (qct ss.reverse:Nat),H,I.tok (s.toks+1+1),⟨_,by rw[hn]⟩,q⟩
open PySem PySem.Spec PyProof.Rows PySem.W
section
variable {prog:Program} {w:World} {A:Around} {E:Value->Shared->Prop} {s:Shared}
end
section
variable {X:Cx}
end
open PySem PySem.Spec PyProof.Rows
section
variable {X:Cx} {pins:List (Addr×Obj)} {σ:St} {H H':Hp} {s:Shared} {h':Heap}
end
section
variable {X:Cx}
end
open PySem PySem.Spec PyProof.Rows
section
variable {prog:Program} {w:World} {A:Around} {E:Value->Shared->Prop} {s:Shared}
end
section
variable {X:Cx}
open Classical in
end
open PySem PySem.Spec PyProof.Rows PySem.W
def qtt:Bool->Keyed->Array Keyed->Nat->Nat->Nat->StateT SortSt Sem (Option Nat):=sortPriv% PySem.Builtin.gallop
def setG:Nat->StateT SortSt Sem Unit:=sortPriv% PySem.Builtin.setMinGallop
def mLo:Array Keyed->Array Keyed->StateT SortSt Sem (Array Keyed):=sortPriv% PySem.Builtin.mergeLo
def mHi:Array Keyed->Array Keyed->StateT SortSt Sem (Array Keyed):=sortPriv% PySem.Builtin.mergeHi
def Lts (prog:Program) (w:World) (A:Around) (s:Shared) (κ:SortKind) (P:Value->Prop):Prop:=∀ (E:Value->Shared->Prop) (x y:Value) (Q:Bool->Shared->Prop),P x->P y->(∀ b,Q b s)->wpAny (model prog w) A (keyLt' κ x y) Q E s
structure SB (κ:SortKind) (a₀:Array Keyed) (pd:Array (Nat×Nat×Nat)) (st:SortSt):Prop where
 kind:kindOf st=κ
 perm:(arrOf st).Perm a₀
 failed:failedOf st=none
 pend:pendingOf st=pd
section
variable {prog:Program} {w:World} {A:Around} {E:Value->Shared->Prop} {s:Shared} {κ:SortKind} {P:Value->Prop} {a₀:Array Keyed} {pd:Array (Nat×Nat×Nat)} {st:SortSt}
theorem SB.size (h:SB κ a₀ pd st):(arrOf st).size=a₀.size:=h.perm.size_eq
theorem SB.setArr (h:SB κ a₀ pd st) {xs:Array Keyed} (hp:xs.Perm (arrOf st)):SB κ a₀ pd (setArr st xs):=⟨h.kind,hp.trans h.perm,h.failed,h.pend⟩
theorem SB.at (h:SB κ a₀ pd st) (hP:∀ p∈a₀,P p.1) {i:Nat} (hi:i<a₀.size):∃ p,(arrOf st)[i]?=some p/\P p.1:=by
 have hs:=h.size;have hi':i<(arrOf st).size:=by omega
 exact ⟨_,Array.getElem?_eq_getElem hi',hP _ (h.perm.mem_iff.mp (Array.getElem_mem hi'))⟩
theorem qhc {x y:Keyed} {Q:Option Bool->SortSt->Prop} (L:Lts prog w A s κ P) (hk:kindOf st=κ) (hx:P x.1) (hy:P y.1) (h:∀ b,Q (some b) st):wpS (model prog w) A E s (lt' x y) Q st:=by
 rw[lt'_eq];refine wpS_bind (wpS_get ?_);rw[hk];refine wpS_bind (wpS_lift (wpAny_attempt (L _ _ _ _ hx hy λb=>⟨rfl,?_⟩)));exact wpS_pure (h b)
theorem qbf {arr:Array Keyed} {i:Nat} {p:Keyed} {Q:Keyed->SortSt->Prop} (h:arr[i]?=some p) (q:Q p st):wpS (model prog w) A E s (elem' arr i) Q st:=by
 rw[elem'_eq,h];exact wpS_pure q
theorem qiq {i j:Nat} {Q:Option Bool->SortSt->Prop} (L:Lts prog w A s κ P) (hP:∀ p∈a₀,P p.1) (B:SB κ a₀ pd st) (hi:i<a₀.size) (hj:j<a₀.size) (h:∀ b,Q (some b) st):wpS (model prog w) A E s (ltAt' i j) Q st:=by
 rw[ltAt'_eq];refine wpS_bind (wpS_get ?_);obtain ⟨p,e1,h1⟩:=B.at hP hi;obtain ⟨q,e2,h2⟩:=B.at hP hj;exact wpS_bind (qbf e1 (wpS_bind (qbf e2 (qhc L B.kind h1 h2 h))))
theorem qn3 {i j:Nat} {Q:Unit->SortSt->Prop} (B:SB κ a₀ pd st) (h:∀ st',SB κ a₀ pd st'->Q () st'):wpS (model prog w) A E s (reverseSlice' i j) Q st:=by
 rw[reverseSlice'_eq];exact wpS_modify (h _ (B.setArr (mirror_perm _ _ _ _)))
theorem qyi {i j:Nat} {Q:Unit->SortSt->Prop} (B:SB κ a₀ pd st) (h:∀ st',SB κ a₀ pd st'->Q () st'):wpS (model prog w) A E s (moveDown' i j) Q st:=by
 rw[moveDown'_eq];exact wpS_modify (h _ (B.setArr (bubble_perm _ _ _)))
theorem qyj {lo n ok:Nat} {Q:Bool->SortSt->Prop} (L:Lts prog w A s κ P) (hP:∀ p∈a₀,P p.1) (hn:lo+n<=a₀.size) (B:SB κ a₀ pd st) (h:∀ st',SB κ a₀ pd st'->Q true st'):wpS (model prog w) A E s (binarySort' lo n ok) Q st:=by
 rw[binarySort'_eq];refine wpS_bind (wpS_mono (wpS_forRange (I:=λk c st'=>c=(none,())/\SB κ a₀ pd st') (Q:=λc st'=>c=(none,())/\SB κ a₀ pd st') ?step (λc st' h=>h) ⟨rfl,B⟩) ?post)
 case post =>
  rintro c st' ⟨rfl,B'⟩;exact wpS_pure (h st' B')
 case step =>
  rintro k c st' hak hkn ⟨rfl,B'⟩;refine wpS_bind (wpS_mono (wpS_forRange (I:=λx c st''=>st''=st'/\∃ l r,c=(none,l,r)/\r<=k) (Q:=λc st''=>st''=st'/\∃ l r,c=(none,l,r)) ?istep (λc st'' h=>let ⟨a,l,r,e,_⟩:=h;⟨a,l,r,e⟩) ⟨rfl,0,k,rfl,Nat.le_refl _⟩) ?ipost)
  case ipost =>
   rintro c st'' ⟨rfl,l,r,rfl⟩;dsimp only;exact wpS_bind (qyi B' λst3 B3=>wpS_pure ⟨rfl,B3⟩)
  case istep =>
   rintro x c st'' _ hxk ⟨rfl,l,r,rfl,hr⟩;dsimp only
   by_cases hge:l ≥ r
   ·rw[if_pos hge];exact wpS_pure ⟨rfl,l,r,rfl⟩
   ·rw[if_neg hge]
    refine wpS_bind (qiq L hP B' (by omega) (by omega) λb=>?_);dsimp only;cases b
    ·exact wpS_pure ⟨rfl,_,_,rfl,hr⟩
    ·exact wpS_pure ⟨rfl,_,_,rfl,by omega⟩
theorem qyk {lo nrem:Nat} {Q:Option Nat->SortSt->Prop} (L:Lts prog w A s κ P) (hP:∀ p∈a₀,P p.1) (hn:lo+nrem<=a₀.size) (h1:1<=nrem) (B:SB κ a₀ pd st) (h:∀ m st',SB κ a₀ pd st'->1<=m->m<=nrem->Q (some m) st'):wpS (model prog w) A E s (countRun' lo nrem) Q st:=by
 rw[countRun'_eq];have third:∀ (n:Nat) (st:SortSt),SB κ a₀ pd st->1<=n->n<=nrem->wpS (model prog w) A E s (do
   reverseSlice' lo (lo+n)
   let mut n:=n
   for _ in [n:nrem] do
    let some smaller <- ltAt' (lo+n) (lo+n-1)|return none
    if smaller then break
    n:=n+1
   return some n) Q st:=λn st B hn1 hn2=>by
  refine wpS_bind (qn3 B λst' B'=>?_);refine wpS_bind (wpS_mono (wpS_forRange (I:=λx c st''=>c=(none,x)/\st''=st') (Q:=λc st''=>∃ m,c=(none,m)/\st''=st'/\1<=m/\m<=nrem) ?step ?fin ⟨rfl,rfl⟩) ?post)
  case post =>
   rintro c st'' ⟨m,rfl,rfl,m1,m2⟩;exact wpS_pure (h m _ B' m1 m2)
  case fin =>
   rintro c st'' ⟨rfl,rfl⟩;exact ⟨_,rfl,rfl,by omega,by omega⟩
  case step =>
   rintro x c st'' hx hxn ⟨rfl,rfl⟩;dsimp only;refine wpS_bind (qiq L hP B' (by omega) (by omega) λb=>?_);cases b
   ·exact wpS_pure ⟨rfl,rfl⟩
   ·exact wpS_pure ⟨x,rfl,rfl,by omega,by omega⟩
 have second:∀ (n:Nat) (st:SortSt),SB κ a₀ pd st->1<=n->n+1<=nrem->wpS (model prog w) A E s (do
   rule "list.sort.descending-run"
   let mut n:=n+1
   let mut neq:=0
   for _ in [n:nrem] do
    let some smaller <- ltAt' (lo+n) (lo+n-1)|return none
    if smaller then
     if neq>0 then reverseSlice' (lo+n-(neq+1)) (lo+n)
     neq:=0
    else
     let some larger <- ltAt' (lo+n-1) (lo+n)|return none
     if larger then break
     neq:=neq+1
    n:=n+1
   if neq>0 then reverseSlice' (lo+n-(neq+1)) (lo+n)
   reverseSlice' lo (lo+n)
   for _ in [n:nrem] do
    let some smaller <- ltAt' (lo+n) (lo+n-1)|return none
    if smaller then break
    n:=n+1
   return some n) Q st:=λn st B hn1 hn2=>by
  refine wpS_bind (wpS_lift (wpAny_rule ⟨rfl,?_⟩));refine wpS_bind (wpS_mono (wpS_forRange (I:=λx c st''=>(∃ q,c=(none,x,q))/\SB κ a₀ pd st'') (Q:=λc st''=>∃ m q,c=(none,m,q)/\SB κ a₀ pd st''/\1<=m/\m<=nrem) ?step ?fin ⟨⟨0,rfl⟩,B⟩) ?post)
  case post =>
   rintro c st'' ⟨m,q,rfl,B'',m1,m2⟩;dsimp only
   split
   ·exact wpS_bind (qn3 B'' λst3 B3=>third m st3 B3 m1 m2)
   ·exact third m st'' B'' m1 m2
  case fin =>
   rintro c st'' ⟨⟨q,rfl⟩,B''⟩;exact ⟨_,_,rfl,B'',by omega,by omega⟩
  case step =>
   rintro x c st'' hx hxn ⟨⟨q,rfl⟩,B''⟩;dsimp only;refine wpS_bind (qiq L hP B'' (by omega) (by omega) λb=>?_);cases b
   ·dsimp only
    refine wpS_bind (qiq L hP B'' (by omega) (by omega) λb=>?_);cases b
    ·exact wpS_pure ⟨⟨_,rfl⟩,B''⟩
    ·exact wpS_pure ⟨x,q,rfl,B'',by omega,by omega⟩
   ·dsimp only
    rw[if_pos rfl]
    split
    ·exact wpS_bind (qn3 B'' λst3 B3=>wpS_pure ⟨⟨_,rfl⟩,B3⟩)
    ·exact wpS_pure ⟨⟨_,rfl⟩,B''⟩
 refine wpS_bind (wpS_mono (wpS_forRange (I:=λx c st''=>c=(none,x)/\st''=st) (Q:=λc st''=>∃ m,c=(none,m)/\st''=st/\1<=m/\m<=nrem) ?step ?fin ⟨rfl,rfl⟩) ?post)
 case post =>
  rintro c st'' ⟨m,rfl,rfl,m1,m2⟩;dsimp only
  by_cases z:(m == nrem)=true
  ·rw[if_pos z];exact wpS_pure (h m _ B m1 m2)
  ·rw[if_neg z]
   have z':m≠nrem:=by simpa using z
   split
   ·refine wpS_bind (qiq L hP B (by omega) (by omega) λb=>?_)
    cases b
    ·exact wpS_bind (qn3 B λst3 B3=>second m st3 B3 m1 (by omega))
    ·exact wpS_pure (h m _ B m1 m2)
   ·exact second m _ B m1 (by omega)
 case fin =>
  rintro c st'' ⟨rfl,rfl⟩;exact ⟨_,rfl,rfl,by omega,by omega⟩
 case step =>
  rintro x c st'' hx hxn ⟨rfl,rfl⟩;dsimp only;refine wpS_bind (qiq L hP B (by omega) (by omega) λb=>?_);cases b
  ·exact wpS_pure ⟨rfl,rfl⟩
  ·exact wpS_pure ⟨x,rfl,rfl,by omega,by omega⟩
theorem qyl (left:Bool) (key:Keyed) (arr:Array Keyed) (base n hint:Nat):qtt left key arr base n hint=(do
 let beyond (i:Nat):StateT SortSt Sem (Option Bool):=do
  let x <- elem' arr (base+i)
  if left then lt' x key else return (<- lt' key x).map (!·)
 let mut lastofs:=0
 let mut ofs:=1
 let mut lo:=0
 let mut hi:=0
 let some right <- beyond hint|return none
 if right then
  let maxofs:=n-hint
  for _ in [0:n] do
   if ofs ≥ maxofs then break
   let some more <- beyond (hint+ofs)|return none
   if !more then break
   lastofs:=ofs
   ofs:=2*ofs+1
  lo:=hint+lastofs+1
  hi:=hint+min ofs maxofs
 else
  let maxofs:=hint+1
  for _ in [0:n] do
   if ofs ≥ maxofs then break
   let some found <- beyond (hint-ofs)|return none
   if found then break
   lastofs:=ofs
   ofs:=2*ofs+1
  lo:=hint+1-min ofs maxofs
  hi:=hint-lastofs
 for _ in [0:n] do
  if lo ≥ hi then break
  let m:=lo+(hi-lo) / 2
  let some more <- beyond m|return none
  if more then lo:=m+1 else hi:=m
 return some hi):=rfl
theorem qdj {left:Bool} {key:Keyed} {arr:Array Keyed} {base n hint:Nat} {Q:Option Nat->SortSt->Prop} (L:Lts prog w A s κ P) (hk:kindOf st=κ) (hK:P key.1) (hA:∀ p∈arr,P p.1) (hb:base+n<=arr.size) (hh:hint<n) (h:∀ k,k<=n->Q (some k) st):wpS (model prog w) A E s (qtt left key arr base n hint) Q st:=by
 rw[qyl];dsimp only;have bey:∀ (i:Nat) {Q:Option Bool->SortSt->Prop},i<n->(∀ b,Q (some b) st)->wpS (model prog w) A E s (do
   let x <- elem' arr (base+i)
   if left then lt' x key else return (<- lt' key x).map (!·)) Q st:=λi Q hi hq=>by
  have hi':base+i<arr.size:=by omega
  refine wpS_bind (qbf (Array.getElem?_eq_getElem hi') ?_);have hp:=hA _ (Array.getElem_mem hi');cases left
  ·rw[if_neg (by decide)]
   exact wpS_bind (qhc L hk hK hp λb=>wpS_pure (hq _))
  ·rw[if_pos rfl]
   exact qhc L hk hp hK hq
 have last:∀ (lo hi:Nat),hi<=n->wpS (model prog w) A E s (do
   let mut lo:=lo
   let mut hi:=hi
   for _ in [0:n] do
    if lo ≥ hi then break
    let m:=lo+(hi-lo) / 2
    let some more <- (do
     let x <- elem' arr (base+m)
     if left then lt' x key else return (<- lt' key x).map (!·))|return none
    if more then lo:=m+1 else hi:=m
   return some hi) Q st:=λlo hi hhi=>by
  refine wpS_bind (wpS_mono (wpS_forRange (I:=λx c st''=>st''=st/\∃ a b,c=(none,a,b)/\b<=n) (Q:=λc st''=>st''=st/\∃ a b,c=(none,a,b)/\b<=n) ?step (λc st'' h=>h) ⟨rfl,_,_,rfl,hhi⟩) ?post)
  case post =>
   rintro c st'' ⟨rfl,a,b,rfl,hb⟩;exact wpS_pure (h b hb)
  case step =>
   rintro x c st'' _ _ ⟨rfl,a,b,rfl,hb⟩;dsimp only
   by_cases hge:a ≥ b
   ·rw[if_pos hge];exact wpS_pure ⟨rfl,a,b,rfl,hb⟩
   ·rw[if_neg hge]
    refine wpS_bind (bey _ (by omega) λc=>?_);cases c
    ·exact wpS_pure ⟨rfl,_,_,rfl,by omega⟩
    ·exact wpS_pure ⟨rfl,_,_,rfl,hb⟩
 refine wpS_bind (bey _ hh λc=>?_);cases c
 ·dsimp only
  rw[if_neg (by decide)];refine wpS_bind (wpS_mono (wpS_forRange (I:=λx c st''=>st''=st/\∃ a b,c=(none,a,b)/\1<=b) (Q:=λc st''=>st''=st/\∃ a b,c=(none,a,b)) ?step2 (λc st'' h=>let ⟨a,l,r,e,_⟩:=h;⟨a,l,r,e⟩) ⟨rfl,_,_,rfl,Nat.le_refl _⟩) ?post2)
  case post2 =>
   rintro c st'' ⟨rfl,a,b,rfl⟩;exact last _ _ (by omega)
  case step2 =>
   rintro x c st'' _ _ ⟨rfl,a,b,rfl,hb⟩;dsimp only
   by_cases hge:b ≥ hint+1
   ·rw[if_pos hge];exact wpS_pure ⟨rfl,a,b,rfl⟩
   ·rw[if_neg hge]
    refine wpS_bind (bey _ (by omega) λc=>?_);cases c
    ·exact wpS_pure ⟨rfl,_,_,rfl,by omega⟩
    ·exact wpS_pure ⟨rfl,_,_,rfl⟩
 ·dsimp only
  rw[if_pos rfl];refine wpS_bind (wpS_mono (wpS_forRange (I:=λx c st''=>st''=st/\∃ a b,c=(none,a,b)) (Q:=λc st''=>st''=st/\∃ a b,c=(none,a,b)) ?step3 (λc st'' h=>h) ⟨rfl,_,_,rfl⟩) ?post3)
  case post3 =>
   rintro c st'' ⟨rfl,a,b,rfl⟩;exact last _ _ (by omega)
  case step3 =>
   rintro x c st'' _ _ ⟨rfl,a,b,rfl⟩;dsimp only
   by_cases hge:b ≥ n-hint
   ·rw[if_pos hge];exact wpS_pure ⟨rfl,a,b,rfl⟩
   ·rw[if_neg hge]
    refine wpS_bind (bey _ (by omega) λc=>?_);cases c
    ·exact wpS_pure ⟨rfl,_,_,rfl⟩
    ·exact wpS_pure ⟨rfl,_,_,rfl⟩
end
open PySem PySem.Spec PyProof.Rows PySem.W
section
variable {prog:Program} {w:World} {A:Around} {E:Value->Shared->Prop} {s:Shared} {κ:SortKind} {P:Value->Prop} {a₀:Array Keyed} {pd:Array (Nat×Nat×Nat)} {st:SortSt}
structure SG (st st':SortSt):Prop where
 k:kindOf st'=kindOf st
 a:arrOf st'=arrOf st
 p:pendingOf st'=pendingOf st
 f:failedOf st'=failedOf st
theorem SG.rfl (st:SortSt):SG st st:=⟨Eq.refl _,Eq.refl _,Eq.refl _,Eq.refl _⟩
theorem SG.trans {a b c:SortSt} (x:SG a b) (y:SG b c):SG a c:=⟨y.k.trans x.k,y.a.trans x.a,y.p.trans x.p,y.f.trans x.f⟩
theorem qym (g:Nat):setG g=modify λs=>SortSt.mk' (kindOf s) (arrOf s) (pendingOf s) g (failedOf s):=Eq.refl _
theorem qir {g:Nat} {Q:Unit->SortSt->Prop} (h:∀ st',SG st st'->Q () st'):wpS (model prog w) A E s (setG g) Q st:=by
 rw[qym];exact wpS_modify (h _ ⟨Eq.refl _,Eq.refl _,Eq.refl _,Eq.refl _⟩)
def qfh (a b out:Array Keyed) (ia ib:Nat):Array Keyed:=out ++ a.extract ia a.size ++ b.extract ib b.size
def qjr (a b out:Array Keyed) (ia ib:Nat):Array Keyed:=out ++ b.extract ib b.size ++ a.extract ia a.size
theorem qA4 (a b:Array Keyed):mLo a b=(do
 rule "list.sort.merge-lo"
 let total:=a.size+b.size
 let mut out:Array Keyed:=#[<- elem' b 0]
 let mut ia:=0
 let mut ib:=1
 if ib == b.size then return qfh a b out ia ib
 if ia+1 == a.size then return qjr a b out ia ib
 let mut minGallop:=gallopOf (<- get)
 for _ in [0:total] do
  let mut acount:=0
  let mut bcount:=0
  for _ in [0:total] do
   let some bWins <- lt' (<- elem' b ib) (<- elem' a ia)|return qfh a b out ia ib
   if bWins then
    out:=out.push (<- elem' b ib);ib:=ib+1;bcount:=bcount+1;acount:=0
    if ib == b.size then return qfh a b out ia ib
    if bcount ≥ minGallop then break
   else
    out:=out.push (<- elem' a ia);ia:=ia+1;acount:=acount+1;bcount:=0
    if ia+1 == a.size then return qjr a b out ia ib
    if acount ≥ minGallop then break
  rule "list.sort.gallop"
  minGallop:=minGallop+1
  for _ in [0:total] do
   if minGallop>1 then minGallop:=minGallop-1
   setG minGallop
   let some k <- qtt false (<- elem' b ib) a ia (a.size-ia) 0|return qfh a b out ia ib
   acount:=k
   if k>0 then
    out:=out ++ a.extract ia (ia+k);ia:=ia+k
    if ia+1 == a.size then return qjr a b out ia ib
    if ia == a.size then return qfh a b out ia ib
   out:=out.push (<- elem' b ib);ib:=ib+1
   if ib == b.size then return qfh a b out ia ib
   let some k <- qtt true (<- elem' a ia) b ib (b.size-ib) 0|return qfh a b out ia ib
   bcount:=k
   if k>0 then
    out:=out ++ b.extract ib (ib+k);ib:=ib+k
    if ib == b.size then return qfh a b out ia ib
   out:=out.push (<- elem' a ia);ia:=ia+1
   if ia+1 == a.size then return qjr a b out ia ib
   if acount<7 && bcount<7 then break
  minGallop:=minGallop+1
  setG minGallop
 unsupported "internal:list.sort.merge-bound"):=Eq.refl _
structure ML (a b out:Array Keyed) (x y:Nat):Prop where
 ia:x<=a.size
 ib:y<=b.size
 pm:(out.toList ++ (a.toList.drop x ++ b.toList.drop y)).Perm (a.toList ++ b.toList)
section
variable {a b out:Array Keyed} {x y:Nat}
theorem qjs (a:Array Keyed) (x:Nat):(a.extract x a.size).toList=a.toList.drop x:=by
 rw[Array.toList_extract]
 simp[List.extract]
 apply List.take_of_length_le
 simp
theorem qA5 (a:Array Keyed) (x k:Nat):(a.extract x (x+k)).toList=(a.toList.drop x).take k:=by
 rw[Array.toList_extract]
 simp[List.extract]
theorem ML.done (h:ML a b out x y):(qfh a b out x y).Perm (a ++ b):=by
 rw[Array.perm_iff_toList_perm];unfold qfh;rw[Array.toList_append,Array.toList_append,Array.toList_append,qjs,qjs,List.append_assoc];exact h.pm
theorem ML.last (h:ML a b out x y):(qjr a b out x y).Perm (a ++ b):=by
 rw[Array.perm_iff_toList_perm];unfold qjr;rw[Array.toList_append,Array.toList_append,Array.toList_append,qjs,qjs,List.append_assoc];exact (List.perm_append_comm.append_left _).trans h.pm
theorem ML.pa (h:ML a b out x y) (hx:x<a.size):ML a b (out.push a[x]) (x+1) y:=by
 refine ⟨hx,h.ib,?_⟩;have e:a.toList.drop x=a[x] :: a.toList.drop (x+1):=by rw[List.drop_eq_getElem_cons (by simpa using hx)];simp
 have:=h.pm;rw[e] at this;rw[Array.toList_push,List.append_assoc];exact this
theorem ML.pb (h:ML a b out x y) (hy:y<b.size):ML a b (out.push b[y]) x (y+1):=by
 refine ⟨h.ia,hy,?_⟩;have e:b.toList.drop y=b[y] :: b.toList.drop (y+1):=by rw[List.drop_eq_getElem_cons (by simpa using hy)];simp
 have:=h.pm;rw[e] at this;rw[Array.toList_push,List.append_assoc];refine List.Perm.trans (List.Perm.append_left _ ?_) this;exact (List.perm_middle (a:=b[y]) (l₁:=a.toList.drop x) (l₂:=b.toList.drop (y+1))).symm
theorem ML.ea {k:Nat} (h:ML a b out x y) (hk:k<=a.size-x):ML a b (out ++ a.extract x (x+k)) (x+k) y:=by
 refine ⟨by have:=h.ia;omega,h.ib,?_⟩;rw[Array.toList_append,qA5,List.append_assoc];have e:a.toList.drop x=(a.toList.drop x).take k ++ a.toList.drop (x+k):=by rw[<- List.drop_drop,List.take_append_drop]
 have:=h.pm;rw[e,List.append_assoc] at this;exact this
theorem ML.eb {k:Nat} (h:ML a b out x y) (hk:k<=b.size-y):ML a b (out ++ b.extract y (y+k)) x (y+k):=by
 refine ⟨h.ia,by have:=h.ib;omega,?_⟩;rw[Array.toList_append,qA5,List.append_assoc];have e:b.toList.drop y=(b.toList.drop y).take k ++ b.toList.drop (y+k):=by rw[<- List.drop_drop,List.take_append_drop]
 have:=h.pm;rw[e] at this;refine List.Perm.trans (List.Perm.append_left _ ?_) this;rw[<- List.append_assoc,<- List.append_assoc];exact List.perm_append_comm.append_right _
end
abbrev L7:=Option (Array Keyed)×Array Keyed×Nat×Nat×Nat×Nat×Nat
section
variable {a b out:Array Keyed} {x y g k:Nat} {M:Nat} {R:ForInStep L7->SortSt->Prop}
structure MW (a b:Array Keyed) (st:SortSt) (M:Nat) (R:ForInStep L7->SortSt->Prop):Prop where
 fin:∀ r rest st',r.Perm (a ++ b)->SG st st'->R (.done (some r,rest)) st'
 on:∀ out x y g k l st',ML a b out x y->x+1<a.size->y<b.size->M<x+y->SG st st'->R (.done (none,out,x,y,g,k,l)) st'/\R (.yield (none,out,x,y,g,k,l)) st'
theorem qA6 {st0:SortSt} {m:StateT SortSt Sem (ForInStep L7)} (W:MW a b st0 M R) (h:MW a b st0 M R->wpS (model prog w) A E s m R st):wpS (model prog w) A E s m R st:=h W
theorem qwc {l:Nat} {st0:SortSt} (W:MW a b st0 M R) (sg:SG st0 st) (m:ML a b out x y) (hx:x+1<a.size) (hy:y<b.size) (hM:M<=x+y):wpS (model prog w) A E s (do
  let d <- elem' a x
  if (x+1+1 == a.size)=true then pure (ForInStep.done (some (qjr a b (out.push d) (x+1) y),out.push d,x+1,y,g,k,l))
  else if (decide (k<7) && decide (l<7))=true then pure (ForInStep.done (none,out.push d,x+1,y,g,k,l))
  else pure (ForInStep.yield (none,out.push d,x+1,y,g,k,l))) R st:=by
 have hx':x<a.size:=by omega
 refine wpS_bind (qbf (Array.getElem?_eq_getElem hx') ?_);have m2:=m.pa hx'
 by_cases z:(x+1+1 == a.size)=true
 ·rw[if_pos z];exact wpS_pure (W.fin _ _ _ m2.last sg)
 rw[if_neg z];have z':x+1+1≠a.size:=by simpa using z
 have o:=W.on _ _ _ g k l _ m2 (by omega) hy (by omega) sg
 split
 ·exact wpS_pure o.1
 ·exact wpS_pure o.2
theorem qn4 {l0:Nat} {st0:SortSt} (L:Lts prog w A s κ P) (hk:kindOf st0=κ) (hA:∀ p∈a,P p.1) (hB:∀ p∈b,P p.1) (W:MW a b st0 M R) (sg:SG st0 st) (m:ML a b out x y) (hx:x+1<a.size) (hy:y<b.size) (hM:M<=x+y):wpS (model prog w) A E s (do
  let d <- elem' b y
  if (y+1 == b.size)=true then pure (ForInStep.done (some (qfh a b (out.push d) x (y+1)),out.push d,x,y+1,g,k,l0))
  else do
   let e <- elem' a x
   let r <- qtt true e b (y+1) (b.size-(y+1)) 0
   match r with
   | some l =>
    if l>0 then
     if (y+1+l == b.size)=true then pure (ForInStep.done (some (qfh a b (out.push d ++ b.extract (y+1) (y+1+l)) x (y+1+l)),out.push d ++ b.extract (y+1) (y+1+l),x,y+1+l,g,k,l))
     else do
      let f <- elem' a x
      if (x+1+1 == a.size)=true then pure (ForInStep.done (some (qjr a b ((out.push d ++ b.extract (y+1) (y+1+l)).push f) (x+1) (y+1+l)),(out.push d ++ b.extract (y+1) (y+1+l)).push f,x+1,y+1+l,g,k,l))
      else if (decide (k<7) && decide (l<7))=true then pure (ForInStep.done (none,(out.push d ++ b.extract (y+1) (y+1+l)).push f,x+1,y+1+l,g,k,l))
      else pure (ForInStep.yield (none,(out.push d ++ b.extract (y+1) (y+1+l)).push f,x+1,y+1+l,g,k,l))
    else do
     let f <- elem' a x
     if (x+1+1 == a.size)=true then pure (ForInStep.done (some (qjr a b ((out.push d).push f) (x+1) (y+1)),(out.push d).push f,x+1,y+1,g,k,l))
     else if (decide (k<7) && decide (l<7))=true then pure (ForInStep.done (none,(out.push d).push f,x+1,y+1,g,k,l))
     else pure (ForInStep.yield (none,(out.push d).push f,x+1,y+1,g,k,l))
   | _=>pure (ForInStep.done (some (qfh a b (out.push d) x (y+1)),out.push d,x,y+1,g,k,l0))) R st:=by
 refine wpS_bind (qbf (Array.getElem?_eq_getElem hy) ?_);have m2:=m.pb hy
 by_cases z:(y+1 == b.size)=true
 ·rw[if_pos z];exact wpS_pure (W.fin _ _ _ m2.done sg)
 rw[if_neg z];have z':y+1≠b.size:=by simpa using z
 have hx':x<a.size:=by omega
 refine wpS_bind (qbf (Array.getElem?_eq_getElem hx') ?_);refine wpS_bind (qdj L (sg.k.trans hk) (hA _ (Array.getElem_mem hx')) hB (by omega) (by omega) λl hl=>?_);dsimp only
 by_cases z3:l>0
 ·rw[if_pos z3]
  have m3:=m2.eb hl
  by_cases z4:(y+1+l == b.size)=true
  ·rw[if_pos z4];exact wpS_pure (W.fin _ _ _ m3.done sg)
  rw[if_neg z4];have z5:y+1+l≠b.size:=by simpa using z4
  exact qwc W sg m3 hx (by have:=m3.ib;omega) (by omega)
 ·rw[if_neg z3]
  exact qwc W sg m2 hx (by omega) (by omega)
end
theorem qyn {a b:Array Keyed} {Q:Array Keyed->SortSt->Prop} (L:Lts prog w A s κ P) (hk:kindOf st=κ) (hA:∀ p∈a,P p.1) (hB:∀ p∈b,P p.1) (a1:1<=a.size) (b1:1<=b.size) (h:∀ out st',out.Perm (a ++ b)->SG st st'->Q out st'):wpS (model prog w) A E s (mLo a b) Q st:=by
 rw[qA4];dsimp only;refine wpS_bind (wpS_lift (wpAny_rule ⟨Eq.refl _,?_⟩));refine wpS_bind (qbf (Array.getElem?_eq_getElem b1) ?_);have m0:ML a b #[] 0 0:=⟨Nat.zero_le _,Nat.zero_le _,by simp⟩;have m1:ML a b #[b[0]] 0 1:=m0.pb b1
 by_cases z1:(1 == b.size)=true
 ·rw[if_pos z1];exact wpS_pure (h _ _ m1.done (SG.rfl _))
 rw[if_neg z1]
 by_cases z2:(0+1 == a.size)=true
 ·rw[if_pos z2];exact wpS_pure (h _ _ m1.last (SG.rfl _))
 rw[if_neg z2];refine wpS_bind (wpS_get ?_);have z1':1≠b.size:=by simpa using z1
 have z2':1≠a.size:=by simpa using z2
 refine wpS_bind (wpS_mono (wpS_forRange (I:=λi c st'=>∃ out x y g,c=(none,out,x,y,g)/\ML a b out x y/\x+1<a.size/\y<b.size/\i+1<=x+y/\SG st st') (Q:=λc st'=>∃ r rest,c=(some r,rest)/\r.Perm (a ++ b)/\SG st st') ?step ?fin ⟨_,_,_,_,Eq.refl _,m1,by omega,by omega,by omega,SG.rfl _⟩) ?post)
 case post =>
  rintro c st' ⟨r,rest,rfl,hr,sg⟩;exact wpS_pure (h _ _ hr sg)
 case fin =>
  rintro c st' ⟨out,x,y,g,rfl,m,hx,hy,hi,sg⟩;omega
 case step =>
  rintro i c st' _ _ ⟨out,x,y,g,rfl,m,hx,hy,hi,sg⟩;dsimp only;refine wpS_bind (wpS_mono (wpS_forRange (I:=λj c st''=>∃ out' x' y' k l,c=(none,out',x',y',k,l)/\ML a b out' x' y'/\x'+1<a.size/\y'<b.size/\j+(x+y)<=x'+y'/\SG st st'') (Q:=λc st''=>(∃ r rest,c=(some r,rest)/\r.Perm (a ++ b)/\SG st st'')\/∃ out' x' y' k l,c=(none,out',x',y',k,l)/\ML a b out' x' y'/\x'+1<a.size/\y'<b.size/\x+y<x'+y'/\SG st st'') ?i1 ?f1 ⟨_,_,_,_,_,Eq.refl _,m,hx,hy,by omega,sg⟩) ?p1)
  case f1 =>
   rintro c st'' ⟨out',x',y',k,l,rfl,m',hx',hy',hj,sg'⟩;omega
  case i1 =>
   rintro j c st'' _ hjt ⟨out',x',y',k,l,rfl,m',hx',hy',hj,sg'⟩;dsimp only;have hxx:x'<a.size:=by omega
   refine wpS_bind (qbf (Array.getElem?_eq_getElem hy') (wpS_bind (qbf (Array.getElem?_eq_getElem hxx) ?_)));refine wpS_bind (qhc L (sg'.k.trans hk) (hB _ (Array.getElem_mem hy')) (hA _ (Array.getElem_mem hxx)) λc=>?_);cases c
   ·dsimp only
    rw[if_neg (by decide)];refine wpS_bind (qbf (Array.getElem?_eq_getElem hxx) ?_);have m2:=m'.pa hxx
    by_cases z:(x'+1+1 == a.size)=true
    ·rw[if_pos z];exact wpS_pure (.inl ⟨_,_,Eq.refl _,m2.last,sg'⟩)
    rw[if_neg z];have z':x'+1+1≠a.size:=by simpa using z
    split
    ·exact wpS_pure (.inr ⟨_,_,_,_,_,Eq.refl _,m2,by omega,hy',by omega,sg'⟩)
    ·exact wpS_pure ⟨_,_,_,_,_,Eq.refl _,m2,by omega,hy',by omega,sg'⟩
   ·dsimp only
    rw[if_pos (Eq.refl _)];refine wpS_bind (qbf (Array.getElem?_eq_getElem hy') ?_);have m2:=m'.pb hy'
    by_cases z:(y'+1 == b.size)=true
    ·rw[if_pos z];exact wpS_pure (.inl ⟨_,_,Eq.refl _,m2.done,sg'⟩)
    rw[if_neg z];have z':y'+1≠b.size:=by simpa using z
    split
    ·exact wpS_pure (.inr ⟨_,_,_,_,_,Eq.refl _,m2,hx',by omega,by omega,sg'⟩)
    ·exact wpS_pure ⟨_,_,_,_,_,Eq.refl _,m2,hx',by omega,by omega,sg'⟩
  case p1 =>
   rintro c st2 (⟨r,rest,rfl,hr,sg2⟩|⟨out2,x2,y2,k2,l2,rfl,m2,hx2,hy2,hp2,sg2⟩)
   ·exact wpS_pure ⟨_,_,Eq.refl _,hr,sg2⟩
   dsimp only;refine wpS_bind (wpS_lift (wpAny_rule ⟨Eq.refl _,?_⟩));refine wpS_bind (wpS_mono (wpS_forRange (I:=λj c st''=>∃ out' x' y' g' k l,c=(none,out',x',y',g',k,l)/\ML a b out' x' y'/\x'+1<a.size/\y'<b.size/\j+(x2+y2)<=x'+y'/\SG st st'') (Q:=λc st''=>(∃ r rest,c=(some r,rest)/\r.Perm (a ++ b)/\SG st st'')\/∃ out' x' y' g' k l,c=(none,out',x',y',g',k,l)/\ML a b out' x' y'/\x'+1<a.size/\y'<b.size/\x2+y2<=x'+y'/\SG st st'') ?i2 ?f2 ⟨_,_,_,_,_,_,Eq.refl _,m2,hx2,hy2,by omega,sg2⟩) ?p2)
   case f2 =>
    rintro c st'' ⟨out',x',y',g',k,l,rfl,m',hx',hy',hj,sg'⟩;omega
   case p2 =>
    rintro c st3 (⟨r,rest,rfl,hr,sg3⟩|⟨out3,x3,y3,g3,k3,l3,rfl,m3,hx3,hy3,hp3,sg3⟩)
    ·exact wpS_pure ⟨_,_,Eq.refl _,hr,sg3⟩
    dsimp only;exact wpS_bind (qir λst4 sg4=>wpS_pure ⟨_,_,_,_,Eq.refl _,m3,hx3,hy3,by omega,sg3.trans sg4⟩)
   case i2 =>
    rintro j c st3 _ hjt ⟨out',x',y',g',k0,l0,rfl,m',hx',hy',hj,sg3⟩;dsimp only;refine qA6 (a:=a) (b:=b) (st0:=st) (M:=x'+y') ⟨λr rest st' hr sg=>.inl ⟨_,_,Eq.refl _,hr,sg⟩,λout x y g k l st' m hx hy hM sg=>⟨.inr ⟨_,_,_,_,_,_,Eq.refl _,m,hx,hy,by omega,sg⟩,⟨_,_,_,_,_,_,Eq.refl _,m,hx,hy,by omega,sg⟩⟩⟩ λW=>?_
    by_cases zg:g'>1
    ·rw[if_pos zg]
     refine wpS_bind (qir λst4 sg4'=>?_);have sg4:=sg3.trans sg4';refine wpS_bind (qbf (Array.getElem?_eq_getElem hy') ?_);refine wpS_bind (qdj L (sg4.k.trans hk) (hB _ (Array.getElem_mem hy')) hA (by omega) (by omega) λk hk2=>?_);dsimp only
     by_cases z3:k>0
     ·rw[if_pos z3]
      have m3:=m'.ea hk2
      by_cases z4:(x'+k+1 == a.size)=true
      ·rw[if_pos z4];exact wpS_pure (W.fin _ _ _ m3.last sg4)
      rw[if_neg z4]
      by_cases z5:(x'+k == a.size)=true
      ·rw[if_pos z5];exact wpS_pure (W.fin _ _ _ m3.done sg4)
      rw[if_neg z5];have z6:x'+k+1≠a.size:=by simpa using z4
      have z7:x'+k≠a.size:=by simpa using z5
      exact qn4 (g:=g'-1) (k:=k) (l0:=l0) L hk hA hB W sg4 m3 (by have:=m3.ia;omega) hy' (by omega)
     ·rw[if_neg z3]
      exact qn4 (g:=g'-1) (k:=k) (l0:=l0) L hk hA hB W sg4 m' hx' hy' (by omega)
    ·rw[if_neg zg]
     refine wpS_bind (qir λst4 sg4'=>?_);have sg4:=sg3.trans sg4';refine wpS_bind (qbf (Array.getElem?_eq_getElem hy') ?_);refine wpS_bind (qdj L (sg4.k.trans hk) (hB _ (Array.getElem_mem hy')) hA (by omega) (by omega) λk hk2=>?_);dsimp only
     by_cases z3:k>0
     ·rw[if_pos z3]
      have m3:=m'.ea hk2
      by_cases z4:(x'+k+1 == a.size)=true
      ·rw[if_pos z4];exact wpS_pure (W.fin _ _ _ m3.last sg4)
      rw[if_neg z4]
      by_cases z5:(x'+k == a.size)=true
      ·rw[if_pos z5];exact wpS_pure (W.fin _ _ _ m3.done sg4)
      rw[if_neg z5];have z6:x'+k+1≠a.size:=by simpa using z4
      have z7:x'+k≠a.size:=by simpa using z5
      exact qn4 (g:=g') (k:=k) (l0:=l0) L hk hA hB W sg4 m3 (by have:=m3.ia;omega) hy' (by omega)
     ·rw[if_neg z3]
      exact qn4 (g:=g') (k:=k) (l0:=l0) L hk hA hB W sg4 m' hx' hy' (by omega)
end
open PySem PySem.Spec PyProof.Rows PySem.W
section
variable {prog:Program} {w:World} {A:Around} {E:Value->Shared->Prop} {s:Shared} {κ:SortKind} {P:Value->Prop} {a₀:Array Keyed} {pd:Array (Nat×Nat×Nat)} {st:SortSt}
def qeg (a b out:Array Keyed) (na nb:Nat):Array Keyed:=a.extract 0 na ++ b.extract 0 nb ++ out.reverse
def qft (a b out:Array Keyed) (na nb:Nat):Array Keyed:=b.extract 0 nb ++ a.extract 0 na ++ out.reverse
theorem qA7 (a b:Array Keyed):mHi a b=(do
 rule "list.sort.merge-hi"
 let total:=a.size+b.size
 let mut na:=a.size-1
 let mut nb:=b.size
 let mut out:Array Keyed:=#[<- elem' a na]
 if na == 0 then return qeg a b out na nb
 if nb == 1 then return qft a b out na nb
 let mut minGallop:=gallopOf (<- get)
 for _ in [0:total] do
  let mut acount:=0
  let mut bcount:=0
  for _ in [0:total] do
   let some aWins <- lt' (<- elem' b (nb-1)) (<- elem' a (na-1))|return qeg a b out na nb
   if aWins then
    na:=na-1;out:=out.push (<- elem' a na);acount:=acount+1;bcount:=0
    if na == 0 then return qeg a b out na nb
    if acount ≥ minGallop then break
   else
    nb:=nb-1;out:=out.push (<- elem' b nb);bcount:=bcount+1;acount:=0
    if nb == 1 then return qft a b out na nb
    if bcount ≥ minGallop then break
  rule "list.sort.gallop"
  minGallop:=minGallop+1
  for _ in [0:total] do
   if minGallop>1 then minGallop:=minGallop-1
   setG minGallop
   let some at_ <- qtt false (<- elem' b (nb-1)) a 0 na (na-1)|return qeg a b out na nb
   let k:=na-at_
   acount:=k
   if k>0 then
    out:=out ++ (a.extract at_ na).reverse;na:=at_
    if na == 0 then return qeg a b out na nb
   nb:=nb-1;out:=out.push (<- elem' b nb)
   if nb == 1 then return qft a b out na nb
   let some at_ <- qtt true (<- elem' a (na-1)) b 0 nb (nb-1)|return qeg a b out na nb
   let k:=nb-at_
   bcount:=k
   if k>0 then
    out:=out ++ (b.extract at_ nb).reverse;nb:=at_
    if nb == 1 then return qft a b out na nb
    if nb == 0 then return qeg a b out na nb
   na:=na-1;out:=out.push (<- elem' a na)
   if na == 0 then return qeg a b out na nb
   if acount<7 && bcount<7 then break
  minGallop:=minGallop+1
  setG minGallop
 unsupported "internal:list.sort.merge-bound"):=Eq.refl _
structure MH (a b out:Array Keyed) (x y:Nat):Prop where
 ia:x<=a.size
 ib:y<=b.size
 pm:(a.toList.take x ++ (b.toList.take y ++ out.toList.reverse)).Perm (a.toList ++ b.toList)
section
variable {a b out:Array Keyed} {x y:Nat}
theorem quy (a:Array Keyed) (x:Nat):(a.extract 0 x).toList=a.toList.take x:=by
 rw[Array.toList_extract]
 simp[List.extract]
theorem qA8 (a:Array Keyed) {x k:Nat} (h:k<=x):a.toList.take x=a.toList.take k ++ (a.extract k x).toList:=by
 rw[Array.toList_extract];simp only[List.extract];have e:x=k+(x-k):=by omega
 rw[show a.toList.take x=a.toList.take (k+(x-k)) by rw[<- e],List.take_add]
theorem MH.done (h:MH a b out x y):(qeg a b out x y).Perm (a ++ b):=by
 rw[Array.perm_iff_toList_perm];unfold qeg;rw[Array.toList_append,Array.toList_append,Array.toList_append,quy,quy,List.append_assoc,Array.toList_reverse];exact h.pm
theorem MH.first (h:MH a b out x y):(qft a b out x y).Perm (a ++ b):=by
 rw[Array.perm_iff_toList_perm];unfold qft;rw[Array.toList_append,Array.toList_append,Array.toList_append,quy,quy,Array.toList_reverse];refine (List.perm_append_comm.append_right _).trans ?_;rw[List.append_assoc];exact h.pm
theorem MH.ea {k:Nat} (h:MH a b out x y) (hk:k<=x):MH a b (out ++ (a.extract k x).reverse) k y:=by
 refine ⟨Nat.le_trans hk h.ia,h.ib,?_⟩;have:=h.pm;rw[qA8 a hk,List.append_assoc] at this;rw[Array.toList_append,Array.toList_reverse,List.reverse_append,List.reverse_reverse];refine List.Perm.trans (List.Perm.append_left _ ?_) this;rw[<- List.append_assoc,<- List.append_assoc];exact List.perm_append_comm.append_right _
theorem MH.eb {k:Nat} (h:MH a b out x y) (hk:k<=y):MH a b (out ++ (b.extract k y).reverse) x k:=by
 refine ⟨h.ia,Nat.le_trans hk h.ib,?_⟩;have:=h.pm;rw[qA8 b hk,List.append_assoc] at this;rw[Array.toList_append,Array.toList_reverse,List.reverse_append,List.reverse_reverse];exact this
theorem qA9 (a:Array Keyed) {x:Nat} (h:x<a.size):a.extract x (x+1) = #[a[x]]:=by
 apply Array.ext'
 rw[Array.toList_extract]
 simp[List.extract,List.drop_eq_getElem_cons (show x<a.toList.length by simpa using h)]
theorem MH.pa (h:MH a b out (x+1) y) (hx:x<a.size):MH a b (out.push a[x]) x y:=by
 have:=h.ea (Nat.le_succ x);rw[qA9 a hx] at this
 simpa using this
theorem MH.pb (h:MH a b out x (y+1)) (hy:y<b.size):MH a b (out.push b[y]) x y:=by
 have:=h.eb (Nat.le_succ y);rw[qA9 b hy] at this
 simpa using this
theorem MH.pa1 (h:MH a b out x y) (hx:0<x) (hx':x-1<a.size):MH a b (out.push a[x-1]) (x-1) y:=by
 obtain ⟨z,rfl⟩:∃ z,x=z+1:=⟨x-1,by omega⟩;exact h.pa hx'
theorem MH.pb1 (h:MH a b out x y) (hy:0<y) (hy':y-1<b.size):MH a b (out.push b[y-1]) x (y-1):=by
 obtain ⟨z,rfl⟩:∃ z,y=z+1:=⟨y-1,by omega⟩;exact h.pb hy'
end
abbrev L7H:=Option (Array Keyed)×Nat×Nat×Array Keyed×Nat×Nat×Nat
section
variable {a b out:Array Keyed} {x y g k:Nat} {M:Nat} {R:ForInStep L7H->SortSt->Prop}
structure MWH (a b:Array Keyed) (st:SortSt) (M:Nat) (R:ForInStep L7H->SortSt->Prop):Prop where
 fin:∀ r rest st',r.Perm (a ++ b)->SG st st'->R (.done (some r,rest)) st'
 on:∀ out x y g k l st',MH a b out x y->0<x->1<y->x+y<M->SG st st'->R (.done (none,x,y,out,g,k,l)) st'/\R (.yield (none,x,y,out,g,k,l)) st'
theorem qyo {st0:SortSt} {m:StateT SortSt Sem (ForInStep L7H)} (W:MWH a b st0 M R) (h:MWH a b st0 M R->wpS (model prog w) A E s m R st):wpS (model prog w) A E s m R st:=h W
theorem qwd {l:Nat} {st0:SortSt} (W:MWH a b st0 M R) (sg:SG st0 st) (m:MH a b out x y) (hx:0<x) (hy:1<y) (hM:x+y<=M):wpS (model prog w) A E s (do
      let f <- elem' a (x-1)
      if (x-1 == 0)=true then pure (ForInStep.done (some (qeg a b ((out).push f) (x-1) y),x-1,y,(out).push f,g,k,l))
      else if (decide (k<7) && decide (l<7))=true then pure (ForInStep.done (none,x-1,y,(out).push f,g,k,l))
      else pure (ForInStep.yield (none,x-1,y,(out).push f,g,k,l))) R st:=by
 have hx':x-1<a.size:=by have:=m.ia;omega
 refine wpS_bind (qbf (Array.getElem?_eq_getElem hx') ?_);have m2:=m.pa1 hx hx'
 by_cases z:(x-1 == 0)=true
 ·rw[if_pos z];exact wpS_pure (W.fin _ _ _ m2.done sg)
 rw[if_neg z];have z':x-1≠0:=by simpa using z
 have o:=W.on _ _ _ g k l _ m2 (by omega) hy (by omega) sg
 split
 ·exact wpS_pure o.1
 ·exact wpS_pure o.2
theorem qn5 {l0:Nat} {st0:SortSt} (L:Lts prog w A s κ P) (hk:kindOf st0=κ) (hA:∀ p∈a,P p.1) (hB:∀ p∈b,P p.1) (W:MWH a b st0 M R) (sg:SG st0 st) (m:MH a b out x y) (hx:0<x) (hy:1<y) (hM:x+y<=M):wpS (model prog w) A E s (do
  let d <- elem' b (y-1)
  if (y-1 == 1)=true then pure (ForInStep.done (some (qft a b (out.push d) x (y-1)),x,y-1,out.push d,g,k,l0))
  else do
   let e <- elem' a (x-1)
   let r <- qtt true e b 0 (y-1) (y-1-1)
   match r with
   | some t =>
    if y-1-t>0 then
     if (t == 1)=true then pure (ForInStep.done (some (qft a b (out.push d ++ (b.extract t (y-1)).reverse) x t),x,t,out.push d ++ (b.extract t (y-1)).reverse,g,k,y-1-t))
     else if (t == 0)=true then pure (ForInStep.done (some (qeg a b (out.push d ++ (b.extract t (y-1)).reverse) x t),x,t,out.push d ++ (b.extract t (y-1)).reverse,g,k,y-1-t))
     else do
      let f <- elem' a (x-1)
      if (x-1 == 0)=true then pure (ForInStep.done (some (qeg a b ((out.push d ++ (b.extract t (y-1)).reverse).push f) (x-1) t),x-1,t,(out.push d ++ (b.extract t (y-1)).reverse).push f,g,k,(y-1-t)))
      else if (decide (k<7) && decide ((y-1-t)<7))=true then pure (ForInStep.done (none,x-1,t,(out.push d ++ (b.extract t (y-1)).reverse).push f,g,k,(y-1-t)))
      else pure (ForInStep.yield (none,x-1,t,(out.push d ++ (b.extract t (y-1)).reverse).push f,g,k,(y-1-t)))
    else do
      let f <- elem' a (x-1)
      if (x-1 == 0)=true then pure (ForInStep.done (some (qeg a b ((out.push d).push f) (x-1) (y-1)),x-1,(y-1),(out.push d).push f,g,k,(y-1-t)))
      else if (decide (k<7) && decide ((y-1-t)<7))=true then pure (ForInStep.done (none,x-1,(y-1),(out.push d).push f,g,k,(y-1-t)))
      else pure (ForInStep.yield (none,x-1,(y-1),(out.push d).push f,g,k,(y-1-t)))
   | _=>pure (ForInStep.done (some (qeg a b (out.push d) x (y-1)),x,y-1,out.push d,g,k,l0))) R st:=by
 have hy':y-1<b.size:=by have:=m.ib;omega
 refine wpS_bind (qbf (Array.getElem?_eq_getElem hy') ?_);have m2:=m.pb1 (by omega) hy'
 by_cases z:(y-1 == 1)=true
 ·rw[if_pos z];exact wpS_pure (W.fin _ _ _ m2.first sg)
 rw[if_neg z];have z':y-1≠1:=by simpa using z
 have hx':x-1<a.size:=by have:=m.ia;omega
 refine wpS_bind (qbf (Array.getElem?_eq_getElem hx') ?_);refine wpS_bind (qdj L (sg.k.trans hk) (hA _ (Array.getElem_mem hx')) hB (by have:=m.ib;omega) (by omega) λt ht=>?_);dsimp only
 by_cases z3:y-1-t>0
 ·rw[if_pos z3]
  have m3:=m2.eb ht
  by_cases z4:(t == 1)=true
  ·rw[if_pos z4];exact wpS_pure (W.fin _ _ _ m3.first sg)
  rw[if_neg z4]
  by_cases z5:(t == 0)=true
  ·rw[if_pos z5];exact wpS_pure (W.fin _ _ _ m3.done sg)
  rw[if_neg z5];have z6:t≠1:=by simpa using z4
  have z7:t≠0:=by simpa using z5
  exact qwd W sg m3 hx (by omega) (by omega)
 ·rw[if_neg z3]
  exact qwd W sg m2 hx (by omega) (by omega)
end
theorem qyp {a b:Array Keyed} {Q:Array Keyed->SortSt->Prop} (L:Lts prog w A s κ P) (hk:kindOf st=κ) (hA:∀ p∈a,P p.1) (hB:∀ p∈b,P p.1) (a1:1<=a.size) (b1:1<=b.size) (h:∀ out st',out.Perm (a ++ b)->SG st st'->Q out st'):wpS (model prog w) A E s (mHi a b) Q st:=by
 rw[qA7];dsimp only;have ha:a.size-1<a.size:=by omega
 refine wpS_bind (wpS_lift (wpAny_rule ⟨Eq.refl _,?_⟩));refine wpS_bind (qbf (Array.getElem?_eq_getElem ha) ?_);have m0:MH a b #[] a.size b.size:=⟨Nat.le_refl _,Nat.le_refl _,by simp[List.take_of_length_le]⟩;have m1:MH a b #[a[a.size-1]] (a.size-1) b.size:=m0.pa1 a1 ha
 by_cases z1:(a.size-1 == 0)=true
 ·rw[if_pos z1];exact wpS_pure (h _ _ m1.done (SG.rfl _))
 rw[if_neg z1]
 by_cases z2:(b.size == 1)=true
 ·rw[if_pos z2];exact wpS_pure (h _ _ m1.first (SG.rfl _))
 rw[if_neg z2];refine wpS_bind (wpS_get ?_);have z1':a.size-1≠0:=by simpa using z1
 have z2':b.size≠1:=by simpa using z2
 refine wpS_bind (wpS_mono (wpS_forRange (I:=λi c st'=>∃ out x y g,c=(none,x,y,out,g)/\MH a b out x y/\0<x/\1<y/\i+x+y<a.size+b.size/\SG st st') (Q:=λc st'=>∃ r rest,c=(some r,rest)/\r.Perm (a ++ b)/\SG st st') ?step ?fin ⟨_,_,_,_,Eq.refl _,m1,by omega,by omega,by omega,SG.rfl _⟩) ?post)
 case post =>
  rintro c st' ⟨r,rest,rfl,hr,sg⟩;exact wpS_pure (h _ _ hr sg)
 case fin =>
  rintro c st' ⟨out,x,y,g,rfl,m,hx,hy,hi,sg⟩;omega
 case step =>
  rintro i c st' _ _ ⟨out,x,y,g,rfl,m,hx,hy,hi,sg⟩;dsimp only;refine wpS_bind (wpS_mono (wpS_forRange (I:=λj c st''=>∃ out' x' y' k l,c=(none,x',y',out',k,l)/\MH a b out' x' y'/\0<x'/\1<y'/\j+x'+y'<=x+y/\SG st st'') (Q:=λc st''=>(∃ r rest,c=(some r,rest)/\r.Perm (a ++ b)/\SG st st'')\/∃ out' x' y' k l,c=(none,x',y',out',k,l)/\MH a b out' x' y'/\0<x'/\1<y'/\x'+y'<x+y/\SG st st'') ?i1 ?f1 ⟨_,_,_,_,_,Eq.refl _,m,hx,hy,by omega,sg⟩) ?p1)
  case f1 =>
   rintro c st'' ⟨out',x',y',k,l,rfl,m',hx',hy',hj,sg'⟩;have:=m.ia;have:=m.ib;omega
  case i1 =>
   rintro j c st'' _ hjt ⟨out',x',y',k,l,rfl,m',hx',hy',hj,sg'⟩;dsimp only;have hxx:x'-1<a.size:=by have:=m'.ia;omega
   have hyy:y'-1<b.size:=by have:=m'.ib;omega
   refine wpS_bind (qbf (Array.getElem?_eq_getElem hyy) (wpS_bind (qbf (Array.getElem?_eq_getElem hxx) ?_)));refine wpS_bind (qhc L (sg'.k.trans hk) (hB _ (Array.getElem_mem hyy)) (hA _ (Array.getElem_mem hxx)) λc=>?_);cases c
   ·dsimp only
    rw[if_neg (by decide)];refine wpS_bind (qbf (Array.getElem?_eq_getElem hyy) ?_);have m2:=m'.pb1 (by omega) hyy
    by_cases z:(y'-1 == 1)=true
    ·rw[if_pos z];exact wpS_pure (.inl ⟨_,_,Eq.refl _,m2.first,sg'⟩)
    rw[if_neg z];have z':y'-1≠1:=by simpa using z
    split
    ·exact wpS_pure (.inr ⟨_,_,_,_,_,Eq.refl _,m2,hx',by omega,by omega,sg'⟩)
    ·exact wpS_pure ⟨_,_,_,_,_,Eq.refl _,m2,hx',by omega,by omega,sg'⟩
   ·dsimp only
    rw[if_pos (Eq.refl _)];refine wpS_bind (qbf (Array.getElem?_eq_getElem hxx) ?_);have m2:=m'.pa1 hx' hxx
    by_cases z:(x'-1 == 0)=true
    ·rw[if_pos z];exact wpS_pure (.inl ⟨_,_,Eq.refl _,m2.done,sg'⟩)
    rw[if_neg z];have z':x'-1≠0:=by simpa using z
    split
    ·exact wpS_pure (.inr ⟨_,_,_,_,_,Eq.refl _,m2,by omega,hy',by omega,sg'⟩)
    ·exact wpS_pure ⟨_,_,_,_,_,Eq.refl _,m2,by omega,hy',by omega,sg'⟩
  case p1 =>
   rintro c st2 (⟨r,rest,rfl,hr,sg2⟩|⟨out2,x2,y2,k2,l2,rfl,m2,hx2,hy2,hp2,sg2⟩)
   ·exact wpS_pure ⟨_,_,Eq.refl _,hr,sg2⟩
   dsimp only;refine wpS_bind (wpS_lift (wpAny_rule ⟨Eq.refl _,?_⟩));refine wpS_bind (wpS_mono (wpS_forRange (I:=λj c st''=>∃ out' x' y' g' k l,c=(none,x',y',out',g',k,l)/\MH a b out' x' y'/\0<x'/\1<y'/\j+x'+y'<=x2+y2/\SG st st'') (Q:=λc st''=>(∃ r rest,c=(some r,rest)/\r.Perm (a ++ b)/\SG st st'')\/∃ out' x' y' g' k l,c=(none,x',y',out',g',k,l)/\MH a b out' x' y'/\0<x'/\1<y'/\x'+y'<=x2+y2/\SG st st'') ?i2 ?f2 ⟨_,_,_,_,_,_,Eq.refl _,m2,hx2,hy2,by omega,sg2⟩) ?p2)
   case f2 =>
    rintro c st'' ⟨out',x',y',g',k,l,rfl,m',hx',hy',hj,sg'⟩;have:=m2.ia;have:=m2.ib;omega
   case p2 =>
    rintro c st3 (⟨r,rest,rfl,hr,sg3⟩|⟨out3,x3,y3,g3,k3,l3,rfl,m3,hx3,hy3,hp3,sg3⟩)
    ·exact wpS_pure ⟨_,_,Eq.refl _,hr,sg3⟩
    dsimp only;exact wpS_bind (qir λst4 sg4=>wpS_pure ⟨_,_,_,_,Eq.refl _,m3,hx3,hy3,by omega,sg3.trans sg4⟩)
   case i2 =>
    rintro j c st3 _ hjt ⟨out',x',y',g',k0,l0,rfl,m',hx',hy',hj,sg3⟩;dsimp only;refine qyo (a:=a) (b:=b) (st0:=st) (M:=x'+y') ⟨λr rest st' hr sg=>.inl ⟨_,_,Eq.refl _,hr,sg⟩,λout x y g k l st' m hx hy hM sg=>⟨.inr ⟨_,_,_,_,_,_,Eq.refl _,m,hx,hy,by omega,sg⟩,⟨_,_,_,_,_,_,Eq.refl _,m,hx,hy,by omega,sg⟩⟩⟩ λW=>?_
    have hyy:y'-1<b.size:=by have:=m'.ib;omega
    by_cases zg:g'>1
    ·rw[if_pos zg]
     refine wpS_bind (qir λst4 sg4'=>?_);have sg4:=sg3.trans sg4';refine wpS_bind (qbf (Array.getElem?_eq_getElem hyy) ?_);refine wpS_bind (qdj L (sg4.k.trans hk) (hB _ (Array.getElem_mem hyy)) hA (by have:=m'.ia;omega) (by omega) λt ht=>?_);dsimp only
     by_cases z3:x'-t>0
     ·rw[if_pos z3]
      have m3:=m'.ea ht
      by_cases z4:(t == 0)=true
      ·rw[if_pos z4];exact wpS_pure (W.fin _ _ _ m3.done sg4)
      rw[if_neg z4];have z6:t≠0:=by simpa using z4
      exact qn5 (g:=g'-1) (k:=x'-t) (l0:=l0) L hk hA hB W sg4 m3 (by omega) hy' (by omega)
     ·rw[if_neg z3]
      exact qn5 (g:=g'-1) (k:=x'-t) (l0:=l0) L hk hA hB W sg4 m' hx' hy' (by omega)
    ·rw[if_neg zg]
     refine wpS_bind (qir λst4 sg4'=>?_);have sg4:=sg3.trans sg4';refine wpS_bind (qbf (Array.getElem?_eq_getElem hyy) ?_);refine wpS_bind (qdj L (sg4.k.trans hk) (hB _ (Array.getElem_mem hyy)) hA (by have:=m'.ia;omega) (by omega) λt ht=>?_);dsimp only
     by_cases z3:x'-t>0
     ·rw[if_pos z3]
      have m3:=m'.ea ht
      by_cases z4:(t == 0)=true
      ·rw[if_pos z4];exact wpS_pure (W.fin _ _ _ m3.done sg4)
      rw[if_neg z4];have z6:t≠0:=by simpa using z4
      exact qn5 (g:=g') (k:=x'-t) (l0:=l0) L hk hA hB W sg4 m3 (by omega) hy' (by omega)
     ·rw[if_neg z3]
      exact qn5 (g:=g') (k:=x'-t) (l0:=l0) L hk hA hB W sg4 m' hx' hy' (by omega)
end
open PySem PySem.Spec PyProof.Rows PySem.W
section
variable {prog:Program} {w:World} {A:Around} {E:Value->Shared->Prop} {s:Shared} {κ:SortKind} {P:Value->Prop} {a₀:Array Keyed} {pd:Array (Nat×Nat×Nat)} {st:SortSt}
theorem mergeAt'_eq (i:Nat):mergeAt' i=(do
 let s <- get
 let (some (sa,na,power),some (sb,nb,_)):=((pendingOf s)[i]?,(pendingOf s)[i+1]?)|unsupported "internal:list.sort.pending"
 set (setPending s (((pendingOf s).setIfInBounds i (sa,na+nb,power)).eraseIdxIfInBounds (i+1)))
 let some k <- qtt false (<- elem' (arrOf s) sb) (arrOf s) sa na 0|return false
 let (sa,na):=(sa+k,na-k)
 if na == 0 then return true
 let some nb <- qtt true (<- elem' (arrOf s) (sa+na-1)) (arrOf s) sb nb (nb-1)|return false
 if nb == 0 then return true
 let x:=(arrOf s).extract sa sb
 let y:=(arrOf s).extract sb (sb+nb)
 let merged <- if na<=nb then mLo x y else mHi x y
 modify λs=>setArr s (merged.toList.zipIdx.foldl (λa (p,j)=>a.setIfInBounds (sa+j) p) (arrOf s))
 return (failedOf (<- get)).isNone):=Eq.refl _
theorem qyq {f:SortSt} {Q:PUnit->SortSt->Prop} (h:Q ⟨⟩ f):wpS (model prog w) A E s (set f:StateT SortSt Sem PUnit) Q st:=by
 unfold wpS;rw[StateT.run_set];exact wpAny_pure ⟨Eq.refl _,h⟩
theorem qBa:∀ (xs:List Keyed) (o n:Nat) (arr:Array Keyed),o+n+xs.length<=arr.size->((xs.zipIdx n).foldl (λa (pj:Keyed×Nat)=>a.setIfInBounds (o+pj.2) pj.1) arr).toList=arr.toList.take (o+n) ++ xs ++ arr.toList.drop (o+n+xs.length)
 | [],o,n,arr,h=>by simp
 | x :: xs,o,n,arr,h=>by
  rw[List.zipIdx_cons,List.foldl_cons];rw[List.length_cons] at h;rw[qBa xs o (n+1) _ (by rw[Array.size_setIfInBounds];omega)];have hl:o+n<arr.toList.length:=by rw[Array.length_toList];omega
  rw[Array.toList_setIfInBounds,show o+(n+1)=(o+n)+1 by omega,List.length_cons];rw[List.take_succ_eq_append_getElem (by rw[List.length_set];exact hl),List.take_set_of_le (Nat.le_refl _),List.getElem_set_self,List.drop_set_of_lt (by omega)];rw[show o+n+1+xs.length=o+n+(xs.length+1) by omega]
  simp
theorem qr3 {a:Array Keyed} {i j:Nat} {p:Keyed} (h:p∈a.extract i j):p∈a:=by
 rw[<- Array.mem_toList_iff] at h ⊢;rw[Array.toList_extract] at h;exact List.mem_of_mem_drop (List.mem_of_mem_take h)
theorem qyr {i sa na pw sb nb pw2:Nat} {Q:Bool->SortSt->Prop} (L:Lts prog w A s κ P) (hP:∀ p∈a₀,P p.1) (B:SB κ a₀ pd st) (h1:pd[i]?=some (sa,na,pw)) (h2:pd[i+1]?=some (sb,nb,pw2)) (e:sb=sa+na) (n1:1<=na) (n2:1<=nb) (hn:sb+nb<=a₀.size)
  (h:∀ st',SB κ a₀ ((pd.setIfInBounds i (sa,na+nb,pw)).eraseIdxIfInBounds (i+1)) st'->Q true st'):wpS (model prog w) A E s (mergeAt' i) Q st:=by
 rw[mergeAt'_eq];refine wpS_bind (wpS_get ?_);rw[B.pend,h1,h2];dsimp only;have sz:=B.size;have hA:∀ p∈arrOf st,P p.1:=λp hp=>hP p (B.perm.mem_iff.mp hp)
 have B1:SB κ a₀ ((pd.setIfInBounds i (sa,na+nb,pw)).eraseIdxIfInBounds (i+1)) (setPending st ((pd.setIfInBounds i (sa,na+nb,pw)).eraseIdxIfInBounds (i+1))):=⟨B.kind,B.perm,B.failed,Eq.refl _⟩;refine wpS_bind (qyq ?_);have hb1:sb<(arrOf st).size:=by omega
 refine wpS_bind (qbf (Array.getElem?_eq_getElem hb1) ?_);refine wpS_bind (qdj L B1.kind (hA _ (Array.getElem_mem hb1)) hA (by omega) (by omega) λk hk=>?_);dsimp only
 by_cases z1:(na-k == 0)=true
 ·rw[if_pos z1];exact wpS_pure (h _ B1)
 rw[if_neg z1];have z1':na-k≠0:=by simpa using z1
 have hb2:sa+k+(na-k)-1<(arrOf st).size:=by omega
 refine wpS_bind (qbf (Array.getElem?_eq_getElem hb2) ?_);refine wpS_bind (qdj L B1.kind (hA _ (Array.getElem_mem hb2)) hA (by omega) (by omega) λl hl=>?_);dsimp only
 by_cases z2:(l == 0)=true
 ·rw[if_pos z2];exact wpS_pure (h _ B1)
 rw[if_neg z2];have z2':l≠0:=by simpa using z2
 have fin:∀ (out:Array Keyed) (st':SortSt),out.Perm ((arrOf st).extract (sa+k) sb ++ (arrOf st).extract sb (sb+l))->SG (setPending st ((pd.setIfInBounds i (sa,na+nb,pw)).eraseIdxIfInBounds (i+1))) st'->wpS (model prog w) A E s (do
   modify λs=>setArr s (out.toList.zipIdx.foldl (λa (p,j)=>a.setIfInBounds (sa+k+j) p) (arrOf s))
   return (failedOf (<- get)).isNone) Q st':=λout st' hp sg=>by
  refine wpS_bind (wpS_modify ?_);refine wpS_bind (wpS_get ?_);have ea:arrOf st'=arrOf st:=sg.a;have ol:out.toList.length=(sb-(sa+k))+l:=by
   have:=hp.size_eq;simp only[Array.size_append,Array.size_extract] at this;rw[Array.length_toList];omega
  have Bf:SB κ a₀ ((pd.setIfInBounds i (sa,na+nb,pw)).eraseIdxIfInBounds (i+1)) (setArr st' (out.toList.zipIdx.foldl (λa (pj:Keyed×Nat)=>a.setIfInBounds (sa+k+pj.2) pj.1) (arrOf st'))):=by
   refine ⟨sg.k.trans B.kind,?_,sg.f.trans B.failed,sg.p⟩;refine Array.Perm.trans ?_ B.perm;rw[Array.perm_iff_toList_perm]
   show (List.foldl _ (arrOf st') _).toList.Perm _
   rw[ea,qBa out.toList (sa+k) 0 (arrOf st) (by rw[ol];omega),Nat.add_zero];have hp2:=Array.perm_iff_toList_perm.mp hp;rw[Array.toList_append,Array.toList_extract,Array.toList_extract] at hp2;simp only[List.extract] at hp2;have e1:(arrOf st).toList=(arrOf st).toList.take (sa+k) ++ (((arrOf st).toList.drop (sa+k)).take (sb-(sa+k)) ++ ((arrOf st).toList.drop sb).take (sb+l-sb)) ++ (arrOf st).toList.drop (sa+k+out.toList.length):=by
    have a1:((arrOf st).toList.drop (sa+k)).take (sb-(sa+k)) ++ ((arrOf st).toList.drop sb).take (sb+l-sb)=((arrOf st).toList.drop (sa+k)).take out.toList.length:=by
     rw[ol,List.take_add,List.drop_drop,show sa+k+(sb-(sa+k))=sb by omega,show sb+l-sb=l by omega]
    rw[a1,show (arrOf st).toList.drop (sa+k+out.toList.length)=((arrOf st).toList.drop (sa+k)).drop out.toList.length from List.drop_drop.symm,List.append_assoc,List.take_append_drop,List.take_append_drop]
   conv=>rhs;rw[e1]
   exact (hp2.append_left _).append_right _
  have ef:(failedOf (setArr st' (out.toList.zipIdx.foldl (λa (pj:Keyed×Nat)=>a.setIfInBounds (sa+k+pj.2) pj.1) (arrOf st')))).isNone=true:=by rw[Bf.failed];rfl
  show wpS _ _ _ _ (pure (failedOf (setArr st' (out.toList.zipIdx.foldl (λa (pj:Keyed×Nat)=>a.setIfInBounds (sa+k+pj.2) pj.1) (arrOf st')))).isNone) Q _
  rw[ef];exact wpS_pure (h _ Bf)
 have hx:∀ p∈(arrOf st).extract (sa+k) sb,P p.1:=λp hp=>hA p (qr3 hp)
 have hy:∀ p∈(arrOf st).extract sb (sb+l),P p.1:=λp hp=>hA p (qr3 hp)
 have sx:1<=((arrOf st).extract (sa+k) sb).size:=by rw[Array.size_extract];omega
 have sy:1<=((arrOf st).extract sb (sb+l)).size:=by rw[Array.size_extract];omega
 split
 ·exact wpS_bind (qyn L B1.kind hx hy sx sy fin)
 ·exact wpS_bind (qyp L B1.kind hx hy sx sy fin)
end
open PySem PySem.Spec PyProof.Rows PySem.W
section
variable {prog:Program} {w:World} {A:Around} {E:Value->Shared->Prop} {s:Shared} {κ:SortKind} {P:Value->Prop} {a₀:Array Keyed} {pd:Array (Nat×Nat×Nat)} {st:SortSt}
structure CT (pd:Array (Nat×Nat×Nat)) (lo:Nat):Prop where
 nx:∀ (i sa na pw sb nb pw2:Nat),pd[i]?=some (sa,na,pw)->pd[i+1]?=some (sb,nb,pw2)->sb=sa+na
 ps:∀ (i sa na pw:Nat),pd[i]?=some (sa,na,pw)->1<=na/\sa+na<=lo
 ls:∀ (sa na pw:Nat),pd[pd.size-1]?=some (sa,na,pw)->sa+na=lo
theorem CT.nil:CT #[] 0:=⟨λi _ _ _ _ _ _ h=>by simp at h,λi _ _ _ h=>by simp at h,λ_ _ _ h=>by simp at h⟩
theorem CT.push {lo n:Nat} (c:CT pd lo) (h0:pd.size=0->lo=0) (hn:1<=n):CT (pd.push (lo,n,0)) (lo+n):=by
 have at_:∀ {i:Nat} {e:Nat×Nat×Nat},(pd.push (lo,n,0))[i]?=some e->(i<pd.size/\pd[i]?=some e)\/(i=pd.size/\e=(lo,n,0)):=fun {i e} h=>by
  rw[Array.getElem?_push] at h
  split at h
  ·next z=>exact .inr ⟨z,(Option.some.inj h).symm⟩
  ·exact .inl ⟨(Array.getElem?_eq_some_iff.mp h).1,h⟩
 refine ⟨λi sa na pw sb nb pw2 h1 h2=>?_,λi sa na pw h=>?_,λsa na pw h=>?_⟩
 ·rcases at_ h1 with ⟨i1,e1⟩|⟨i1,e1⟩
  ·rcases at_ h2 with ⟨i2,e2⟩|⟨i2,e2⟩
   ·exact c.nx i _ _ _ _ _ _ e1 e2
   ·cases e2
    exact (c.ls sa na pw (by rw[<- i2];exact e1)).symm
  ·rcases at_ h2 with ⟨i2,e2⟩|⟨i2,e2⟩<;>omega
 ·rcases at_ h with ⟨i1,e1⟩|⟨i1,e1⟩
  ·have:=c.ps i _ _ _ e1;exact ⟨this.1,by omega⟩
  ·cases e1;exact ⟨hn,Nat.le_refl _⟩
 ·rcases at_ h with ⟨i1,e1⟩|⟨i1,e1⟩
  ·rw[Array.size_push] at i1;omega
  ·cases e1;rfl
theorem CT.merge {lo i sa na pw sb nb pw2:Nat} (c:CT pd lo) (h1:pd[i]?=some (sa,na,pw)) (h2:pd[i+1]?=some (sb,nb,pw2)):CT ((pd.setIfInBounds i (sa,na+nb,pw)).eraseIdxIfInBounds (i+1)) lo/\((pd.setIfInBounds i (sa,na+nb,pw)).eraseIdxIfInBounds (i+1)).size+1=pd.size:=by
 have il:i+1<pd.size:=(Array.getElem?_eq_some_iff.mp h2).1;have e12:=c.nx i _ _ _ _ _ _ h1 h2;have p1:=c.ps i _ _ _ h1;have p2:=c.ps _ _ _ _ h2;have sz:((pd.setIfInBounds i (sa,na+nb,pw)).eraseIdxIfInBounds (i+1)).size+1=pd.size:=by
  rw[Array.eraseIdxIfInBounds_eq,dif_pos (by rw[Array.size_setIfInBounds];exact il),Array.size_eraseIdx,Array.size_setIfInBounds];omega
 have at_:∀ (j:Nat),((pd.setIfInBounds i (sa,na+nb,pw)).eraseIdxIfInBounds (i+1))[j]?=if j<i then pd[j]? else if j=i then some (sa,na+nb,pw) else pd[j+1]?:=λj=>by
  rw[Array.eraseIdxIfInBounds_eq,dif_pos (by rw[Array.size_setIfInBounds];exact il)];rw[Array.getElem?_eraseIdx]
  split
  ·rw[Array.getElem?_setIfInBounds]
   split
   ·next z=>subst z;rw[if_pos (by omega),if_neg (by omega),if_pos rfl]
   ·by_cases y:j<i
    ·rw[if_pos y]
    ·omega
  ·rw[Array.getElem?_setIfInBounds]
   rw[if_neg (by omega),if_neg (by omega),if_neg (by omega)]
 refine ⟨⟨λj sa' na' pw' sb' nb' pw2' h3 h4=>?_,λj sa' na' pw' h=>?_,λsa' na' pw' h=>?_⟩,sz⟩
 ·rw[at_] at h3 h4
  by_cases y:j+1<i
  ·rw[if_pos (by omega)] at h3;rw[if_pos y] at h4;exact c.nx j _ _ _ _ _ _ h3 h4
  ·by_cases y2:j+1=i
   ·rw[if_pos (by omega)] at h3
    rw[if_neg y,if_pos y2] at h4;cases h4;exact c.nx j _ _ _ _ _ _ h3 (by rw[y2];exact h1)
   ·rw[if_neg y,if_neg y2] at h4
    rw[if_neg (by omega)] at h3
    by_cases y3:j=i
    ·rw[if_pos y3] at h3
     cases h3;have:=c.nx (i+1) _ _ _ _ _ _ h2 (by rw[<- y3];exact h4);omega
    ·rw[if_neg y3] at h3
     exact c.nx (j+1) _ _ _ _ _ _ h3 h4
 ·rw[at_] at h
  split at h
  ·exact c.ps j _ _ _ h
  ·split at h
   ·cases h;exact ⟨by omega,by omega⟩
   ·exact c.ps (j+1) _ _ _ h
 ·rw[at_] at h
  rw[show ((pd.setIfInBounds i (sa,na+nb,pw)).eraseIdxIfInBounds (i+1)).size-1=pd.size-2 by omega] at h
  split at h
  ·omega
  ·split at h
   ·cases h
    have:=c.ls sb nb pw2 (by rw[show pd.size-1=i+1 by omega];exact h2);omega
   ·exact c.ls _ _ _ (by rw[show pd.size-1=pd.size-2+1 by omega];exact h)
theorem CT.pow {lo q:Nat} (c:CT pd lo):CT (pd.modify (pd.size-1) fun (a,b,_)=>(a,b,q)) lo:=by
 have at_:∀ {i sa na pw:Nat},(pd.modify (pd.size-1) fun (a,b,_)=>(a,b,q))[i]?=some (sa,na,pw)->∃ pw',pd[i]?=some (sa,na,pw'):=fun {i sa na pw} h=>by
  rw[Array.getElem?_modify] at h
  split at h
  ·obtain ⟨⟨x,y,z⟩,e,e2⟩:=Option.map_eq_some_iff.mp h
   cases e2;exact ⟨z,e⟩
  ·exact ⟨pw,h⟩
 refine ⟨λi sa na pw sb nb pw2 h1 h2=>?_,λi sa na pw h=>?_,λsa na pw h=>?_⟩
 ·obtain ⟨_,e1⟩:=at_ h1
  obtain ⟨_,e2⟩:=at_ h2;exact c.nx i _ _ _ _ _ _ e1 e2
 ·obtain ⟨_,e1⟩:=at_ h
  exact c.ps i _ _ _ e1
 ·obtain ⟨_,e1⟩:=at_ h
  rw[Array.size_modify] at e1;exact c.ls _ _ _ e1
end
open PySem PySem.Spec PyProof.Rows PySem.W
section
variable {prog:Program} {w:World} {A:Around} {E:Value->Shared->Prop} {s:Shared} {κ:SortKind} {P:Value->Prop} {a₀:Array Keyed} {pd:Array (Nat×Nat×Nat)} {st:SortSt}
def SC (κ:SortKind) (a₀:Array Keyed) (lo:Nat) (st:SortSt):Prop:=∃ pd,SB κ a₀ pd st/\CT pd lo/\(pd.size=0->lo=0)
theorem SC.sb {lo:Nat} (h:SC κ a₀ lo st):∃ pd,SB κ a₀ pd st:=let ⟨pd,b,_⟩:=h;⟨pd,b⟩
theorem qwe {α:Type} {m m':StateT SortSt Sem α} {R:α->SortSt->Prop} (e:m=m') (h:wpS (model prog w) A E s m R st):wpS (model prog w) A E s m' R st:=e ▸ h
theorem qEs (b:Bool) (n:Nat):(if b=true then n-1 else n)<=n:=by split<;>omega
theorem qn6 {i lo:Nat} {Q:Bool->SortSt->Prop} (L:Lts prog w A s κ P) (hP:∀ p∈a₀,P p.1) (h:SC κ a₀ lo st) (hl:lo<=a₀.size) (hi:i+1<(pendingOf st).size) (q:∀ st',SC κ a₀ lo st'->Q true st'):wpS (model prog w) A E s (mergeAt' i) Q st:=by
 obtain ⟨pd,B,c,c0⟩:=h;rw[B.pend] at hi;obtain ⟨⟨sb,nb,pw2⟩,h2⟩:∃ e,pd[i+1]?=some e:=⟨_,Array.getElem?_eq_getElem hi⟩;obtain ⟨⟨sa,na,pw⟩,h1⟩:∃ e,pd[i]?=some e:=⟨_,Array.getElem?_eq_getElem (show i<pd.size by omega)⟩;have p1:=c.ps _ _ _ _ h1;have p2:=c.ps _ _ _ _ h2;have m:=c.merge h1 h2;exact qyr L hP B h1 h2 (c.nx _ _ _ _ _ _ _ h1 h2) p1.1 p2.1 (by omega) λst' B'=>q st' ⟨_,B',m.1,by omega⟩
theorem qys {Q:Unit->SortSt->Prop} (L:Lts prog w A s κ P) (hP:∀ p∈a₀,P p.1) (B:SB κ a₀ #[] st) (h:∀ st',(arrOf st').Perm a₀->failedOf st'=none->Q () st'):wpS (model prog w) A E s sortRuns' Q st:=by
 rw[sortRuns'_eq];refine wpS_bind (wpS_get ?_);dsimp only;have sz:=B.size;have second:∀ (lo:Nat) (st:SortSt),lo<=a₀.size->SC κ a₀ lo st->wpS (model prog w) A E s (do
   for _ in [0:a₀.size] do
    let p:=pendingOf (<- get)
    if p.size<=1 then break
    let i:=p.size-2
    let before:=if i>0 then p[i-1]?.map (·.2.1) else none
    let i:=if before.any (· < (p[i+1]?.elim 0 (·.2.1))) then i-1 else i
    if !(<- mergeAt' i) then return) Q st:=λlo st hlo C=>by
  refine wpS_bind (wpS_mono (wpS_forRange (I:=λx c st'=>c=(none,())/\SC κ a₀ lo st') (Q:=λc st'=>c=(none,())/\SC κ a₀ lo st') ?step (λc st' h=>h) ⟨rfl,C⟩) ?post)
  case post =>
   rintro c st' ⟨rfl,C'⟩;obtain ⟨pd,B'⟩:=C'.sb;exact wpS_pure (h _ B'.perm B'.failed)
  case step =>
   rintro x c st' _ _ ⟨rfl,C'⟩;refine wpS_bind (wpS_get ?_);dsimp only
   by_cases z:(pendingOf st').size<=1
   ·rw[if_pos z];exact wpS_pure ⟨rfl,C'⟩
   rw[if_neg z];refine wpS_bind (qn6 L hP C' hlo ?_ λst3 C3=>?_)
   ·exact Nat.lt_of_le_of_lt (Nat.succ_le_succ (qEs _ _)) (by omega)
   ·exact wpS_pure ⟨rfl,C3⟩
 have tail:∀ (lo n:Nat) (st:SortSt) {R:ForInStep (Option Unit×Nat)->SortSt->Prop},lo+n<=a₀.size->1<=n->SC κ a₀ lo st->(∀ st',SC κ a₀ (lo+n) st'->R (.yield (none,lo+n)) st')->wpS (model prog w) A E s (do
   let g <- get
   match (pendingOf g).back? with
   | some (s1,n1,_)=>do
    let r <- forIn [:a₀.size] ((none,()):Option Unit×Unit) λ_ _=>do
     let g <- get
     match if (pendingOf g).size>1 then (pendingOf g)[(pendingOf g).size-2]? else none with
     | some (_,_,older) =>
      if older<=power' a₀.size (2*s1+n1) (2*s1+n1+n1+n) a₀.size then pure (ForInStep.done (none,()))
      else do
       let b <- mergeAt' ((pendingOf g).size-2)
       if (!b)=true then pure (ForInStep.done (some (),())) else pure (ForInStep.yield (none,()))
     | _=>pure (ForInStep.done (none,()))
    match r.fst with
    | some r=>pure (ForInStep.done (some r,lo))
    | none=>do
     modify λs=>setPending s ((pendingOf s).modify ((pendingOf s).size-1) λx=>(x.1,x.2.1,power' a₀.size (2*s1+n1) (2*s1+n1+n1+n) a₀.size))
     modify λs=>setPending s ((pendingOf s).push (lo,n,0))
     pure (ForInStep.yield (none,lo+n))
   | _=>do
    modify λs=>setPending s ((pendingOf s).push (lo,n,0))
    pure (ForInStep.yield (none,lo+n))) R st:=λlo n st R hn n1 C hR=>by
  refine wpS_bind (wpS_get ?_)
  cases hb:(pendingOf st).back? with
  | none =>
   dsimp only;obtain ⟨pd,B,c,c0⟩:=C;refine wpS_bind (wpS_modify (wpS_pure (hR _ ⟨_,⟨B.kind,B.perm,B.failed,?_⟩,c.push c0 n1,by rw[Array.size_push];omega⟩)))
   show (pendingOf st).push _=_
   rw[B.pend]
  | some e =>
   obtain ⟨s1,m1,q1⟩:=e;dsimp only;refine wpS_bind (wpS_mono (wpS_forRange (I:=λx c st'=>c=(none,())/\SC κ a₀ lo st') (Q:=λc st'=>c=(none,())/\SC κ a₀ lo st') ?step (λc st' h=>h) ⟨rfl,C⟩) ?post)
   case post =>
    rintro c st' ⟨rfl,pd,B,c,c0⟩;dsimp only;refine wpS_bind (wpS_modify (wpS_bind (wpS_modify (wpS_pure (hR _ ⟨(pd.modify (pd.size-1) fun (a,b,_)=>(a,b,power' a₀.size (2*s1+m1) (2*s1+m1+m1+n) a₀.size)).push (lo,n,0),⟨B.kind,B.perm,B.failed,?_⟩,c.pow.push (by rw[Array.size_modify];exact c0) n1,by rw[Array.size_push];omega⟩)))))
    show ((pendingOf st').modify ((pendingOf st').size-1) _).push _=_
    rw[B.pend]
   case step =>
    rintro x c st' _ _ ⟨rfl,C'⟩;refine wpS_bind (wpS_get ?_)
    by_cases z:(pendingOf st').size>1
    ·rw[if_pos z]
     cases hq:(pendingOf st')[(pendingOf st').size-2]? with
     | none=>exact wpS_pure ⟨rfl,C'⟩
     | some e =>
      obtain ⟨u,v,older⟩:=e;dsimp only
      by_cases y:older<=power' a₀.size (2*s1+m1) (2*s1+m1+m1+n) a₀.size
      ·rw[if_pos y];exact wpS_pure ⟨rfl,C'⟩
      rw[if_neg y];exact wpS_bind (qn6 L hP C' (by omega) (by omega) λst3 C3=>wpS_pure ⟨rfl,C3⟩)
    ·rw[if_neg z]
     exact wpS_pure ⟨rfl,C'⟩
 rw[sz];refine wpS_bind (wpS_mono (wpS_forRange (I:=λx c st'=>∃ lo,c=(none,lo)/\lo<=a₀.size/\SC κ a₀ lo st') (Q:=λc st'=>∃ lo,c=(none,lo)/\lo<=a₀.size/\SC κ a₀ lo st') ?step (λc st' h=>h) ⟨0,rfl,Nat.zero_le _,#[],B,CT.nil,λ_=>rfl⟩) ?post)
 case post =>
  rintro c st' ⟨lo,rfl,hlo,C⟩;exact second lo st' hlo C
 case step =>
  rintro x c st' _ _ ⟨lo,rfl,hlo,C⟩;dsimp only
  by_cases z:lo ≥ a₀.size
  ·rw[if_pos z];exact wpS_pure ⟨lo,rfl,hlo,C⟩
  rw[if_neg z];obtain ⟨pd,B',c,c0⟩:=C;refine wpS_bind (qyk L hP (by omega) (by omega) B' λm st2 B2 m1 m2=>?_);dsimp only
  by_cases y:m<minRun' a₀.size a₀.size 0
  ·rw[if_pos y]
   refine wpS_bind (wpS_lift (wpAny_rule ⟨rfl,?_⟩));refine wpS_bind (qyj L hP (by omega) B2 λst3 B3=>?_);refine qwe ?_ (tail lo (min (a₀.size-lo) (minRun' a₀.size a₀.size 0)) st3 (by omega) (by omega) ⟨pd,B3,c,c0⟩ λst' C'=>⟨_,rfl,by omega,C'⟩)
   congr 1;funext g;cases (pendingOf g).back? with
   | none=>rfl
   | some e =>
    obtain ⟨u1,u2,u3⟩:=e;dsimp only;refine congr (congrArg Bind.bind ?_) ?_
    ·refine congrArg (forIn _ _) ?_
     funext x y
     refine congrArg (Bind.bind _) ?_
     funext g
     generalize (if (pendingOf g).size>1 then (pendingOf g)[(pendingOf g).size-2]? else none)=o
     rcases o with _|⟨_,_,_⟩<;>rfl
    ·funext r
     obtain ⟨_|_,_⟩:=r<;>rfl
  ·rw[if_neg y]
   refine qwe ?_ (tail lo m st2 (by omega) m1 ⟨pd,B2,c,c0⟩ λst' C'=>⟨_,rfl,by omega,C'⟩)
   congr 1;funext g;cases (pendingOf g).back? with
   | none=>rfl
   | some e =>
    obtain ⟨u1,u2,u3⟩:=e;dsimp only;refine congr (congrArg Bind.bind ?_) ?_
    ·refine congrArg (forIn _ _) ?_
     funext x y
     refine congrArg (Bind.bind _) ?_
     funext g
     generalize (if (pendingOf g).size>1 then (pendingOf g)[(pendingOf g).size-2]? else none)=o
     rcases o with _|⟨_,_,_⟩<;>rfl
    ·funext r
     obtain ⟨_|_,_⟩:=r<;>rfl
end
open PySem PySem.Spec PyProof.Rows PySem.W
section
variable {prog:Program} {w:World} {A:Around} {E:Value->Shared->Prop} {s:Shared}
theorem qpm {a:Addr} {vs:List Value} {n:Nat} {P:Fin->Shared->Prop} {ks:List (List Int)} (ho:s.heap.get? a=some (seqObj "list" vs.toArray n)) (h2:2<=vs.length) (h64:vs.length<1000) (hl:vs.length=ks.length)
  (hT:∀ (i:Nat) v k,vs[i]?=some v->ks[i]?=some k->qx4 s.heap v k/\k≠[])
  (h:∀ ws:Array Value,ws.toList.Perm vs->P (.done (.ret .none)) { s with heap:=sortedHeap s.heap a vs ws }):wpAny (model prog w) A (Builtin.«list.sort» ⟨[.ref a],[]⟩) P E s:=by
 rw[list_sort_plain];have la:a<s.heap.objs.size:=Heap.lt_size ho;refine wpAny_bind (listItems_at ho rfl ?_);refine wpAny_bind (listUpdate_at ho rfl ?_);obtain ⟨e1,h1⟩:∃ e1,(s.heap.update a (Obj.mapSeq λ_=>#[])).get? a=some (seqObj "list" #[] e1):=⟨_,get?_update_seq ho (λ_=>#[])⟩;refine wpAny_bind (seqEpoch_at h1 rfl ?_);refine wpAny_bind (wpAny_newTuple ?_ (by simp only[List.toList_toArray];rw[sizeLine_eq];omega));refine wpAny_bind (wpAny_newList ?_);refine wpAny_holding ?_;have h6:(((s.heap.update a (Obj.mapSeq λ_=>#[])).push (seqObj "tuple" vs.toArray 0)).push (seqObj "list" #[] 0)).get? a=some (seqObj "list" #[] e1):=by
  rw[Heap.get?_push_ne _ _ _ (by rw[size_push',Heap.size_update];exact Nat.ne_of_lt (Nat.lt_succ_of_lt la)),Heap.get?_push_ne _ _ _ (by rw[Heap.size_update];exact Nat.ne_of_lt la)];exact h1
 show wpAny (model prog w) A _ P E { s with heap:=((s.heap.update a (Obj.mapSeq λ_=>#[])).push (seqObj "tuple" vs.toArray 0)).push (seqObj "list" #[] 0) }
 obtain ⟨s3,es3⟩:∃ s3:Shared,s3={ s with heap:=((s.heap.update a (Obj.mapSeq λ_=>#[])).push (seqObj "tuple" vs.toArray 0)).push (seqObj "list" #[] 0) }:=⟨_,rfl⟩;have hT3:∀ (i:Nat) v k,vs[i]?=some v->ks[i]?=some k->qx4 s3.heap v k/\k≠[]:=λi v k q1 q2=>by
  obtain ⟨⟨b,o,xs,e,rfl,g1,g2,g3,g4⟩,hne⟩:=hT i v k q1 q2;refine ⟨⟨b,o,xs,e,rfl,?_,g2,g3,g4⟩,hne⟩;have hba:b≠a:=λz=>by
   subst z;rw[ho] at g1;cases g1;have g2':(Value.type "list" : Value)=Value.type "tuple" :=g2;injection g2' with e'
   exact absurd e' (by decide)
  rw[es3];exact Heap.get?_push_of_some _ (Heap.get?_push_of_some _ ((Heap.SameBut.update s.heap a _).extBut b o hba g1))
 obtain ⟨fs,f1,f2,f3⟩:=qv7 hl hT3;have z2:¬ vs.toArray.size<2:=by simpa using by omega
 dsimp only;rw[if_neg z2,if_neg z2,<- es3];refine wpAny_bind (kat_kind (T:=.type "int") f1 (by omega) (λv hv=>?_) (by decide) ?_)
 ·obtain ⟨i,t,rfl⟩:=f3 v hv
  exact Looks.of_pure rfl
 have Lt:Lts prog w A s3 (tuples' true) (λv=>v∈vs):=λE x y Q hx hy hq=>by
  obtain ⟨i,hi,rfl⟩:=List.getElem_of_mem hx;obtain ⟨j,hj,rfl⟩:=List.getElem_of_mem hy;exact qAt (hT3 i _ _ (List.getElem?_eq_getElem hi) (List.getElem?_eq_getElem (by omega))).1 (hT3 j _ _ (List.getElem?_eq_getElem hj) (List.getElem?_eq_getElem (by omega))).1 (hq _)
 have hrun:=qys (E:=E) (a₀:=vs.toArray.zip vs.toArray) (st:=SortSt.mk' (tuples' true) (vs.toArray.zip vs.toArray) #[] 7 none) (Q:=λ_ st'=>(arrOf st').Perm (vs.toArray.zip vs.toArray)/\failedOf st'=none) Lt (λp hp=>by
  have:p∈(vs.zip vs):=by simpa using hp
  exact (List.of_mem_zip this).1) ⟨rfl,.refl _,rfl,rfl⟩ λst' a b=>⟨a,b⟩
 show wpAny (model prog w) A (sortRuns'.run (SortSt.mk' (tuples' true) (vs.toArray.zip vs.toArray) #[] 7 none) >>= _) P E s3
 refine wpAny_bind (wpAny_mono hrun (λr s' hq=>?_) λ_ _ z=>z);obtain ⟨rfl,hp,hf⟩:=hq;have h6':s'.heap.get? a=some (seqObj "list" #[] e1):=by rw[es3];exact h6
 have pv:((arrOf r.2).map (·.2)).toList.Perm vs:=by
  have:=(Array.perm_iff_toList_perm.mp hp).map (λx:Keyed=>x.2);rw[Array.toList_map];refine this.trans ?_;have e:(vs.toArray.zip vs.toArray).toList=vs.zip vs:=by simp
  rw[e,List.map_snd_zip (Nat.le_refl _)]
 have hz:((arrOf r.2).map (·.2)).size<=sizeLine:=by have:=pv.length_eq;rw[Array.length_toList] at this;rw[this,sizeLine_eq];omega
 refine wpAny_bind (seqEpoch_at h6' rfl ?_);refine wpAny_bind (listUpdate_at h6' rfl ?_ (hsz2:=Nat.le_succ_of_le hz));rw[hf];simp only[bne_self_eq_false,Bool.false_eq_true,if_false];refine wpAny_pure ?_;have:=h _ pv;rw[es3];exact this
end
open PySem PySem.Spec PyProof.Rows PySem.W
theorem qr4 {α:Type} {d:α} {ws vs:List α} (h:ws.Perm vs):∃ idx:List Nat,idx.Perm (List.range vs.length)/\ws=pick idx vs d:=by
 induction h with
 | nil=>exact ⟨[],.nil,rfl⟩
 | @cons x a b _ ih =>
  obtain ⟨idx,p,e⟩:=ih;refine ⟨0 :: idx.map (· + 1),?_,?_⟩
  ·rw[List.length_cons,List.range_succ_eq_map]
   exact (p.map _).cons 0
  ·rw[e]
   unfold pick
   simp[List.map_map,Function.comp_def]
 | @swap x y a =>
  refine ⟨1 :: 0 :: (List.range a.length).map (· + 2),?_,?_⟩
  ·rw[List.length_cons,List.length_cons,List.range_succ_eq_map,List.range_succ_eq_map]
   simp only[List.map_cons,List.map_map];exact .swap 0 1 _
  ·have:=qff a d
   unfold pick at this ⊢;simp only[List.map_cons,List.map_map,Function.comp_def]
   simpa using this.symm
 | @trans a b c _ _ ih1 ih2 =>
  obtain ⟨i1,p1,e1⟩:=ih1;obtain ⟨i2,p2,e2⟩:=ih2;refine ⟨pick i1 i2 0,(qkw (xs:=i2) (by rw[p2.length_eq,List.length_range] at *;rw[e2] at p1;unfold pick at p1;rw[List.length_map,p2.length_eq,List.length_range] at p1;exact p1)).trans p2,?_⟩;rw[e1,e2];unfold pick;rw[List.map_map];refine List.map_congr_left λi hi=>?_
  have il:i<i2.length:=by
   have:=List.mem_range.mp (p1.mem_iff.mp hi);rw[e2] at this;unfold pick at this;rw[List.length_map] at this;exact this
  simp[List.getD_eq_getElem?_getD,List.getElem?_map,List.getElem?_eq_getElem il]
section
variable {prog:Program} {w:World} {A:Around} {E:Value->Shared->Prop} {s:Shared}
theorem qr5 {a:Addr} {vs:List Value} {n:Nat} {P:Fin->Shared->Prop} {ks:List (List Int)} (ho:s.heap.get? a=some (seqObj "list" vs.toArray n)) (h64:vs.length<1000) (hl:vs.length=ks.length)
  (hT:∀ (i:Nat) v k,vs[i]?=some v->ks[i]?=some k->qx4 s.heap v k/\k≠[])
  (h:∀ idx:List Nat,idx.Perm (List.range ks.length)->P (.done (.ret .none)) { s with heap:=sortedHeap s.heap a vs (pick idx vs .none).toArray }):wpAny (model prog w) A (Builtin.«list.sort» ⟨[.ref a],[]⟩) P E s:=by
 by_cases h2:vs.length<2
 ·refine qpd ho h2 ?_
  have:=h (List.range ks.length) (.refl _);rw[<- hl,qff] at this;rw[qx3];exact this
 ·refine qpm ho (by omega) h64 hl hT λws hp=>?_
  obtain ⟨idx,p,e⟩:=qr4 (d:=Value.none) hp;have:=h idx (by rw[<- hl];exact p);rw[<- e] at this;exact this
end
open PySem PySem.Spec PyProof.Rows PySem.W
def qyt:List V->Hp->VK->Prop:=λxs H Q=>∃ (a:Addr) (kvs:List (List Key×V)) (ks:List (List Int)),xs=[.ref a]/\H a=some (.dT kvs)/\kvs.map (·.1)=ks.map (λk=>k.map Sum.inl)/\ks.length<1000/\(∀ k∈ks,k≠[]) /\
 ∀ ms zs l H',ms.Perm ks->TupsH H zs ms->New H H' l (.lst zs)->Q (.ref l) H'
theorem qe2 {X:Cx} (hc:X.calm=true):CallR X (.builtin "sorted") qyt:=by
 intro pins s σ H xs us Q I r h;obtain ⟨a,kvs,ks,rfl,ha,ek,h64,hne,q⟩:=h;obtain ⟨u,rfl,rx⟩:=vals1 r
 cases (show u=Value.ref a from rx)
 obtain ⟨hz,lo,ys,kt,o,es,ep,e1,e2,e3,e4,_⟩:=qz6 I.hok ha;have hR:RawD s.heap a es ep:=⟨o,e1,e2,e3⟩;have hT:=qrm kt ek;have lk:kvs.length=ks.length:=by have:=congrArg List.length ek;simpa using this
 have ly:ys.length=ks.length:=by have:=hT.len;simpa using this
 have hl:es.size=ys.length:=by rw[<- Array.length_toList,e4,List.length_map]
 refine Calls.call_function_entry kind_sorted plain_sorted entry_sorted (args_sorted1 _) ?_;unfold Builtin.«sorted»;refine wpAny_bind (m:=checkCount "sorted" 1 1 _) (wpAny_pure ?_);refine wpAny_bind (PySem.W.kdu_collect (qv6 lo) (I.ok.hd hc) hR (by rw[sizeLine_eq];omega) λh' tk acc hk hacc=>?_);have hlen:acc.toList.length=ks.length:=by rw[Array.length_toList,hacc.1,hl,ly]
 have hacc':acc.toList=ys.map λy=>Value.ref y.2.1:=by
  apply List.ext_getElem?
  intro i
  by_cases hi:i<ys.length
  ·obtain ⟨v,hv⟩:∃ v,acc.toList[i]?=some v:=⟨_,List.getElem?_eq_getElem (by omega)⟩
   obtain ⟨e,he,hve⟩:=hacc.2 i v (by rw[<- Array.getElem?_toList];exact hv);rw[<- Array.getElem?_toList,e4,List.getElem?_map,List.getElem?_eq_getElem hi] at he;cases he;rw[hv,List.getElem?_map,List.getElem?_eq_getElem hi,hve];rfl
  ·rw[List.getElem?_eq_none (by omega),List.getElem?_eq_none (by simpa using by omega)]
 have I':Inv X pins σ H { s with heap:=h',toks:=tk }:=I.kept hk;have rv:Vals (ys.map λy=>V.ref y.2.1) acc.toList:=by
  rw[hacc'];exact qky ys
 refine wpAny_bind (wpAny_newList ?_ (by rw[hlen,sizeLine_eq];omega));have hS:(h'.push (seqObj "list" acc.toList.toArray 0)).get? h'.objs.size=some (seqObj "list" acc.toList.toArray 0):=Heap.get?_push_size _ rfl;refine wpAny_bind (wpAny_holding (wpAny_call_entry slot_list_sort ⟨_,hS,rfl⟩ entry_list_sort (qr5 (s:={ s with heap:=h'.push (seqObj "list" acc.toList.toArray 0),toks:=tk }) (ks:=ks) hS (by omega) hlen (λi v k q1 q2=>?_) λidx i1=>⟨_,rfl,?_⟩) (args_list_sort _)))
 ·obtain ⟨y,hy⟩:∃ y,ys[i]?=some y:=⟨_,List.getElem?_eq_getElem (by have:=(List.getElem?_eq_some_iff.mp q2).1;omega)⟩
  obtain ⟨b,eb,hb⟩:=hT.get (i:=i) (by rw[List.getElem?_map,hy];rfl) q2;cases eb;have hv:v=Value.ref y.2.1:=by
   rw[hacc',List.getElem?_map,hy] at q1;exact (Option.some.inj q1).symm
  subst hv;obtain ⟨b,o,xs,e,e1,g1,g2⟩:=qx5 I' hb;exact ⟨⟨b,o,xs,e,e1,Heap.get?_push_of_some _ g1,g2⟩,hne k (List.mem_of_getElem? q2)⟩
 ·refine wpAny_pure ⟨_,rfl,?_⟩
  have hi:∀ i∈idx,i<ks.length:=λi h=>List.mem_range.mp (i1.mem_iff.mp h)
  have hil:=i1.length_eq;rw[List.length_range] at hil;obtain ⟨c,hat⟩:∃ c,(sortedHeap (h'.push (seqObj "list" acc.toList.toArray 0)) h'.objs.size acc.toList (pick idx acc.toList .none).toArray).get? h'.objs.size=some (seqObj "list" (pick idx acc.toList .none).toArray c):=sortedHeap_at hS;have kp:∀ b ob,h'.get? b=some ob->(sortedHeap (h'.push (seqObj "list" acc.toList.toArray 0)) h'.objs.size acc.toList (pick idx acc.toList .none).toArray).get? b=some ob:=λb ob hb=>by
   have lb:=Heap.lt_size hb;rw[sortedHeap_old (Nat.ne_of_lt lb) (by rw[size_push'];exact Nat.lt_succ_of_lt lb)];exact Heap.get?_push_of_some _ hb
  have vp:Vals (pick idx (ys.map λy=>V.ref y.2.1) .non) (pick idx acc.toList .none):=qkx rv (λi h=>by have:=hi i h;simp;omega);refine ⟨.ref h'.objs.size,_,I'.laid (t':=tk) (o:=.lst (pick idx (ys.map λy=>V.ref y.2.1) .non)) kp (Nat.le_refl _) ⟨?_,pick idx acc.toList .none,c,vp,hat⟩,rfl,q (pick idx ks []) _ _ _ (qkw i1) (hT.pick hi) (qa0 (I'.hok.fresh (Nat.le_refl _)))⟩
  show (pick idx _ V.non).length<=_
  unfold pick;rw[List.length_map,sizeLine_eq];omega
open PySem PySem.Spec PyProof.Rows
def qBb (K:Frag):List V->Hp->VK->Prop:=λxs H Q=>∃ p ys,xs=[V.ref p]/\(SqL K H p ys\/SqT K H p ys)/\Q (V.int ys.length) H
section
variable {X:Cx}
theorem qwf {k:Nat} {C:Addr} {ps:List Str} {ds:List Value} {dvs:List V} {sp:Sp} {m:Str} {pos apos:Pos} {e o:Expr} {es:List Expr} {ta:TE} {t:TA} {pl:Sem Bool} (he:PE X o ta) (c:Cls X.K C) (D:qts X.prog X.w X.K X.mg X.base C k m ps ds sp) (hr:Room k X.A) (hd:Vals dvs ds) (ha:PA X (e :: es) t)
  (hst:starEach (e :: es) X.env=(false,eval e X.env) :: starEach es X.env:=by rfl) (hpl:(backTo pos (starEach es X.env)).any (·.1)=false:=by rfl)
  (ht:eval (.Call (.Attribute o m apos) (e :: es) [] pos) X.env=(do
   let ov <- eval o X.env
   standAt apos.atName
   let (f,first) <- holding [ov] (getMethod ov m pl)
   callWith pos f first (backTo pos (starEach (e :: es) X.env)) (backToKw pos (keywordEach [] X.env))):=by rfl) :
  PE X (.Call (.Attribute o m apos) (e :: es) [] pos) (qqw C m sp dvs E0 ta t):=by
 obtain ⟨f,fd,F,hm,hb⟩:=D;exact qqy (pl:=pl) he c hm F hr hb hd qDd ha hst hpl ht
end
end L2
namespace TB
structure Good (ps:List (Int×Int)):Prop where
 lo:1<=ps.length
 hi:ps.length<=5
 each:∀ (i:Nat) p,ps[i]?=some p->0<=p.1/\1<=p.2
 next:∀ (i:Nat) p q,ps[i]?=some p->ps[i+1]?=some q->p.1<=q.1/\q.2 % p.2=0
def qn7 (g:Option Int) (last:Int):Prop:=∀ z,g=some z->last<=z
end TB
namespace TB
def cut (d a w:Int):Int:=(d-a) / w*w
def Bd (x:Int):Prop:=-(10 ^ 45)<x/\x<10 ^ 45
def qBc (ps:List (Int×Int)):Prop:=∀ (i:Nat) p,ps[i]?=some p->0<=p.1/\p.1<10 ^ 45/\1<=p.2/\p.2<10 ^ 45
theorem qDf {x w B:Int} (hw:1<=w) (hB:0<=B) (h1:-B<=x) (h2:x<B):-B<=x / w/\x / w<B:=by
 have hBw:B*1<=B*w:=Int.mul_le_mul_of_nonneg_left hw hB
 constructor
 ·refine Int.le_ediv_of_mul_le (by omega) ?_
  have:-B*w = -(B*w):=Int.neg_mul _ _;omega
 ·exact Int.ediv_lt_of_lt_mul (by omega) (by omega)
theorem qr6 {d a w:Int} (hw:1<=w):cut d a w<=d-a:=by
 have h:=Int.emod_add_mul_ediv (d-a) w;have h1:=Int.emod_nonneg (d-a) (show w≠0 by omega);unfold cut;rw[Int.mul_comm] at h;omega
theorem qwg {d a w:Int} (hw:1<=w):d-a<cut d a w+w:=by
 have h:=Int.emod_add_mul_ediv (d-a) w;have h1:=Int.emod_lt_of_pos (d-a) (show 0<w by omega);unfold cut;rw[Int.mul_comm] at h;omega
theorem qyu {d a w:Int}:cut d a w % w=0:=Int.mul_emod_left _ _
theorem qBd {d a w z:Int} (hw:1<=w) (hz:z % w=0) (h:z<=d-a):z<=cut d a w:=by
 have e:z=z / w*w:=by
  have:=Int.emod_add_mul_ediv z w;rw[hz,Int.mul_comm] at this;omega
 have:z / w<=(d-a) / w:=Int.ediv_le_ediv (by omega) h;rw[e];exact Int.mul_le_mul_of_nonneg_right this (by omega)
theorem qr7 {z w w':Int} (h:w' % w=0) (hz:z % w'=0):z % w=0:=by
 have d1:w ∣ w':=Int.dvd_of_emod_eq_zero h;have d2:w' ∣ z:=Int.dvd_of_emod_eq_zero hz;exact Int.emod_eq_zero_of_dvd (Int.dvd_trans d1 d2)
theorem quz {d a w a' w':Int} (hw:1<=w) (hw':1<=w') (ha:a<=a') (hd:w' % w=0):cut d a' w'<=cut d a w:=by
 refine qBd hw (qr7 hd qyu) ?_;have:=qr6 (d:=d) (a:=a') hw';omega
theorem qwh {d a w:Int} (hd:Bd d) (ha:0<=a) (ha':a<10 ^ 45) (hw:1<=w) (hw':w<10 ^ 45):-(4*10 ^ 45)<cut d a w/\cut d a w<4*10 ^ 45:=by
 have h1:=qr6 (d:=d) (a:=a) hw;have h2:=qwg (d:=d) (a:=a) hw;unfold Bd at hd;omega
def rowsOf (ps:List (Int×Int)) (g:Option Int):List (Int×Int):=
 ps ++ (match g with
  | none=>[]
  | some z=>[(z,(ps.getLast?.getD (0,1)).2)])
theorem qjt {ps:List (Int×Int)} {p:Int×Int} (h:ps[ps.length-1]?=some p):ps.getLast?.getD (0,1)=p:=by
 rw[List.getLast?_eq_getElem?,h];rfl
theorem qhd {ps:List (Int×Int)} {g:Option Int} (G:Good ps) (hg:∀ p,ps[ps.length-1]?=some p->qn7 g p.1) :
  (∀ (i:Nat) p,(rowsOf ps g)[i]?=some p->0<=p.1/\1<=p.2)/\∀ (i:Nat) p q,(rowsOf ps g)[i]?=some p->(rowsOf ps g)[i+1]?=some q->p.1<=q.1/\q.2 % p.2=0:=by
 have hl:=G.lo;obtain ⟨p0,hp0⟩:∃ p,ps[ps.length-1]?=some p:=⟨ps[ps.length-1]'(by omega),List.getElem?_eq_getElem _⟩;have e0:=qjt hp0
 cases g with
 | none =>
  have e:rowsOf ps none=ps:=by simp[rowsOf]
  rw[e];exact ⟨G.each,G.next⟩
 | some z =>
  have e:rowsOf ps (some z)=ps ++ [(z,p0.2)]:=by simp only[rowsOf];rw[e0]
  have hz:=hg p0 hp0 z rfl;have h0:=G.each _ _ hp0;rw[e];refine ⟨λi p h=>?_,λi p q h h'=>?_⟩
  ·by_cases hi:i<ps.length
   ·rw[List.getElem?_append_left hi] at h
    exact G.each i p h
   ·rw[List.getElem?_append_right (by omega)] at h
    have:i-ps.length=0:=by
     have:=(List.getElem?_eq_some_iff.mp h).1
     simp at this;omega
    rw[this] at h
    simp at h
    subst h;exact ⟨by show 0<=z;omega,h0.2⟩
  ·by_cases hi:i+1<ps.length
   ·rw[List.getElem?_append_left hi] at h'
    rw[List.getElem?_append_left (by omega)] at h;exact G.next i p q h h'
   ·have h1:=(List.getElem?_eq_some_iff.mp h').1
    simp at h1
    have hi':i=ps.length-1:=by omega
    rw[List.getElem?_append_right (by omega)] at h';rw[List.getElem?_append_left (by omega),hi',hp0] at h;rw[show i+1-ps.length=0 by omega] at h'
    simp at h'
    cases h;subst h';exact ⟨hz,Int.emod_self⟩
end TB
namespace TB
open PySem L2
def PairAt (H:Hp) (v:V) (p:Int×Int):Prop:=∃ a,v=.ref a/\H a=some (.tup [.int p.1,.int p.2])
def Pairs (H:Hp) (xs:List V) (ps:List (Int×Int)):Prop:=Paired (PairAt H) xs ps
theorem PairAt.same {H H':Hp} (s:Same H H') {v:V} {p:Int×Int}:PairAt H v p->PairAt H' v p:=fun ⟨a,e,h⟩=>⟨a,e,s _ _ h⟩
def qyv (H H':Hp):Prop:=∀ b xs,H b=some (.tup xs)->H' b=some (.tup xs)
theorem Same.tup {H H':Hp} (s:Same H H'):qyv H H':=λb xs h=>s b _ h
theorem PairAt.tupS {H H':Hp} (s:qyv H H') {v:V} {p:Int×Int}:PairAt H v p->PairAt H' v p:=fun ⟨a,e,h⟩=>⟨a,e,s _ _ h⟩
theorem Pairs.tupS {H H':Hp} (s:qyv H H'):∀ {xs:List V} {ps:List (Int×Int)},Pairs H xs ps->Pairs H' xs ps
 | _,_,.nil=>.nil
 | _,_,.cons r t=>.cons (r.tupS s) (Pairs.tupS s t)
theorem Pairs.same {H H':Hp} (s:Same H H') {xs:List V} {ps:List (Int×Int)} (h:Pairs H xs ps):Pairs H' xs ps:=Pairs.tupS (Same.tup s) h
theorem Pairs.length {H:Hp}:∀ {xs:List V} {ps:List (Int×Int)},Pairs H xs ps->xs.length=ps.length
 | _,_,.nil=>rfl
 | _,_,.cons _ t=>by simp[Pairs.length t]
theorem Pairs.get {H:Hp}:∀ {xs:List V} {ps:List (Int×Int)} {i:Nat} {x:V},Pairs H xs ps->xs[i]?=some x->∃ p,ps[i]?=some p/\PairAt H x p
 | _,_,_,_,.nil,e=>by simp at e
 | _,_,0,_,.cons r _,e=>by simp at e;subst e;exact ⟨_,rfl,r⟩
 | _,_,i+1,x,.cons _ t,e=>by
  obtain ⟨u,h1,h2⟩:=Pairs.get (i:=i) (x:=x) t (by simpa using e);exact ⟨u,by simpa using h1,h2⟩
theorem Pairs.get' {H:Hp}:∀ {xs:List V} {ps:List (Int×Int)} {i:Nat} {p:Int×Int},Pairs H xs ps->ps[i]?=some p->∃ x,xs[i]?=some x/\PairAt H x p
 | _,_,_,_,.nil,e=>by simp at e
 | _,_,0,_,.cons r _,e=>by simp at e;subst e;exact ⟨_,rfl,r⟩
 | _,_,i+1,x,.cons _ t,e=>by
  obtain ⟨u,h1,h2⟩:=Pairs.get' (i:=i) (p:=x) t (by simpa using e);exact ⟨u,by simpa using h1,h2⟩
theorem Pairs.snoc {H:Hp} {v:V} {p:Int×Int} (r:PairAt H v p):∀ {xs:List V} {ps:List (Int×Int)},Pairs H xs ps->Pairs H (xs ++ [v]) (ps ++ [p])
 | _,_,.nil=>.cons r .nil
 | _,_,.cons q t=>.cons q (Pairs.snoc r t)
def qju (p:Int×Int):PyData:=.tuple [.int p.1,.int p.2]
def qd7 (ps:List (Int×Int)):PyData:=.list (ps.map qju)
theorem qr8:∀ ps:List (Int×Int),PyData.canLayAll0 (ps.map qju)=true
 | []=>rfl
 | p :: r=>by simp[PyData.canLayAll0,qju,PyData.canLay0,qr8 r]
theorem qk6 (ps:List (Int×Int)):(qd7 ps).canLay0=true:=by simp[qd7,PyData.canLay0,qr8]
theorem qr9:∀ ps:List (Int×Int),PyData.depthAll (ps.map qju)<=1
 | []=>by simp[PyData.depthAll]
 | p :: r=>by
  have:=qr9 r
  simp[PyData.depthAll,qju,PyData.depth]
  omega
theorem qsa (ps:List (Int×Int)):(qd7 ps).depth<=20:=by
 have:=qr9 ps
 simp[qd7,PyData.depth];omega
theorem Pairs.reps {K:Frag} {H:Hp}:∀ {xs:List V} {ps:List (Int×Int)},Pairs H xs ps->qvv K H xs (ps.map qju)
 | _,_,.nil=>.nil
 | _,_,.cons ⟨a,e,h⟩ t=>by
  subst e;exact .cons (.tup (SqT.of h) (.cons (.int _) (.cons (.int _) .nil))) (Pairs.reps t)
theorem Pairs.rep {K:Frag} {H:Hp} {l:Addr} {xs:List V} {ps:List (Int×Int)} (h:H l=some (.lst xs)) (r:Pairs H xs ps):Rep K H (.ref l) (qd7 ps):=.lst (SqL.of h) r.reps
theorem qk7 {K:Frag} {H:Hp}:∀ ns:List Int,qvv K H (ns.map V.int) (ns.map PyData.int)
 | []=>.nil
 | n :: r=>.cons (.int n) (qk7 r)
theorem qk8:∀ ns:List Int,PyData.canLayAll0 (ns.map PyData.int)=true
 | []=>rfl
 | n :: r=>by simp[PyData.canLayAll0,PyData.canLay0,qk8 r]
theorem qk9:∀ ns:List Int,PyData.depthAll (ns.map PyData.int)=0
 | []=>rfl
 | n :: r=>by simp[PyData.depthAll,PyData.depth,qk9 r]
def gv:Option Int->V
 | none=>.non
 | some i=>.int i
theorem qDg:¬ (("kept_steps" : Str) = "gone_age"):=by decide +kernel
def rf (l:Addr) (g:V):List (Str×V):=qek "gone_age" g (qek "kept_steps" (.ref l) [])
theorem qla (l:Addr) (g:V):(rf l g).lookup ("kept_steps" : Str)=some (.ref l):=by
 unfold rf;rw[qad,if_neg qDg,qad,if_pos rfl]
theorem qu0 (l:Addr) (g:V):(rf l g).lookup ("gone_age" : Str)=some g:=by
 unfold rf;rw[qad,if_pos rfl]
theorem qjv (l:Addr) (g:V) {m:Str} (h1:¬ m = "gone_age") (h2:¬ m = "kept_steps"):(rf l g).lookup m=none:=by
 unfold rf;rw[qad,if_neg h1,qad,if_neg h2]
 rfl
structure RuleAt (C:Addr) (H:Hp) (r l:Addr) (ps:List (Int×Int)) (g:Option Int):Prop where
 ob:∃ dx,H r=some (.ins C dx (rf l (gv g)))
 ls:∃ xs,H l=some (.lst xs)/\Pairs H xs ps
theorem RuleAt.same {C:Addr} {H H':Hp} {r l:Addr} {ps:List (Int×Int)} {g:Option Int} (s:Same H H') (h:RuleAt C H r l ps g):RuleAt C H' r l ps g:=
 ⟨let ⟨dx,e⟩:=h.ob;⟨dx,s _ _ e⟩,let ⟨xs,e,p⟩:=h.ls;⟨xs,s _ _ e,p.same s⟩⟩
theorem qhe {xs:List V} {v:V} (h:xs[xs.length-1]?=some v):atI xs (-1)=some v:=by
 have hl:xs.length-1<xs.length:=(List.getElem?_eq_some_iff.mp h).1;have e:ixN xs.length (-1)=some (xs.length-1):=by
  unfold ixN;rw[if_neg (by decide),if_pos (by omega)]
  congr 1;omega
 unfold atI;rw[e];exact h
theorem qDz (xs:List V):qkm xs (some 1) none=xs.drop 1:=by
 unfold qkm;rw[HT.sIx_none,show (some (1:Int))=some ((1:Nat):Int) from rfl,HT.sIx_nat]
 by_cases h:1<=xs.length
 ·rw[Nat.min_eq_left h]
  exact List.take_of_length_le (by simp)
 ·have e:xs=[]:=by cases xs with|nil=>rfl|cons _ _=>simp at h
  subst e;rfl
def qm0:Sp:=λvs H Q _=>∃ x,vs=[x]/\((∃ i,x=.int i/\Q (.bl true) H))
def qpn:Sp:=λvs H Q _=>∃ x p,vs=[x]/\PairAt H x p/\Q (.bl true) H
def qfi:Sp:=λvs H Q _=>∃ x p,vs=[x]/\PairAt H x p/\0<=p.1/\1<=p.2/\Q .non H
inductive qcq (vs:List V) (H:Hp) (Q:VK) (E_:XK):Prop
 | mk:∀ x y p q,vs=[x,y]->PairAt H x p->PairAt H y q->1<=p.2->p.1<=q.1->q.2 % p.2=0->Q .non H->qcq vs H Q E_
inductive qd8 (vs:List V) (H:Hp) (Q:VK) (E_:XK):Prop
 | mk:∀ l xs ps,vs=[.ref l]->H l=some (.lst xs)->Pairs H xs ps->Good ps->(∀ H',Same H H'->Q .non H')->qd8 vs H Q E_
def qjw:Sp:=λvs H Q _=>∃ g last,vs=[gv g,.int last]/\qn7 g last/\Q .non H
inductive qsb (C:Addr) (vs:List V) (H:Hp) (Q:VK) (E_:XK):Prop
 | mk:∀ r l ps g,vs=[.ref r]->RuleAt C H r l ps g->Q (gv g) H->qsb C vs H Q E_
def qwi (K:Frag):Sp:=λvs H Q _=>∃ (a:Addr) (ns:List Int),vs=[.ref a]/\SqL K H a (ns.map V.int)/\ns.length<=63/\∀ H',Q (.bl true) H'
open PySem L2
theorem New.after {H H1 H2:Hp} {p:Addr} {o:HO} (s:Same H H1) (n:New H1 H2 p o):New H H2 p o:=⟨s.trans n.same,s.free n.fresh,n.at_⟩
def lw (ps:List (Int×Int)):Int:=(ps.getLast?.getD (0,1)).2
def eV (ps:List (Int×Int)) (g:Option Int) (d:Int):List V:=(ps.map λp=>V.int (cut d p.1 p.2)) ++ [gv (g.map λz=>cut d z (lw ps))]
def GBd (g:Option Int):Prop:=∀ z,g=some z->0<=z/\z<10 ^ 45
structure Pr (ps:List (Int×Int)) (g:Option Int):Prop where
 good:Good ps
 size:qBc ps
 gone:∀ p,ps[ps.length-1]?=some p->qn7 g p.1
 gb:GBd g
theorem Pr.last {ps:List (Int×Int)} {g:Option Int} (P:Pr ps g):∃ p,ps[ps.length-1]?=some p/\lw ps=p.2:=by
 have hl:=P.good.lo;refine ⟨ps[ps.length-1]'(by omega),List.getElem?_eq_getElem _,?_⟩;unfold lw;rw[qjt (List.getElem?_eq_getElem _)]
theorem Pairs.but {H H':Hp} {m:Addr} {o:HO} {xs:List V} {ps:List (Int×Int)} (h:Pairs H xs ps) (b:But m H H') (hm:H m=some o) (nt:∀ xs,o≠.tup xs):Pairs H' xs ps:=h.tupS (b.tup hm nt)
theorem qBe {xs:List V}:∀ ys,(HO.lst xs)≠.tup ys:=λ_ z=>by cases z
theorem qcr {C dx:Addr} {fs:List (Str×V)}:∀ ys,(HO.ins C dx fs)≠.tup ys:=λ_ z=>by cases z
inductive qjx (C:Addr) (vs:List V) (H:Hp) (Q:VK) (E_:XK):Prop
 | mk:∀ r dx l xs ps g,vs=[.ref r,.ref l,gv g]->H r=some (.ins C dx [])->H l=some (.lst xs)->Pairs H xs ps->Good ps->(∀ p,ps[ps.length-1]?=some p->qn7 g p.1)->(∀ l' H',H l'=none->RuleAt C H' r l' ps g->But r H H'->Q .non H')->qjx C vs H Q E_
inductive qlb (C:Addr) (vs:List V) (H:Hp) (Q:VK) (E_:XK):Prop
 | mk:∀ r l ps g xs,vs=[.ref r]->RuleAt C H r l ps g->H l=some (.lst xs)->(∀ p H',New H H' p (.lst xs)->Q (.ref p) H')->qlb C vs H Q E_
def qpo:Sp:=λvs H Q _=>∃ n w,vs=[.int n,.int w]/\1<=w/\w<10 ^ 45 /\ -(10 ^ 46)<=n/\n<10 ^ 46/\Q (.int (n / w*w)) H
inductive qhf (C:Addr) (vs:List V) (H:Hp) (Q:VK) (E_:XK):Prop
 | mk:∀ r l ps g d,vs=[.ref r,.int d]->RuleAt C H r l ps g->Pr ps g->Bd d->(∀ H',Same H H'->Q (gv (g.map λz=>cut d z (lw ps))) H')->qhf C vs H Q E_
inductive qhg (C:Addr) (vs:List V) (H:Hp) (Q:VK) (E_:XK):Prop
 | mk:∀ r l ps g d,vs=[.ref r,.int d]->RuleAt C H r l ps g->Pr ps g->Bd d->(∀ p H',New H H' p (.lst (eV ps g d))->Q (.ref p) H')->qhg C vs H Q E_
def dV:V->PyData
 | .int i=>.int i
 | _=>.none
def Ed (v:V):Prop:=v=.non\/∃ i,v=.int i
theorem qBf (ps:List (Int×Int)) (g:Option Int) (d:Int):∀ v∈eV ps g d,Ed v:=λv hv=>by
 unfold eV at hv
 rcases List.mem_append.mp hv with h|h
 ·obtain ⟨p,_,e⟩:=List.mem_map.mp h
  exact .inr ⟨_,e.symm⟩
 ·have e:=List.mem_singleton.mp h
  cases g with
  | none=>exact .inl e
  | some z=>exact .inr ⟨_,e⟩
theorem qCh {α β:Type} (f:α->β) (xs:List α) (i:Nat) (x:α) (h:xs[i]?=some x):(xs.take (i+1)).map f=(xs.take i).map f ++ [f x]:=by
 rw[List.take_succ,h]
 simp
open PySem L2
end TB
namespace TB
def mc (p e:Int×Int):Int:=(e.1-p.1+e.2-1) / p.2
theorem qu1 {d a w a' w':Int} (hw:1<=w) (hw':1<=w'):(cut d a w-cut d a' w') / w<=mc (a,w) (a',w'):=by
 have h1:=qr6 (d:=d) (a:=a) hw;have h2:=qwg (d:=d) (a:=a') hw';exact Int.ediv_le_ediv (by omega) (by show _<=a'-a+w'-1;omega)
def qb0 (ps:List (Int×Int)) (z:Int):List (Int×Int):=ps.drop 1 ++ [(z,(ps.getLast?.getD (0,1)).2)]
def qij (ps:List (Int×Int)) (z:Int):List Int:=List.zipWith mc ps (qb0 ps z)
def roomOf (ps:List (Int×Int)) (z:Int):Int:=(qij ps z).sum
theorem qgn {ps:List (Int×Int)} {z:Int} (h:1<=ps.length):(qb0 ps z).length=ps.length:=by unfold qb0;simp;omega
theorem qu2 {ps:List (Int×Int)} {z:Int} {k:Nat} (h:k<ps.length):(qb0 ps z)[k]?=(rowsOf ps (some z))[k+1]?:=by
 unfold qb0 rowsOf
 by_cases hk:k+1<ps.length
 ·rw[List.getElem?_append_left (by simp;omega),List.getElem?_append_left hk,List.getElem?_drop,Nat.add_comm]
 ·rw[List.getElem?_append_right (by simp;omega),List.getElem?_append_right (by omega)]
  have e1:k-(ps.drop 1).length=0:=by simp;omega
  have e2:k+1-ps.length=0:=by omega
  rw[e1,e2]
theorem qjy {ps:List (Int×Int)} {z:Int} {k:Nat} {p e:Int×Int} (hp:ps[k]?=some p) (he:(qb0 ps z)[k]?=some e):(qij ps z)[k]?=some (mc p e):=by
 unfold qij;rw[List.getElem?_zipWith,hp,he]
theorem qwj:∀ {xs ys:List Int},xs.length=ys.length->(∀ (k:Nat) x y,xs[k]?=some x->ys[k]?=some y->x<=y)->xs.sum<=ys.sum
 | [],[],_,_=>Int.le_refl _
 | x :: xs,y :: ys,h,k=>by
  have h1:=k 0 x y rfl rfl;have h2:=qwj (xs:=xs) (ys:=ys) (by simpa using h) λj a b e1 e2=>k (j+1) a b (by simpa using e1) (by simpa using e2)
  simp only[List.sum_cons];omega
 | [],_ :: _,h,_=>by simp at h
 | _ :: _,[],h,_=>by simp at h
open PySem L2
inductive qsc (vs:List V) (H:Hp) (Q:VK) (E_:XK):Prop
 | mk:∀ x y p e,vs=[x,y]->PairAt H x p->PairAt H y e->1<=p.2->p.2<10 ^ 45->Q (.int (mc p e)) H->qsc vs H Q E_
inductive qsd (C:Addr) (vs:List V) (H:Hp) (Q:VK) (E_:XK):Prop
 | mk:∀ r l ps g,vs=[.ref r]->RuleAt C H r l ps g->Pr ps g->(∀ H',Same H H'->Q (gv (g.map λz=>roomOf ps z)) H')->qsd C vs H Q E_
theorem qas {i:Nat} {v:V} {σ:St} {H:Hp} {K:St->Hp->Prop} (h:K (σ.set i (some v)) H):qem i v σ H K:=h
theorem qDh (xs:List V):qkm xs (some 1) none=xs.drop 1:=qDz xs
theorem Pairs.drop {H:Hp} {xs:List V} {ps:List (Int×Int)} (h:Pairs H xs ps) (n:Nat):Pairs H (xs.drop n) (ps.drop n):=by
 induction n generalizing xs ps with
 | zero=>exact h
 | succ n ih =>
  cases h with
  | nil=>exact .nil
  | cons r t=>exact ih t
theorem qse {K:Frag} {a b:Addr} {xs ys:List V} {g:TG} {tc:TT} {te:TE} {Q:VK} {σ:St} {H:Hp} (Pv:Nat->List V->Hp->Prop) (hz:xs.length<=sizeLine) (h0:Pv 0 [] H) (hl:∀ i zs H,Pv i zs H->SqL K H a xs/\SqL K H b ys/\zs.length<=i)
  (hs:∀ i x y zs H p H',xs[i]?=some x->ys[i]?=some y->New H H' p (.tup [x,y])->Pv i zs H->g (.ref p) σ H' λσ4 H4=>tc σ4 H4 λb H5=>if b=true then te σ4 H5 λv H6=>Pv (i+1) (zs ++ [v]) H6 else Pv (i+1) zs H5)
  (hd:∀ i zs H p H',i=min xs.length ys.length->Pv i zs H->New H H' p (.lst zs)->Q (.ref p) H'):qd5 (Itz K a b) Q g tc te σ H:=
 qv1 Pv hz h0 hl (λi x y zs H p e1 e2 hn p'=>hs i x y zs H p _ e1 e2 (qa0 hn) p') λi zs H p e p' hp=>hd i zs H p _ e p' (qa0 hp)
theorem qlc {lo:Int} {n:Nat} {g:TG} {tc:TT} {te:TE} {Q:VK} {σ:St} {H:Hp} (Pv:Nat->List V->Hp->Prop) (hz:n<=sizeLine) (h0:Pv 0 [] H) (hl:∀ i ys H,Pv i ys H->ys.length<=i)
  (hs:∀ i ys H,i<n->Pv i ys H->g (.int (lo+i)) σ H λσ4 H4=>tc σ4 H4 λb H5=>if b=true then te σ4 H5 λv H6=>Pv (i+1) (ys ++ [v]) H6 else Pv (i+1) ys H5)
  (hd:∀ ys H p H',Pv n ys H->New H H' p (.lst ys)->Q (.ref p) H'):qd5 (Itr lo n) Q g tc te σ H:=
 qul Pv hz h0 hl hs λys H p p' hp=>hd ys H p _ p' (qa0 hp)
open PySem L2
def qld (ps:List (Int×Int)) (z d:Int):List Int:=List.zipWith (λp e=>(cut d p.1 p.2-cut d e.1 e.2) / p.2) ps (qb0 ps z)
theorem qpp {ps:List (Int×Int)} {z d:Int} {k:Nat} {p e:Int×Int} (hp:ps[k]?=some p) (he:(qb0 ps z)[k]?=some e):(qld ps z d)[k]?=some ((cut d p.1 p.2-cut d e.1 e.2) / p.2):=by
 unfold qld;rw[List.getElem?_zipWith,hp,he]
theorem qis {ps:List (Int×Int)} {z d:Int} (h:1<=ps.length):(qld ps z d).length=ps.length:=by
 unfold qld;rw[List.length_zipWith,qgn h];omega
theorem qe3 {ps:List (Int×Int)} {z:Int} (h:1<=ps.length):(qij ps z).length=ps.length:=by
 unfold qij;rw[List.length_zipWith,qgn h];omega
theorem Pr.pair {ps:List (Int×Int)} {z:Int} (P:Pr ps (some z)) {k:Nat} (hk:k<ps.length):∃ p e,ps[k]?=some p/\(qb0 ps z)[k]?=some e/\(rowsOf ps (some z))[k]?=some p/\(rowsOf ps (some z))[k+1]?=some e/\1<=p.2/\p.2<10 ^ 45/\1<=e.2/\e.2 % p.2=0:=by
 have hl:=P.good.lo;obtain ⟨r1,r2⟩:=qhd P.good P.gone;have h1:ps[k]?=some ps[k]:=List.getElem?_eq_getElem hk;have h2:(rowsOf ps (some z))[k]?=some ps[k]:=by
  unfold rowsOf;rw[List.getElem?_append_left hk];exact h1
 have hlen:k<(qb0 ps z).length:=by rw[qgn hl];exact hk
 have h3:(qb0 ps z)[k]?=some (qb0 ps z)[k]:=List.getElem?_eq_getElem hlen;have h4:=(qu2 (z:=z) hk).symm.trans h3;have h5:=P.size k _ h1;obtain ⟨h6,h7⟩:=r2 k _ _ h2 h4;exact ⟨_,_,h1,h3,h2,h4,h5.2.2.1,h5.2.2.2,(r1 _ _ h4).2,h7⟩
theorem qle {ps:List (Int×Int)} {z d:Int} (P:Pr ps (some z)):(qld ps z d).sum<=roomOf ps z:=by
 have hl:=P.good.lo;refine qwj (by rw[qis hl,qe3 hl]) λk x y hx hy=>?_
 have hk:k<ps.length:=by
  have:=(List.getElem?_eq_some_iff.mp hx).1
  rwa [qis hl] at this
 obtain ⟨p,e,a1,a2,_,_,w1,_,w2,_⟩:=P.pair hk;rw[qpp a1 a2] at hx;rw[qjy a1 a2] at hy
 cases hx;cases hy
 exact qu1 w1 w2
open PySem L2
def gE:V->V->V
 | .non,y=>y
 | .int i,.int j=>.int (if j>i then j else i)
 | x,_=>x
theorem qyw {x y:V} (hx:Ed x) (hy:Ed y):gE x y=gE y x:=by
 rcases hx with rfl|⟨i,rfl⟩<;>rcases hy with rfl|⟨j,rfl⟩<;>try rfl
 simp only[gE]
 congr 1
 split<;>split<;>omega
theorem qn8:∀ {xs ys:List V},(∀ v∈xs,Ed v)->(∀ v∈ys,Ed v)->List.zipWith gE xs ys=List.zipWith gE ys xs
 | [],ys,_,_=>by simp
 | x :: xs,[],_,_=>rfl
 | x :: xs,y :: ys,h1,h2=>by
  simp only[List.zipWith_cons_cons];rw[qyw (h1 x List.mem_cons_self) (h2 y List.mem_cons_self),qn8 (λv hv=>h1 v (List.mem_cons_of_mem _ hv)) λv hv=>h2 v (List.mem_cons_of_mem _ hv)]
theorem zip_get {xs ys:List V} {i:Nat} {x y:V} (h1:xs[i]?=some x) (h2:ys[i]?=some y):(List.zipWith gE xs ys)[i]?=some (gE x y):=by
 rw[List.getElem?_zipWith,h1,h2]
theorem qgi {α:Type} (xs:List α) (i:Nat) (x:α) (h:xs[i]?=some x):xs.take (i+1)=xs.take i ++ [x]:=by
 rw[List.take_succ,h];rfl
def qhh:Sp:=λvs H Q _=>∃ x y,vs=[x,y]/\Ed x/\Ed y/\Q (gE x y) H
theorem qDi (g:Option Int):Ed (gv g):=by cases g with
 | none=>exact .inl rfl
 | some z=>exact .inr ⟨z,rfl⟩
def qD0 (v:V):Bool:=!decide (v=V.non)
open PySem L2
def EB (x:Int):Prop:=-(4*10 ^ 45)<x/\x<4*10 ^ 45
structure EdS (EV:List V) (es:List Int) (ge:Option Int):Prop where
 eq:EV=es.map V.int ++ [gv ge]
 bd:∀ x∈es,EB x
 gb:∀ z,ge=some z->EB z
theorem EdS.ed {EV:List V} {es:List Int} {ge:Option Int} (h:EdS EV es ge):∀ v∈EV,Ed v:=by
 intro v hv;rw[h.eq] at hv
 rcases List.mem_append.mp hv with z|z
 ·obtain ⟨i,_,e⟩:=List.mem_map.mp z;exact .inr ⟨i,e.symm⟩
 ·rw[List.mem_singleton.mp z];exact qDi ge
theorem EdS.of {ps:List (Int×Int)} {g:Option Int} {d:Int} (P:Pr ps g) (hd:Bd d):EdS (eV ps g d) (ps.map λp=>cut d p.1 p.2) (g.map λz=>cut d z (lw ps)):=by
 refine ⟨by unfold eV;rw[List.map_map];rfl,λx hx=>?_,λz hz=>?_⟩
 ·obtain ⟨p,hp,rfl⟩:=List.mem_map.mp hx
  obtain ⟨i,hi,e⟩:=List.getElem_of_mem hp;have hs:=P.size i p (by rw[<- e];exact List.getElem?_eq_getElem hi);exact qwh hd hs.1 hs.2.1 hs.2.2.1 hs.2.2.2
 ·cases g with
  | none=>cases hz
  | some y =>
   cases hz;obtain ⟨p,hp,ep⟩:=P.last;have hs:=P.size _ p hp;have hg:=P.gb y rfl;rw[ep];exact qwh hd hg.1 hg.2 hs.2.2.1 hs.2.2.2
def qwk:Option Int->Option Int->Option Int
 | none,y=>y
 | some i,some j=>some (if j>i then j else i)
 | x,none=>x
theorem qDj (x y:Option Int):gE (gv x) (gv y)=gv (qwk x y):=by cases x<;>cases y<;>rfl
theorem EdS.max {E1 E2:List V} {a b:List Int} {g1 g2:Option Int} (h1:EdS E1 a g1) (h2:EdS E2 b g2) (hl:a.length=b.length):EdS (List.zipWith gE E1 E2) (List.zipWith (λi j=>if j>i then j else i) a b) (qwk g1 g2):=by
 refine ⟨?_,λx hx=>?_,λz hz=>?_⟩
 ·rw[h1.eq,h2.eq,List.zipWith_append (by simpa using hl)]
  congr 1
  ·rw[List.zipWith_map_left,List.zipWith_map_right,List.map_zipWith];rfl
  ·show [gE (gv g1) (gv g2)]=_
   rw[qDj]
 ·obtain ⟨i,hi,e⟩:=List.getElem_of_mem hx
  have hi':=hi;rw[List.length_zipWith] at hi';have hia:i<a.length:=by omega
  have hib:i<b.length:=by omega
  rw[List.getElem_zipWith] at e;have e1:=h1.bd a[i] (List.getElem_mem _);have e2:=h2.bd b[i] (List.getElem_mem _);rw[<- e]
  split
  ·exact e2
  ·exact e1
 ·cases g1 with
  | none=>exact h2.gb z hz
  | some i =>
   cases g2 with
   | none=>exact h1.gb z hz
   | some j =>
    have e1:=h1.gb i rfl;have e2:=h2.gb j rfl;simp only[qwk,Option.some.injEq] at hz;rw[<- hz]
    split
    ·exact e2
    ·exact e1
def wl (ws es:List Int) (t:Int):List Int:=((ws.zip es).filter λx=>decide (t<x.2)).map (·.1)
def qb6 (ge:Option Int) (t:Int):Prop:=∃ z,ge=some z/\t<z
def CellOf (ws es:List Int) (ge:Option Int) (t:Int) (o:Option (Int×Int)):Prop:=
 (∀ e0,es[0]?=some e0->(e0<=t->o=some (t,0))/\(t<e0->(qb6 ge t->o=none)/\(¬ qb6 ge t->∃ w,(wl ws es t)[(wl ws es t).length-1]?=some w/\o=some (t / w*w,w))))
theorem qBg {ws es:List Int} {t w0 e0:Int} (h1:ws[0]?=some w0) (h2:es[0]?=some e0) (h:t<e0):1<=(wl ws es t).length:=by
 cases ws with
 | nil=>simp at h1
 | cons w r =>
  cases es with
  | nil=>simp at h2
  | cons e s =>
   simp at h2
   subst h2;unfold wl;rw[List.zip_cons_cons,List.filter_cons_of_pos (by simpa using h)]
   simp
theorem qsf {ws es:List Int} {t w:Int} (h:w∈wl ws es t):w∈ws:=by
 unfold wl at h;obtain ⟨x,hx,rfl⟩:=List.mem_map.mp h;exact (List.of_mem_zip (List.mem_filter.mp hx).1).1
theorem qEt {ws es:List Int} {t:Int} {i:Nat} {w e:Int} (h1:ws[i]?=some w) (h2:es[i]?=some e) (h:t<e):((((ws.zip es).take (i+1)).filter λx=>decide (t<x.2)).map (·.1))=((((ws.zip es).take i).filter λx=>decide (t<x.2)).map (·.1)) ++ [w]:=by
 have hz:(ws.zip es)[i]?=some (w,e):=by rw[List.getElem?_zip_eq_some];exact ⟨h1,h2⟩
 rw[qgi _ i _ hz,List.filter_append,List.map_append]
 simp[h]
theorem qEu {ws es:List Int} {t:Int} {i:Nat} {w e:Int} (h1:ws[i]?=some w) (h2:es[i]?=some e) (h:¬ t<e):((((ws.zip es).take (i+1)).filter λx=>decide (t<x.2)).map (·.1))=((((ws.zip es).take i).filter λx=>decide (t<x.2)).map (·.1)):=by
 have hz:(ws.zip es)[i]?=some (w,e):=by rw[List.getElem?_zip_eq_some];exact ⟨h1,h2⟩
 rw[qgi _ i _ hz,List.filter_append,List.map_append]
 simp[h]
theorem qBh {ws es:List Int} {t:Int} {i:Nat} (h:(ws.zip es).length<=i):((((ws.zip es).take i).filter λx=>decide (t<x.2)).map (·.1))=wl ws es t:=by
 rw[List.take_of_length_le h];rfl
theorem qBi (ws es:List Int) (t:Int) (i:Nat):((((ws.zip es).take i).filter λx=>decide (t<x.2)).map (·.1)).length<=i:=by
 rw[List.length_map];exact Nat.le_trans (List.length_filter_le _ _) (by rw[List.length_take];omega)
def qBj (H:Hp) (v:V) (o:Option (Int×Int)):Prop:=match o with
 | none=>v=.non
 | some p=>PairAt H v p
theorem CellOf.uniq {ws es:List Int} {ge:Option Int} {t:Int} {o o':Option (Int×Int)} {e0:Int} (h0:es[0]?=some e0) (h:CellOf ws es ge t o) (h':CellOf ws es ge t o'):o=o':=by
 obtain ⟨a1,a2⟩:=h e0 h0;obtain ⟨b1,b2⟩:=h' e0 h0
 by_cases hc:e0<=t
 ·rw[a1 hc,b1 hc]
 ·have hlt:t<e0:=by omega
  by_cases hg:qb6 ge t
  ·rw[(a2 hlt).1 hg,(b2 hlt).1 hg]
  ·obtain ⟨w,hw,rfl⟩:=(a2 hlt).2 hg
   obtain ⟨w',hw',rfl⟩:=(b2 hlt).2 hg;rw[hw] at hw'
   cases hw'
   rfl
inductive qit (vs:List V) (H:Hp) (Q:VK) (E_:XK):Prop
 | mk:∀ (e:Addr) (es:List Int) (ge:Option Int) (t:Int),vs=[.ref e,.int t]->H e=some (.lst (es.map V.int ++ [gv ge]))->(qb6 ge t->Q (.bl true) H)->(¬ qb6 ge t->Q (.bl false) H)->qit vs H Q E_
inductive qhi (C:Addr) (vs:List V) (H:Hp) (Q:VK) (E_:XK):Prop
 | mk:∀ (r l:Addr) (ps:List (Int×Int)) (g:Option Int) (e:Addr) (es:List Int) (ge:Option Int) (t e0:Int),vs=[.ref r,.ref e,.int t]->RuleAt C H r l ps g->H e=some (.lst (es.map V.int ++ [gv ge]))->es.length=ps.length->1<=ps.length->ps.length<=5->es[0]?=some e0->t<e0->(∀ w H',(wl (ps.map (·.2)) es t)[(wl (ps.map (·.2)) es t).length-1]?=some w->Same H H'->Q (.int w) H')->qhi C vs H Q E_
def qpq (t:Int):Prop:=-(10 ^ 46)<=t/\t<10 ^ 46
inductive qiu (C:Addr) (vs:List V) (H:Hp) (Q:VK) (E_:XK):Prop
 | mk:∀ (r l:Addr) (ps:List (Int×Int)) (g:Option Int) (e:Addr) (es:List Int) (ge:Option Int) (t:Int),vs=[.ref r,.ref e,.int t]->RuleAt C H r l ps g->H e=some (.lst (es.map V.int ++ [gv ge]))->es.length=ps.length->1<=ps.length->ps.length<=5->qBc ps->qpq t->(∀ v o H',CellOf (ps.map (·.2)) es ge t o->qBj H' v o->Same H H'->Q v H')->qiu C vs H Q E_
inductive qhj (vs:List V) (H:Hp) (Q:VK) (E_:XK):Prop
 | mk:∀ (a b:Addr) (xs ys:List V),vs=[.ref a,.ref b]->H a=some (.lst xs)->H b=some (.lst ys)->(∀ v∈xs,Ed v)->(∀ v∈ys,Ed v)->xs.length=ys.length->xs.length<=1000->(∀ p H',New H H' p (.lst (List.zipWith gE xs ys))->Q (.ref p) H')->qhj vs H Q E_
theorem CellOf.a {ws es:List Int} {ge:Option Int} {t e0:Int} (h0:es[0]?=some e0) (h:e0<=t):CellOf ws es ge t (some (t,0)):=λx hx=>by
 rw[h0] at hx;cases hx;exact ⟨λ_=>rfl,λh'=>absurd h (by omega)⟩
theorem CellOf.b {ws es:List Int} {ge:Option Int} {t e0:Int} (h0:es[0]?=some e0) (h:t<e0) (hg:qb6 ge t):CellOf ws es ge t none:=λx hx=>by
 rw[h0] at hx;cases hx;exact ⟨λh'=>absurd h (by omega),λ_=>⟨λ_=>rfl,λn=>absurd hg n⟩⟩
theorem CellOf.c {ws es:List Int} {ge:Option Int} {t e0 w:Int} (h0:es[0]?=some e0) (h:t<e0) (hg:¬ qb6 ge t) (hw:(wl ws es t)[(wl ws es t).length-1]?=some w):CellOf ws es ge t (some (t / w*w,w)):=λx hx=>by
 rw[h0] at hx;cases hx;exact ⟨λh'=>absurd h (by omega),λ_=>⟨λn=>absurd n hg,λ_=>⟨w,hw,rfl⟩⟩⟩
theorem qjz {K:Frag} {H H':Hp} {a:Addr} {xs:List V} (s:Same H H') (h:SqL K H a xs):SqL K H' a xs:=by
 rcases h with (h|⟨o,h⟩)|h
 ·exact .inl (.inl (s _ _ h))
 ·exact .inl (.inr ⟨o,s _ _ h⟩)
 ·exact .inr h
theorem qlf:∀ es:List Int,(es.map V.int).filter qD0=es.map V.int
 | []=>rfl
 | e :: r=>by rw[List.map_cons,List.filter_cons_of_pos (by rfl),qlf r]
theorem known (es:List Int) (ge:Option Int):(es.map V.int ++ [gv ge]).filter qD0=(es ++ ge.toList).map V.int:=by
 rw[List.filter_append,qlf,List.map_append]
 cases ge<;>rfl
theorem qd0 {K:Frag} {a:Addr} {xs:List V} {g:TG} {tc:TT} {te:TE} {Q:VK} {σ:St} {H:Hp} (Pv:Nat->List V->Hp->Prop) (hz:xs.length<=sizeLine) (h0:Pv 0 [] H) (hl:∀ i ys H,Pv i ys H->SqL K H a xs/\ys.length<=i)
  (hs:∀ i x ys H,xs[i]?=some x->Pv i ys H->g x σ H λσ4 H4=>tc σ4 H4 λb H5=>if b=true then te σ4 H5 λv H6=>Pv (i+1) (ys ++ [v]) H6 else Pv (i+1) ys H5)
  (hd:∀ ys H p H',Pv xs.length ys H->New H H' p (.lst ys)->Q (.ref p) H'):qd5 (Itl K a) Q g tc te σ H:=
 qrc Pv hz h0 hl hs λys H p p' hp=>hd ys H p _ p' (qa0 hp)
open PySem L2
def qtr (rs:List (Int×Int)):List Int:=rs.map λp=>p.1
def qD1 (rs:List (Int×Int)):List Int:=rs.map λp=>p.2
def qD2 (rs:List (Int×Int)):List Int:=rs.map λp=>p.1*p.2
def rN (rs:List (Int×Int)):Int:=(qD1 rs).sum
def rT (rs:List (Int×Int)):Int:=(qD2 rs).sum
structure qn9 (rs:List (Int×Int)) (vm vt vl vg:Int):Prop where
 m:vm=rN rs
 t:vt=rT rs
 lo:vl∈qtr rs
 lo':∀ a∈qtr rs,vl<=a
 hi:vg∈qtr rs
 hi':∀ a∈qtr rs,a<=vg
theorem mapN' (f:Int×Int->Int) (rs:List (Int×Int)) {i:Nat} {p:Int×Int} (h:rs[i]?=some p):((rs.take (i+1)).map f).map V.int=((rs.take i).map f).map V.int ++ [V.int (f p)]:=by
 rw[List.take_succ,h]
 simp
theorem qgo {K:Frag} {l:Addr} {xs:List V} {rs:List (Int×Int)} {te:TE} {Q:VK} {σ:St} {H:Hp} (f:Int×Int->Int) (hl:H l=some (.lst xs)) (hp:Pairs H xs rs) (hz:rs.length<=200)
  (hs:∀ p∈rs,∀ Q':VK,Q' (.int (f p)) H->te ((σ.set 0 (some (.int p.1))).set 1 (some (.int p.2))) H Q')
  (hd:∀ a H',New H H' a (.lst ((rs.map f).map V.int))->Q (.ref a) H'):qd5 (Itl K l) Q (qzx K 2 (qie (qem 0) (qie (qem 1) qzw))) qC4 te σ H:=by
 have hlen:=hp.length;refine qd0 (xs:=xs) (λi ys H2=>H2=H/\ys=((rs.take i).map f).map V.int) (Nat.le_of_lt (qau (by omega))) ⟨rfl,rfl⟩ (λi ys H2 h2=>⟨SqL.of (by rw[h2.1];exact hl),by rw[h2.2];simp;omega⟩) ?_ ?_
 ·rintro i x ys H2 hi ⟨rfl,rfl⟩
  obtain ⟨p,hpi,a,rfl,ha⟩:=hp.get hi;refine ⟨a,_,rfl,SqT.of ha,rfl,_,_,rfl,_,_,rfl,rfl,qqc (qdc ?_)⟩;refine hs p (List.mem_of_getElem? hpi) _ ⟨rfl,?_⟩;rw[mapN' f rs hpi]
 ·rintro ys H2 a H' ⟨rfl,rfl⟩ n
  rw[hlen,List.take_length] at n;exact hd a H' n
inductive qlg (vs:List V) (H:Hp) (Q:VK) (E_:XK):Prop
 | mk:∀ a b m t lo hi m' t' lo' hi',vs=[.ref a,.ref b]->H a=some (.tup [.int m,.int t,.int lo,.int hi])->H b=some (.tup [.int m',.int t',.int lo',.int hi'])->(∀ p H',New H H' p (.tup [.int (m+m'),.int (t+t'),.int (if lo'<lo then lo' else lo),.int (if hi'>hi then hi' else hi)])->Q (.ref p) H')->qlg vs H Q E_
open PySem L2
def rof (ru:Addr) (day:Int) (le dy dh:Addr):List (Str×V):=qek "cell_heaps" (.ref dh) (qek "whole_ones" (.ref dy) (qek "kept_edges" (.ref le) (qek "kept_day" (.int day) (qek "kept_rule" (.ref ru) []))))
section
variable (ru:Addr) (day:Int) (le dy dh:Addr)
theorem qsg:(rof ru day le dy dh).lookup ("kept_rule" : Str)=some (.ref ru):=by
 unfold rof;rw[qad,if_neg (by decide +kernel),qad,if_neg (by decide +kernel),qad,if_neg (by decide +kernel),qad,if_neg (by decide +kernel),qad,if_pos rfl]
theorem qBk:(rof ru day le dy dh).lookup ("kept_day" : Str)=some (.int day):=by
 unfold rof;rw[qad,if_neg (by decide +kernel),qad,if_neg (by decide +kernel),qad,if_neg (by decide +kernel),qad,if_pos rfl]
theorem qoa:(rof ru day le dy dh).lookup ("kept_edges" : Str)=some (.ref le):=by
 unfold rof;rw[qad,if_neg (by decide +kernel),qad,if_neg (by decide +kernel),qad,if_pos rfl]
theorem qob:(rof ru day le dy dh).lookup ("whole_ones" : Str)=some (.ref dy):=by
 unfold rof;rw[qad,if_neg (by decide +kernel),qad,if_pos rfl]
theorem qiv:(rof ru day le dy dh).lookup ("cell_heaps" : Str)=some (.ref dh):=by
 unfold rof;rw[qad,if_pos rfl]
theorem qdk {m:Str} (h1:¬ m = "cell_heaps") (h2:¬ m = "whole_ones") (h3:¬ m = "kept_edges") (h4:¬ m = "kept_day") (h5:¬ m = "kept_rule"):(rof ru day le dy dh).lookup m=none:=by
 unfold rof;rw[qad,if_neg h1,qad,if_neg h2,qad,if_neg h3,qad,if_neg h4,qad,if_neg h5];rfl
theorem qsh:(rof ru day le dy dh).lookup ("put" : Str)=none:=qdk _ _ _ _ _ (by decide +kernel) (by decide +kernel) (by decide +kernel) (by decide +kernel) (by decide +kernel)
theorem qoc:(rof ru day le dy dh).lookup ("pour_into_cell" : Str)=none:=qdk _ _ _ _ _ (by decide +kernel) (by decide +kernel) (by decide +kernel) (by decide +kernel) (by decide +kernel)
theorem qu3:(rof ru day le dy dh).lookup ("rule" : Str)=none:=qdk _ _ _ _ _ (by decide +kernel) (by decide +kernel) (by decide +kernel) (by decide +kernel) (by decide +kernel)
theorem qyx:(rof ru day le dy dh).lookup ("day" : Str)=none:=qdk _ _ _ _ _ (by decide +kernel) (by decide +kernel) (by decide +kernel) (by decide +kernel) (by decide +kernel)
theorem qsi:(rof ru day le dy dh).lookup ("edges" : Str)=none:=qdk _ _ _ _ _ (by decide +kernel) (by decide +kernel) (by decide +kernel) (by decide +kernel) (by decide +kernel)
theorem qsj:(rof ru day le dy dh).lookup ("young" : Str)=none:=qdk _ _ _ _ _ (by decide +kernel) (by decide +kernel) (by decide +kernel) (by decide +kernel) (by decide +kernel)
theorem qhk:(rof ru day le dy dh).lookup ("heaps" : Str)=none:=qdk _ _ _ _ _ (by decide +kernel) (by decide +kernel) (by decide +kernel) (by decide +kernel) (by decide +kernel)
end
abbrev KV:=List (List Key×V)
structure qar where
 ru:Addr
 rl:Addr
 le:Addr
 dy:Addr
 dh:Addr
 ps:List (Int×Int)
 g:Option Int
 day:Int
 es:List Int
 ge:Option Int
 Y:KV
 Z:KV
structure RollAt (C R:Addr) (H:Hp) (ro:Addr) (D:qar):Prop where
 ob:∃ dx,H ro=some (.ins C dx (rof D.ru D.day D.le D.dy D.dh))
 rule:RuleAt R H D.ru D.rl D.ps D.g
 ed:H D.le=some (.lst (D.es.map V.int ++ [gv D.ge]))
 yo:H D.dy=some (.dT D.Y)
 he:H D.dh=some (.dT D.Z)
 ne:D.dy≠D.dh
theorem RollAt.same {C R:Addr} {H H':Hp} {ro:Addr} {D:qar} (s:Same H H') (h:RollAt C R H ro D):RollAt C R H' ro D:=
 ⟨let ⟨dx,e⟩:=h.ob;⟨dx,s _ _ e⟩,h.rule.same s,s _ _ h.ed,s _ _ h.yo,s _ _ h.he,h.ne⟩
theorem qBl {kvs:KV}:∀ xs,HO.dT kvs≠.tup xs:=λ_ z=>by cases z
theorem RuleAt.but2 {C:Addr} {H H':Hp} {r l a:Addr} {ps:List (Int×Int)} {g:Option Int} {o:HO} (h:RuleAt C H r l ps g) (b:But a H H') (ha:H a=some o) (nt:∀ xs,o≠.tup xs) (nl:∀ xs,o≠.lst xs) (hr:r≠a):RuleAt C H' r l ps g:=by
 obtain ⟨dx,e⟩:=h.ob;obtain ⟨xs,e2,p⟩:=h.ls;exact ⟨⟨dx,b _ _ e hr⟩,xs,b _ _ e2 (qap e2 ha (λz=>nl xs z.symm)),p.but b ha nt⟩
theorem RollAt.putY {C R:Addr} {H H':Hp} {ro:Addr} {D:qar} {Y':KV} (A:RollAt C R H ro D) (b:But D.dy H H') (h:H' D.dy=some (.dT Y')):RollAt C R H' ro { D with Y:=Y' }:=by
 obtain ⟨dx,e⟩:=A.ob;obtain ⟨dx2,e2⟩:=A.rule.ob;exact ⟨⟨dx,b _ _ e (qap e A.yo (by intro z;cases z))⟩,A.rule.but2 b A.yo qBl (by intro xs z;cases z) (qap e2 A.yo (by intro z;cases z)),b _ _ A.ed (qap A.ed A.yo (by intro z;cases z)),h,b _ _ A.he A.ne.symm,A.ne⟩
theorem RollAt.putZ {C R:Addr} {H H':Hp} {ro:Addr} {D:qar} {Z':KV} (A:RollAt C R H ro D) (b:But D.dh H H') (h:H' D.dh=some (.dT Z')):RollAt C R H' ro { D with Z:=Z' }:=by
 obtain ⟨dx,e⟩:=A.ob;obtain ⟨dx2,e2⟩:=A.rule.ob;exact ⟨⟨dx,b _ _ e (qap e A.he (by intro z;cases z))⟩,A.rule.but2 b A.he qBl (by intro xs z;cases z) (qap e2 A.he (by intro z;cases z)),b _ _ A.ed (qap A.ed A.he (by intro z;cases z)),b _ _ A.yo A.ne,h,A.ne⟩
def But2 (a b:Addr) (H H':Hp):Prop:=∀ c o,H c=some o->c≠a->c≠b->H' c=some o
structure qdl (D:qar):Prop where
 pr:Pr D.ps D.g
 es:D.es.length=D.ps.length
def qD3 (ru rl le dy dh:Addr) (ps:List (Int×Int)) (g:Option Int) (day:Int):qar:=⟨ru,rl,le,dy,dh,ps,g,day,ps.map (λp=>cut day p.1 p.2),g.map (λz=>cut day z (lw ps)),[],[]⟩
def YOk (Y:KV):Prop:=∀ k x,qcc Y k=some x->∃ n,x=V.int n
def ZOk (H:Hp) (Z:KV):Prop:=∀ k x,qcc Z k=some x->∃ (h:Addr) (m t lo hi:Int),x=.ref h/\H h=some (.tup [.int m,.int t,.int lo,.int hi])
theorem ZOk.same {H H':Hp} {Z:KV} (s:Same H H') (h:ZOk H Z):ZOk H' Z:=λk x e=>by
 obtain ⟨a,m,t,lo,hi,e1,e2⟩:=h k x e;exact ⟨a,m,t,lo,hi,e1,s _ _ e2⟩
def yv (Y:KV) (k:List Key):Int:=match qcc Y k with
 | some (.int n)=>n
 | _=>0
def kk (a b:Int):List Key:=[.inl a,.inl b]
theorem qBm {Y:KV} (h:YOk Y) (k:List Key):(qcc Y k).getD (V.int 0)=V.int (yv Y k):=by
 unfold yv
 cases e:qcc Y k with
 | none=>rfl
 | some x =>
  obtain ⟨n,rfl⟩:=h k x e
  rfl
def qBn (H:Hp) (Z:KV) (k:List Key) (v m a b lo hi:Int):Prop:=
 (qcc Z k=none/\qn9 [(v,m)] a b lo hi)\/∃ (h0:Addr) (m0 t0 lo0 hi0 a' b' lo' hi':Int),qcc Z k=some (.ref h0)/\H h0=some (.tup [.int m0,.int t0,.int lo0,.int hi0])/\qn9 [(v,m)] a' b' lo' hi'/\a=m0+a'/\b=t0+b'/\lo=(if lo'<lo0 then lo' else lo0)/\hi=(if hi'>hi0 then hi' else hi0)
def Puts (H H':Hp) (D D':qar) (o:Option (Int×Int)) (t v m:Int):Prop:=
 (o=none/\D'=D)\/(o=some (t,0)/\D'={ D with Y:=putK D.Y (kk t v) (.int (yv D.Y (kk t v)+m)) }) \/
 ∃ (s w:Int) (h:Addr) (a b lo hi:Int),o=some (s,w)/\1<=w/\D'={ D with Z:=putK D.Z (kk s w) (.ref h) }/\H' h=some (.tup [.int a,.int b,.int lo,.int hi])/\qBn H D.Z (kk s w) v m a b lo hi
theorem CellOf.some_ {ws es:List Int} {ge:Option Int} {t:Int} {p:Int×Int} (h:CellOf ws es ge t (some p)) (hl:1<=es.length) (hw:∀ w∈ws,1<=w):p=(t,0)\/1<=p.2:=by
 obtain ⟨h1,h2⟩:=h es[0] (List.getElem?_eq_getElem (by omega))
 by_cases c:es[0]<=t
 ·exact .inl (Option.some.inj (h1 c))
 ·obtain ⟨g1,g2⟩:=h2 (by omega)
  by_cases hg:qb6 ge t
  ·cases g1 hg
  ·obtain ⟨w,e1,e2⟩:=g2 hg
   cases e2;exact .inr (hw w (qsf (List.mem_of_getElem? e1)))
theorem Pr.w1 {ps:List (Int×Int)} {g:Option Int} (P:Pr ps g) {w:Int} (h:w∈ps.map (·.2)):1<=w:=by
 obtain ⟨p,hp,rfl⟩:=List.mem_map.mp h;obtain ⟨i,hi,e⟩:=List.getElem_of_mem hp;exact (P.size i p (by rw[<- e];exact List.getElem?_eq_getElem hi)).2.2.1
def qu4 (p:Int×Int):Prop:=(-(10 ^ 51)<p.1/\p.1<10 ^ 51)/\1<=p.2/\p.2<10 ^ 45
inductive qhl (vs:List V) (H:Hp) (Q:VK) (E_:XK):Prop
 | mk:∀ l xs rs,vs=[.ref l]->H l=some (.lst xs)->Pairs H xs rs->(∀ p∈rs,qu4 p)->rs.length<=200->(rs=[]->Q .non H)->(rs≠[]->∀ a m t lo hi H',qn9 rs m t lo hi->New H H' a (.tup [.int m,.int t,.int lo,.int hi])->Q (.ref a) H')->qhl vs H Q E_
inductive qfu (C R:Addr) (vs:List V) (H:Hp) (Q:VK) (E_:XK):Prop
 | mk:∀ (ro dx ru rl:Addr) (ps:List (Int×Int)) (g:Option Int) (day:Int),vs=[.ref ro,.ref ru,.int day]->H ro=some (.ins C dx [])->RuleAt R H ru rl ps g->Pr ps g->Bd day->(∀ le dy dh H',H le=none->H dy=none->H dh=none->RollAt C R H' ro (qD3 ru rl le dy dh ps g day)->But ro H H'->Q .non H')->qfu C R vs H Q E_
inductive qfj (C R N:Addr) (vs:List V) (H:Hp) (Q:VK) (E:XK):Prop
 | mk:∀ (ro:Addr) (D:qar) (t v m:Int),vs=[.ref ro,.int t,.int v,.int m]->RollAt C R H ro D->qdl D->qpq t->(1<=m->qu4 (v,m))->YOk D.Y->ZOk H D.Z->D.Y.length<=900->D.Z.length<=900->(m<1->E (.ref N) none H)->(1<=m->∀ o,CellOf (D.ps.map (·.2)) D.es D.ge t o->∀ D' H',Puts H H' D D' o t v m->RollAt C R H' ro D'->But2 D.dy D.dh H H'->Q (.bl o.isSome) H')->qfj C R N vs H Q E
def qu5 (C R:Addr):Sp:=λvs H Q _=>∃ (ro:Addr) (D:qar),vs=[.ref ro]/\RollAt C R H ro D/\Q (.ref D.ru) H
def qyy (C R:Addr):Sp:=λvs H Q _=>∃ (ro:Addr) (D:qar),vs=[.ref ro]/\RollAt C R H ro D/\Q (.int D.day) H
def qsk (C R:Addr):Sp:=λvs H Q _=>∃ (ro:Addr) (D:qar),vs=[.ref ro]/\RollAt C R H ro D/\∀ p H',New H H' p (.lst (D.es.map V.int ++ [gv D.ge]))->Q (.ref p) H'
def TupAt (H:Hp) (v:V) (r:List Int):Prop:=∃ a,v=.ref a/\H a=some (.tup (r.map V.int))
def Tups (H:Hp) (xs:List V) (rs:List (List Int)):Prop:=Paired (TupAt H) xs rs
theorem TupAt.same {H H':Hp} (s:Same H H') {v:V} {r:List Int}:TupAt H v r->TupAt H' v r:=fun ⟨a,e,h⟩=>⟨a,e,s _ _ h⟩
theorem Tups.same {H H':Hp} (s:Same H H'):∀ {xs:List V} {rs:List (List Int)},Tups H xs rs->Tups H' xs rs
 | _,_,.nil=>.nil
 | _,_,.cons r t=>.cons (r.same s) (Tups.same s t)
theorem Tups.length {H:Hp}:∀ {xs:List V} {rs:List (List Int)},Tups H xs rs->xs.length=rs.length
 | _,_,.nil=>rfl
 | _,_,.cons _ t=>by simp[Tups.length t]
theorem Tups.get {H:Hp}:∀ {xs:List V} {rs:List (List Int)} {i:Nat} {x:V},Tups H xs rs->xs[i]?=some x->∃ r,rs[i]?=some r/\TupAt H x r
 | _,_,_,_,.nil,e=>by simp at e
 | _,_,0,_,.cons r _,e=>by simp at e;subst e;exact ⟨_,rfl,r⟩
 | _,_,i+1,x,.cons _ t,e=>by
  obtain ⟨u,h1,h2⟩:=Tups.get (i:=i) (x:=x) t (by simpa using e);exact ⟨u,by simpa using h1,h2⟩
open PySem L2
abbrev HP4:=Int×Int×Int×Int
structure Abs where
 y:List Int->Option Int
 z:List Int->Option HP4
def mg4 (a b:HP4):HP4:=(a.1+b.1,a.2.1+b.2.1,(if b.2.2.1<a.2.2.1 then b.2.2.1 else a.2.2.1),(if b.2.2.2>a.2.2.2 then b.2.2.2 else a.2.2.2))
def qfv (v m:Int):HP4:=(m,v*m,v,v)
def qdf {α:Type} (f:List Int->Option α) (k:List Int) (x:α):List Int->Option α:=λj=>if j=k then some x else f j
theorem qat {α:Type} (f:List Int->Option α) (k:List Int) (x:α):qdf f k x k=some x:=if_pos rfl
theorem qa7 {α:Type} (f:List Int->Option α) {k j:List Int} (x:α) (h:j≠k):qdf f k x j=f j:=if_neg h
theorem qbg {α:Type} (f:List Int->Option α) (k:List Int) (x y:α):qdf (qdf f k x) k y=qdf f k y:=by
 funext j;unfold qdf;split<;>rfl
theorem qe4 {α:Type} (f:List Int->Option α) {k l:List Int} (x y:α) (h:k≠l):qdf (qdf f k x) l y=qdf (qdf f l y) k x:=by
 funext j;unfold qdf
 by_cases h1:j=k
 ·subst h1;rw[if_neg h,if_pos rfl]
  simp
 ·by_cases h2:j=l
  ·subst h2;simp[h1]
  ·simp[h1,h2]
def qb1 (o:Option HP4) (b:HP4):HP4:=match o with
 | none=>b
 | some a=>mg4 a b
theorem qzn {a b:HP4} (h1:a.1=b.1) (h2:a.2.1=b.2.1) (h3:a.2.2.1=b.2.2.1) (h4:a.2.2.2=b.2.2.2):a=b:=by
 obtain ⟨_,_,_,_⟩:=a;obtain ⟨_,_,_,_⟩:=b
 simp at h1 h2 h3 h4
 simp[h1,h2,h3,h4]
theorem qu6 (a b:HP4):mg4 a b=mg4 b a:=by
 unfold mg4;refine qzn ?_ ?_ ?_ ?_<;>dsimp only
 ·omega
 ·omega
 ·split<;>split<;>omega
 ·split<;>split<;>omega
theorem qsl (h a b:HP4):mg4 (mg4 h a) b=mg4 (mg4 h b) a:=by
 unfold mg4;refine qzn ?_ ?_ ?_ ?_<;>dsimp only
 ·omega
 ·omega
 ·repeat' split
  all_goals omega
 ·repeat' split
  all_goals omega
theorem qfk (o:Option HP4) (a b:HP4):qb1 (some (qb1 o a)) b=qb1 (some (qb1 o b)) a:=by
 cases o with
 | none=>exact qu6 a b
 | some h=>exact qsl h a b
theorem qpr (o:Option HP4) (v m n:Int):qb1 (some (qb1 o (qfv v m))) (qfv v n)=qb1 o (qfv v (m+n)):=by
 have e:v*m+v*n=v*(m+n):=(Int.mul_add v m n).symm
 cases o with
 | none =>
  show mg4 (qfv v m) (qfv v n)=qfv v (m+n)
  unfold mg4 qfv;refine qzn ?_ ?_ ?_ ?_<;>dsimp only
  ·exact e
  ·split<;>rfl
  ·split<;>rfl
 | some h =>
  show mg4 (mg4 h (qfv v m)) (qfv v n)=mg4 h (qfv v (m+n))
  unfold mg4 qfv;refine qzn ?_ ?_ ?_ ?_<;>dsimp only
  ·omega
  ·rw[Int.add_assoc,e]
  ·repeat' split
   all_goals omega
  ·repeat' split
   all_goals omega
abbrev Rd3:=Int×Int×Int
def qcd (cell:Int->Option (Int×Int)) (s:Abs) (r:Rd3):Abs:=match cell r.1 with
 | none=>s
 | some (a,w)=>if w=0 then { s with y:=qdf s.y [r.1,r.2.1] ((s.y [r.1,r.2.1]).getD 0+r.2.2) } else { s with z:=qdf s.z [a,w] (qb1 (s.z [a,w]) (qfv r.2.1 r.2.2)) }
theorem qsm (cell:Int->Option (Int×Int)) (s:Abs) (r q:Rd3):qcd cell (qcd cell s r) q=qcd cell (qcd cell s q) r:=by
 unfold qcd
 cases e1:cell r.1 with
 | none=>cases e2:cell q.1<;>rfl
 | some p =>
  obtain ⟨a,w⟩:=p
  cases e2:cell q.1 with
  | none=>rfl
  | some p2 =>
   obtain ⟨b,u⟩:=p2;dsimp only
   by_cases hw:w=0
   ·by_cases hu:u=0
    ·rw[if_pos hw,if_pos hu,if_pos hu,if_pos hw]
     dsimp only
     by_cases hk:[r.1,r.2.1]=[q.1,q.2.1]
     ·rw[hk,qat,qbg,qat,qbg]
      simp only[Option.getD_some]
      congr 2
      omega
     ·rw[qa7 _ _ (λz=>hk z.symm),qa7 _ _ hk,qe4 _ _ _ hk]
    ·rw[if_pos hw,if_neg hu,if_neg hu,if_pos hw]
   ·by_cases hu:u=0
    ·rw[if_neg hw,if_pos hu,if_pos hu,if_neg hw]
    ·rw[if_neg hw,if_neg hu,if_neg hu,if_neg hw]
     dsimp only
     by_cases hk:[a,w]=[b,u]
     ·rw[hk,qat,qbg,qat,qbg,qfk]
     ·rw[qa7 _ _ (λz=>hk z.symm),qa7 _ _ hk,qe4 _ _ _ hk]
theorem qps (cell:Int->Option (Int×Int)) (s:Abs) (t v m n:Int):qcd cell (qcd cell s (t,v,m)) (t,v,n)=qcd cell s (t,v,m+n):=by
 unfold qcd;dsimp only
 cases e1:cell t with
 | none=>rfl
 | some p =>
  obtain ⟨a,w⟩:=p;dsimp only
  by_cases hw:w=0
  ·rw[if_pos hw,if_pos hw,if_pos hw]
   dsimp only;rw[qat,qbg];simp only[Option.getD_some]
   congr 2
   omega
  ·rw[if_neg hw,if_neg hw,if_neg hw]
   dsimp only;rw[qat,qbg,qpr]
def qpt:Abs:=⟨λ_=>none,λ_=>none⟩
def qcp (cell:Int->Option (Int×Int)) (rs:List Rd3):Abs:=rs.foldl (qcd cell) qpt
theorem qpu (cell:Int->Option (Int×Int)) (rs:List Rd3) (r:Rd3):qcp cell (rs ++ [r])=qcd cell (qcp cell rs) r:=by
 unfold qcp;rw[List.foldl_append];rfl
structure SKeys {α:Type} (f:List Int->Option α) (ms:List (List Int)):Prop where
 srt:ms.Pairwise (λk l=>blt k l=true)
 mem:∀ k,k∈ms↔f k≠none
theorem qj0 {k l:List Int} (h1:blt k l=true) (h2:blt l k=true):False:=by
 have:=qrl k l k h1 h2;rw[qjl] at this;cases this
theorem SKeys.uniq {α:Type} {f:List Int->Option α} {ms ms':List (List Int)} (a:SKeys f ms) (b:SKeys f ms'):ms=ms':=by
 have nd:∀ {l:List (List Int)},l.Pairwise (λk l=>blt k l=true)->l.Nodup:=λh=>h.imp fun {k l} hb e=>by rw[e,qjl] at hb;cases hb
 refine List.Perm.eq_of_pairwise (le:=λk l=>blt k l=true) (λk l _ _ h1 h2=>(qj0 h1 h2).elim) a.srt b.srt ?_;rw[List.perm_ext_iff_of_nodup (nd a.srt) (nd b.srt)];intro k;rw[a.mem,b.mem]
def kI (k:List Int):List Key:=k.map Sum.inl
theorem qhm {k l:List Int} (h:kI k=kI l):k=l:=by
 induction k generalizing l with
 | nil=>cases l with
  | nil=>rfl
  | cons _ _=>cases h
 | cons a r ih=>cases l with
  | nil=>cases h
  | cons b t =>
   unfold kI at h;rw[List.map_cons,List.map_cons] at h;injection h with h1 h2
   injection h1 with h1
   rw[h1,ih h2]
theorem qBo (k:List Int):(kI k).map kV=k.map V.int:=by
 unfold kI;rw[List.map_map];rfl
theorem qod (kvs:KV) (k:List Key) (v:V):(k∈kvs.map (·.1)->(putK kvs k v).map (·.1)=kvs.map (·.1))/\(k ∉ kvs.map (·.1)->(putK kvs k v).map (·.1)=kvs.map (·.1) ++ [k]):=by
 unfold putK
 by_cases h:(kvs.any λkv=>decide (kv.1=k))=true
 ·have hm:k∈kvs.map (·.1):=by
   obtain ⟨x,hx,e⟩:=List.any_eq_true.mp h;exact List.mem_map.mpr ⟨x,hx,by simpa using e⟩
  refine ⟨λ_=>?_,λn=>absurd hm n⟩;rw[if_pos h,List.map_map]
  apply List.map_congr_left
  intro x hx
  show (if x.1=k then (x.1,v) else x).1=x.1
  split<;>rfl
 ·have hm:k ∉ kvs.map (·.1):=λhm=>h (by
   obtain ⟨x,hx,e⟩:=List.mem_map.mp hm;exact List.any_eq_true.mpr ⟨x,hx,by simpa using e⟩)
  refine ⟨λn=>absurd n hm,λ_=>?_⟩;rw[if_neg h,List.map_append];rfl
theorem valV_mem {kvs:KV} {k:List Key}:qcc kvs k≠none↔k∈kvs.map (·.1):=by
 unfold qcc
 constructor
 ·intro h
  cases e:kvs.find? λkv=>decide (kv.1=k) with
  | none=>rw[e] at h;exact absurd rfl h
  | some x =>
   have:=List.find?_some e;exact List.mem_map.mpr ⟨x,List.mem_of_find?_eq_some e,by simpa using this⟩
 ·intro h z
  obtain ⟨x,hx,e⟩:=List.mem_map.mp h;rw[Option.map_eq_none_iff,List.find?_eq_none] at z;exact z x hx (by simpa using e)
structure DKeys (kvs:KV) (ks:List (List Int)):Prop where
 eq:kvs.map (·.1)=ks.map kI
 nd:ks.Nodup
 ne:∀ k∈ks,k.length=2
theorem DKeys.nil:DKeys [] []:=⟨rfl,.nil,λk h=>by cases h⟩
theorem DKeys.put {kvs:KV} {ks:List (List Int)} (h:DKeys kvs ks) (k:List Int) (hk:k.length=2) (v:V):∃ ks',DKeys (putK kvs (kI k) v) ks'/\∀ j,j∈ks'↔j∈ks\/j=k:=by
 have hm:kI k∈kvs.map (·.1)↔k∈ks:=by
  rw[h.eq]
  constructor
  ·intro z
   obtain ⟨j,hj,e⟩:=List.mem_map.mp z;rw[<- qhm e];exact hj
  ·exact λz=>List.mem_map.mpr ⟨k,z,rfl⟩
 by_cases hin:k∈ks
 ·refine ⟨ks,⟨by rw[(qod _ _ _).1 (hm.mpr hin)];exact h.eq,h.nd,h.ne⟩,λj=>⟨.inl,λz=>z.elim id λe=>by rw[e];exact hin⟩⟩
 ·refine ⟨ks ++ [k],⟨by rw[(qod _ _ _).2 (λz=>hin (hm.mp z)),h.eq,List.map_append];rfl,?_,?_⟩,λj=>by simp⟩
  ·rw[List.nodup_append]
   exact ⟨h.nd,List.pairwise_singleton _ _,λa ha b hb e=>by
    rw[List.mem_singleton.mp hb] at e;exact hin (by rw[<- e];exact ha)⟩
  ·intro j hj
   rcases List.mem_append.mp hj with z|z
   ·exact h.ne j z
   ·rw[List.mem_singleton.mp z];exact hk
theorem DKeys.ne' {kvs:KV} {ks:List (List Int)} (h:DKeys kvs ks):∀ k∈ks,k≠[]:=λk hk z=>by
 have:=h.ne k hk;rw[z] at this;cases this
theorem DKeys.mem {kvs:KV} {ks:List (List Int)} (h:DKeys kvs ks) (k:List Int):k∈ks↔qcc kvs (kI k)≠none:=by
 rw[valV_mem,h.eq]
 constructor
 ·exact λz=>List.mem_map.mpr ⟨k,z,rfl⟩
 ·intro z
  obtain ⟨j,hj,e⟩:=List.mem_map.mp z;rw[<- qhm e];exact hj
def v4 (h:HP4):List V:=[.int h.1,.int h.2.1,.int h.2.2.1,.int h.2.2.2]
structure RAbs (H:Hp) (D:qar) (s:Abs) (LY LZ:List (List Int)):Prop where
 yv:∀ k,qcc D.Y (kI k)=(s.y k).map V.int
 yk:∃ ks,DKeys D.Y ks/\ks ⊆ LY
 zn:∀ k,s.z k=none->qcc D.Z (kI k)=none
 zs:∀ k h,s.z k=some h->∃ a,qcc D.Z (kI k)=some (.ref a)/\H a=some (.tup (v4 h))
 zk:∃ ks,DKeys D.Z ks/\ks ⊆ LZ
theorem RAbs.same {H H':Hp} {D:qar} {s:Abs} {LY LZ:List (List Int)} (e:Same H H') (h:RAbs H D s LY LZ):RAbs H' D s LY LZ:=
 ⟨h.yv,h.yk,h.zn,λk x q=>(h.zs k x q).imp λ_ z=>⟨z.1,e _ _ z.2⟩,h.zk⟩
theorem RAbs.tups {H H':Hp} {D:qar} {s:Abs} {LY LZ:List (List Int)} (e:qyv H H') (h:RAbs H D s LY LZ):RAbs H' D s LY LZ:=
 ⟨h.yv,h.yk,h.zn,λk x q=>(h.zs k x q).imp λ_ z=>⟨z.1,e _ _ z.2⟩,h.zk⟩
theorem RAbs.mono {H:Hp} {D:qar} {s:Abs} {LY LZ LY' LZ':List (List Int)} (h:RAbs H D s LY LZ) (a:LY ⊆ LY') (b:LZ ⊆ LZ'):RAbs H D s LY' LZ':=
 ⟨h.yv,h.yk.imp λ_ z=>⟨z.1,λ_ y=>a (z.2 y)⟩,h.zn,h.zs,h.zk.imp λ_ z=>⟨z.1,λ_ y=>b (z.2 y)⟩⟩
theorem RAbs.zero {H:Hp} {D:qar} {LY LZ:List (List Int)} (eY:D.Y=[]) (eZ:D.Z=[]):RAbs H D qpt LY LZ where
 yv:=λk=>by rw[eY];rfl
 yk:=⟨[],by rw[eY];exact DKeys.nil,λ_ z=>by cases z⟩
 zn:=λk _=>by rw[eZ];rfl
 zs:=λk x z=>by cases z
 zk:=⟨[],by rw[eZ];exact DKeys.nil,λ_ z=>by cases z⟩
theorem RAbs.yok {H:Hp} {D:qar} {s:Abs} {LY LZ:List (List Int)} (h:RAbs H D s LY LZ):∀ k x,qcc D.Y (kI k)=some x->∃ n,x=V.int n:=λk x e=>by
 rw[h.yv] at e
 cases e2:s.y k with
 | none=>rw[e2] at e;cases e
 | some n=>rw[e2] at e;exact ⟨n,(Option.some.inj e).symm⟩
theorem qwl {kvs:KV} {ks L:List (List Int)} (h:DKeys kvs ks) (hs:ks ⊆ L):kvs.length<=L.length:=by
 have:=congrArg List.length h.eq;rw[List.length_map,List.length_map] at this;rw[this];exact List.Nodup.length_le_of_subset h.nd hs
open PySem L2
theorem qoe {v m a b lo hi:Int} (h:qn9 [(v,m)] a b lo hi):a=m/\b=v*m/\lo=v/\hi=v:=by
 refine ⟨by rw[h.m];simp[rN,qD1],by rw[h.t];simp[rT,qD2],?_,?_⟩
 ·have:=h.lo;simpa [qtr] using this
 ·have:=h.hi;simpa [qtr] using this
theorem qwm {kvs:KV} {ks:List (List Int)} (h:DKeys kvs ks) {k:List Key} {x:V} (e:qcc kvs k=some x):∃ j,k=kI j:=by
 have:k∈kvs.map (·.1):=valV_mem.mp (by rw[e];simp);rw[h.eq] at this;obtain ⟨j,_,e⟩:=List.mem_map.mp this;exact ⟨j,e.symm⟩
theorem RAbs.YOk {H:Hp} {D:qar} {s:Abs} {LY LZ:List (List Int)} (h:RAbs H D s LY LZ):YOk D.Y:=λk x e=>by
 obtain ⟨ks,d,_⟩:=h.yk;obtain ⟨j,rfl⟩:=qwm d e;exact h.yok j x e
theorem RAbs.ZOk {H:Hp} {D:qar} {s:Abs} {LY LZ:List (List Int)} (h:RAbs H D s LY LZ):ZOk H D.Z:=λk x e=>by
 obtain ⟨ks,d,_⟩:=h.zk;obtain ⟨j,rfl⟩:=qwm d e
 cases ez:s.z j with
 | none=>rw[h.zn j ez] at e;cases e
 | some p =>
  obtain ⟨a,e1,e2⟩:=h.zs j p ez;rw[e] at e1;cases e1;exact ⟨a,p.1,p.2.1,p.2.2.1,p.2.2.2,rfl,e2⟩
theorem RAbs.ylen {H:Hp} {D:qar} {s:Abs} {LY LZ:List (List Int)} (h:RAbs H D s LY LZ):D.Y.length<=LY.length:=by
 obtain ⟨ks,d,e⟩:=h.yk;exact qwl d e
theorem RAbs.zlen {H:Hp} {D:qar} {s:Abs} {LY LZ:List (List Int)} (h:RAbs H D s LY LZ):D.Z.length<=LZ.length:=by
 obtain ⟨ks,d,e⟩:=h.zk;exact qwl d e
def qD4 (cell:Int->Option (Int×Int)) (r:Rd3):List Int:=match cell r.1 with
 | none=>[]
 | some (a,w)=>[a,w]
theorem RAbs.put {H H':Hp} {D D':qar} {o:Option (Int×Int)} {t v m:Int} {s:Abs} {LY LZ:List (List Int)} {cell:Int->Option (Int×Int)} (h:RAbs H D s LY LZ) (hp:Puts H H' D D' o t v m) (eo:cell t=o) (ts:qyv H H')
  (hy:[t,v]∈LY) (hz:∀ a w,o=some (a,w)->[a,w]∈LZ):RAbs H' D' (qcd cell s (t,v,m)) LY LZ:=by
 have h2:=h.tups ts;unfold qcd;dsimp only
 rcases hp with ⟨rfl,rfl⟩|⟨rfl,rfl⟩|⟨a,w,b,m1,t1,lo1,hi1,rfl,hw,rfl,hb,po⟩
 ·rw[eo];exact h2
 ·rw[eo]
  dsimp only;rw[if_pos rfl];have ey:TB.yv D.Y (kk t v)=(s.y [t,v]).getD 0:=by
   unfold TB.yv;have:=h.yv [t,v];rw[show kk t v=kI [t,v] from rfl,this]
   cases s.y [t,v]<;>rfl
  refine ⟨λk=>?_,?_,h2.zn,h2.zs,h2.zk⟩
  ·show qcc (putK D.Y (kI [t,v]) _) (kI k)=(qdf s.y [t,v] ((s.y [t,v]).getD 0+m) k).map V.int
   rw[qet,ey]
   by_cases hk:k=[t,v]
   ·subst hk;rw[if_pos rfl,qat];rfl
   ·rw[if_neg (λz=>hk (qhm z)),qa7 _ _ hk];exact h.yv k
  ·obtain ⟨ks,d,e⟩:=h.yk
   obtain ⟨ks',d',e'⟩:=d.put [t,v] rfl (V.int (TB.yv D.Y (kk t v)+m));exact ⟨ks',d',λj hj=>(e' j).mp hj |>.elim (λz=>e z) λz=>by rw[z];exact hy⟩
 ·rw[eo]
  dsimp only;rw[if_neg (by omega)];have ev:(m1,t1,lo1,hi1)=qb1 (s.z [a,w]) (qfv v m):=by
   rcases po with ⟨p1,p2⟩|⟨h0,m0,t0,lo0,hi0,a',b',lo',hi',p1,p2,p3,rfl,rfl,rfl,rfl⟩
   ·obtain ⟨rfl,rfl,rfl,rfl⟩:=qoe p2
    cases ez:s.z [a,w] with
    | none=>rfl
    | some q =>
     obtain ⟨_,e1,_⟩:=h.zs _ q ez;rw[show kk a w=kI [a,w] from rfl,e1] at p1;cases p1
   ·obtain ⟨rfl,rfl,rfl,rfl⟩:=qoe p3
    cases ez:s.z [a,w] with
    | none =>
     have:=h.zn _ ez;rw[show kk a w=kI [a,w] from rfl,this] at p1;cases p1
    | some q =>
     obtain ⟨_,e1,e2⟩:=h.zs _ q ez;rw[show kk a w=kI [a,w] from rfl,e1] at p1;cases p1;rw[p2] at e2;have e3:[V.int m0,V.int t0,V.int lo0,V.int hi0]=v4 q:=by injection e2 with e2;injection e2
     unfold v4 at e3;injection e3 with c1 e3
     injection e3 with c2 e3
     injection e3 with c3 e3
     injection e3 with c4 e3
     injection c1 with c1
     injection c2 with c2
     injection c3 with c3
     injection c4 with c4
     subst c1 c2 c3 c4
     rfl
  have hb':H' b=some (.tup (v4 (qb1 (s.z [a,w]) (qfv v m)))):=by rw[<- ev];exact hb
  refine ⟨h2.yv,h2.yk,λk hk=>?_,λk q hk=>?_,?_⟩
  ·have hk:qdf s.z [a,w] (qb1 (s.z [a,w]) (qfv v m)) k=none:=hk
   show qcc (putK D.Z (kI [a,w]) _) (kI k)=_
   rw[qet]
   by_cases hk2:k=[a,w]
   ·subst hk2;rw[qat] at hk;cases hk
   ·rw[if_neg (λz=>hk2 (qhm z))]
    rw[qa7 _ _ hk2] at hk;exact h.zn k hk
  ·have hk:qdf s.z [a,w] (qb1 (s.z [a,w]) (qfv v m)) k=some q:=hk
   show ∃ c,qcc (putK D.Z (kI [a,w]) (.ref b)) (kI k)=some (.ref c)/\_
   rw[qet]
   by_cases hk2:k=[a,w]
   ·subst hk2
    rw[qat] at hk;cases hk;exact ⟨b,if_pos rfl,hb'⟩
   ·rw[qa7 _ _ hk2] at hk
    rw[if_neg (λz=>hk2 (qhm z))];exact h2.zs k q hk
  ·obtain ⟨ks,d,e⟩:=h.zk
   obtain ⟨ks',d',e'⟩:=d.put [a,w] rfl (V.ref b);exact ⟨ks',d',λj hj=>(e' j).mp hj |>.elim (λz=>e z) λz=>by rw[z];exact hz a w rfl⟩
inductive qof (C R:Addr) (vs:List V) (H:Hp) (Q:VK) (E_:XK):Prop
 | mk:∀ (ro:Addr) (D:qar) (t v m:Int),vs=[.ref ro,.int t,.int v,.int m]->RollAt C R H ro D->qdl D->qpq t->1<=m->qu4 (v,m)->TB.YOk D.Y->TB.ZOk H D.Z->D.Y.length<=900->D.Z.length<=900->(∀ o,CellOf (D.ps.map (·.2)) D.es D.ge t o->∀ D' H',Puts H H' D D' o t v m->RollAt C R H' ro D'->But2 D.dy D.dh H H'->Q (.bl o.isSome) H')->qof C R vs H Q E_
def qog (s:Abs) (k:List Int):List Int:=k ++ [(s.y k).getD 0]
def i4 (h:HP4):List Int:=[h.1,h.2.1,h.2.2.1,h.2.2.2]
def qpv (s:Abs) (k:List Int):List Int:=k ++ i4 ((s.z k).getD (0,0,0,0))
def qBp {α:Type} (f:List Int->Option α) (row:List Int->List Int) (rs:List (List Int)):Prop:=∃ ms,SKeys f ms/\rs.Perm (ms.map row)
inductive qhn (C R:Addr) (vs:List V) (H:Hp) (Q:VK) (E_:XK):Prop
 | mk:∀ (ro:Addr) (D:qar) (s:Abs) (LY LZ:List (List Int)),vs=[.ref ro]->RollAt C R H ro D->RAbs H D s LY LZ->LY.length<900->(∀ l xs rs H',Same H H'->H l=none->H' l=some (.lst xs)->qBp s.y (qog s) rs->rs.length<900->Tups H' xs rs->Q (.ref l) H')->qhn C R vs H Q E_
inductive qe5 (C R:Addr) (vs:List V) (H:Hp) (Q:VK) (E_:XK):Prop
 | mk:∀ (ro:Addr) (D:qar) (s:Abs) (LY LZ:List (List Int)),vs=[.ref ro]->RollAt C R H ro D->RAbs H D s LY LZ->LZ.length<900->(∀ l xs rs H',Same H H'->H l=none->H' l=some (.lst xs)->qBp s.z (qpv s) rs->rs.length<900->Tups H' xs rs->Q (.ref l) H')->qe5 C R vs H Q E_
theorem Tups.snoc {H:Hp} {v:V} {r:List Int} (h:TupAt H v r):∀ {xs:List V} {rs:List (List Int)},Tups H xs rs->Tups H (xs ++ [v]) (rs ++ [r])
 | _,_,.nil=>.cons h .nil
 | _,_,.cons q t=>.cons q (Tups.snoc h t)
open PySem L2
theorem qsn {K:Frag} {H:Hp} (g:Option Int):Rep K H (gv g) (dV (gv g)):=by
 cases g with
 | none=>exact .non
 | some z=>exact .int z
theorem qwn (g:Option Int):(dV (gv g)).canLay0=true:=by cases g<;>rfl
theorem qBq (g:Option Int):(dV (gv g)).depth<=20:=by cases g<;>simp[dV,gv,PyData.depth]
def ROk (r:Rd3):Prop:=qpq r.1/\qu4 (r.2.1,r.2.2)
def l3 (r:Rd3):List Int:=[r.1,r.2.1,r.2.2]
open Classical in
noncomputable def qbi (ws es:List Int) (ge:Option Int) (t:Int):Option (Int×Int):=if h:∃ o,CellOf ws es ge t o then h.choose else none
theorem qj1 {ws es:List Int} {ge:Option Int} {t:Int} {o:Option (Int×Int)} (hl:1<=es.length) (h:CellOf ws es ge t o):qbi ws es ge t=o:=by
 have hx:∃ o,CellOf ws es ge t o:=⟨o,h⟩;unfold qbi;rw[dif_pos hx];exact CellOf.uniq (e0:=es[0]) (List.getElem?_eq_getElem (by omega)) hx.choose_spec h
def dd (Y Z:KV):qar:=⟨0,0,0,0,0,[],none,0,[],none,Y,Z⟩
open PySem L2
def RR (C R:Addr) (H:Hp) (ro:Addr) (c:qar) (s:Abs) (LY LZ:List (List Int)):Prop:=
 ∃ Y Z,RollAt C R H ro { c with Y:=Y,Z:=Z }/\RAbs H { c with Y:=Y,Z:=Z } s LY LZ
theorem RR.same {C R:Addr} {H H':Hp} {ro:Addr} {c:qar} {s:Abs} {LY LZ:List (List Int)} (e:Same H H') (h:RR C R H ro c s LY LZ):RR C R H' ro c s LY LZ:=
 let ⟨Y,Z,a,b⟩:=h;⟨Y,Z,a.same e,b.same e⟩
theorem But2.tups {H H':Hp} {a b:Addr} {Y Z:KV} (h:But2 a b H H') (ha:H a=some (.dT Y)) (hb:H b=some (.dT Z)):qyv H H':=λx xs e =>
 h x _ e (qap e ha (by intro z;cases z)) (qap e hb (by intro z;cases z))
theorem But2.keep {H H':Hp} {a b:Addr} {Y Z:KV} (h:But2 a b H H') (ha:H a=some (.dT Y)) (hb:H b=some (.dT Z)) {x:Addr} {o:HO} (e:H x=some o) (n:∀ K,o≠.dT K):H' x=some o:=
 h x _ e (qap e ha (n _)) (qap e hb (n _))
theorem But2.trans {H H1 H2:Hp} {a b:Addr} (h:But2 a b H H1) (h2:But2 a b H1 H2):But2 a b H H2:=λx o e n m=>h2 x o (h x o e n m) n m
theorem But2.refl (a b:Addr) (H:Hp):But2 a b H H:=λ_ _ e _ _=>e
theorem RuleAt.keep2 {C:Addr} {H H':Hp} {r l a b:Addr} {ps:List (Int×Int)} {g:Option Int} {Y Z:KV} (h:RuleAt C H r l ps g) (e:But2 a b H H') (ha:H a=some (.dT Y)) (hb:H b=some (.dT Z)):RuleAt C H' r l ps g:=by
 obtain ⟨dx,e1⟩:=h.ob;obtain ⟨xs,e2,p⟩:=h.ls;exact ⟨⟨dx,e.keep ha hb e1 (by intro K z;cases z)⟩,xs,e.keep ha hb e2 (by intro K z;cases z),p.tupS (e.tups ha hb)⟩
theorem RR.frame {C R:Addr} {H H':Hp} {ro:Addr} {c:qar} {s:Abs} {LY LZ:List (List Int)} {a b:Addr} {Y Z:KV} (h:RR C R H ro c s LY LZ) (e:But2 a b H H') (ha:H a=some (.dT Y)) (hb:H b=some (.dT Z))
  (n1:c.dy≠a) (n2:c.dy≠b) (n3:c.dh≠a) (n4:c.dh≠b):RR C R H' ro c s LY LZ:=by
 obtain ⟨Y',Z',A,B⟩:=h;obtain ⟨dx,e1⟩:=A.ob;exact ⟨Y',Z',⟨⟨dx,e.keep ha hb e1 (by intro K z;cases z)⟩,A.rule.keep2 e ha hb,e.keep ha hb A.ed (by intro K z;cases z),e _ _ A.yo n1 n2,e _ _ A.he n3 n4,A.ne⟩,B.tups (e.tups ha hb)⟩
theorem RR.dicts {C R:Addr} {H:Hp} {ro:Addr} {c:qar} {s:Abs} {LY LZ:List (List Int)} (h:RR C R H ro c s LY LZ):(∃ Y,H c.dy=some (.dT Y))/\∃ Z,H c.dh=some (.dT Z):=
 let ⟨_,_,A,_⟩:=h;⟨⟨_,A.yo⟩,⟨_,A.he⟩⟩
theorem RR.obj {C R:Addr} {H:Hp} {ro:Addr} {c:qar} {s:Abs} {LY LZ:List (List Int)} (h:RR C R H ro c s LY LZ):∃ dx,H ro=some (.ins C dx (rof c.ru c.day c.le c.dy c.dh)):=
 let ⟨_,_,A,_⟩:=h;A.ob
noncomputable abbrev cellD (c:qar):Int->Option (Int×Int):=qbi (c.ps.map (·.2)) c.es c.ge
theorem RR.put {C R:Addr} {H:Hp} {ro:Addr} {c:qar} {s:Abs} {LY LZ:List (List Int)} {t v m:Int} {Q:VK} {E:XK} (h:RR C R H ro c s LY LZ) (ok:qdl c) (hr:qpq t) (h1:1<=m) (hb:qu4 (v,m)) (ly:LY.length<200) (lz:LZ.length<200)
  (hy:[t,v]∈LY) (hz:∀ a w,cellD c t=some (a,w)->[a,w]∈LZ)
  (q:∀ H',RR C R H' ro c (qcd (cellD c) s (t,v,m)) LY LZ->But2 c.dy c.dh H H'->Q (.bl (cellD c t).isSome) H'):qof C R [.ref ro,.int t,.int v,.int m] H Q E:=by
 obtain ⟨Y,Z,A,B⟩:=h;have hes:1<=c.es.length:=by rw[ok.es];exact ok.pr.good.lo
 refine ⟨ro,_,t,v,m,rfl,A,⟨ok.pr,ok.es⟩,hr,h1,hb,B.YOk,B.ZOk,Nat.le_trans B.ylen (by omega),Nat.le_trans B.zlen (by omega),λo hc D' H' pu A' b'=>?_⟩;have eo:cellD c t=o:=qj1 hes hc;rw[<- eo];have B':=B.put pu eo (b'.tups A.yo A.he) hy (λa w e=>hz a w (eo.trans e));refine q H' ?_ b'
 rcases pu with ⟨_,rfl⟩|⟨_,rfl⟩|⟨_,_,_,_,_,_,_,_,_,rfl,_,_⟩
 ·exact ⟨Y,Z,A',B'⟩
 ·exact ⟨_,Z,A',B'⟩
 ·exact ⟨Y,_,A',B'⟩
open Classical in
noncomputable def qcl (s:Abs):List (List Int):=if h:∃ ms,SKeys s.y ms then h.choose.map (qog s) else []
open Classical in
noncomputable def qce (s:Abs):List (List Int):=if h:∃ ms,SKeys s.z ms then h.choose.map (qpv s) else []
theorem qc3 {s:Abs} {ms:List (List Int)} (h:SKeys s.y ms):ms.map (qog s)=qcl s:=by
 have hx:∃ ms,SKeys s.y ms:=⟨ms,h⟩;unfold qcl;rw[dif_pos hx,SKeys.uniq h hx.choose_spec]
theorem qc4 {s:Abs} {ms:List (List Int)} (h:SKeys s.z ms):ms.map (qpv s)=qce s:=by
 have hx:∃ ms,SKeys s.z ms:=⟨ms,h⟩;unfold qce;rw[dif_pos hx,SKeys.uniq h hx.choose_spec]
theorem RR.young {C R:Addr} {H:Hp} {ro:Addr} {c:qar} {s:Abs} {LY LZ:List (List Int)} {Q:VK} {E:XK} (h:RR C R H ro c s LY LZ) (ly:LY.length<900)
  (q:∀ l xs rs H',Same H H'->H l=none->H' l=some (.lst xs)->Tups H' xs rs->rs.Perm (qcl s)->rs.length<=900->Q (.ref l) H'):qhn C R [.ref ro] H Q E:=by
 obtain ⟨Y,Z,A,B⟩:=h;refine ⟨ro,_,s,LY,LZ,rfl,A,B,ly,λl xs rs H' e f hl ⟨ms,sk,pm⟩ hm tu=>?_⟩;rw[qc3 sk] at pm;exact q l xs rs H' e f hl tu pm (by omega)
theorem RR.heaps {C R:Addr} {H:Hp} {ro:Addr} {c:qar} {s:Abs} {LY LZ:List (List Int)} {Q:VK} {E:XK} (h:RR C R H ro c s LY LZ) (ly:LZ.length<900)
  (q:∀ l xs rs H',Same H H'->H l=none->H' l=some (.lst xs)->Tups H' xs rs->rs.Perm (qce s)->rs.length<=900->Q (.ref l) H'):qe5 C R [.ref ro] H Q E:=by
 obtain ⟨Y,Z,A,B⟩:=h;refine ⟨ro,_,s,LY,LZ,rfl,A,B,ly,λl xs rs H' e f hl ⟨ms,sk,pm⟩ hm tu=>?_⟩;rw[qc4 sk] at pm;exact q l xs rs H' e f hl tu pm (by omega)
theorem qlh {α β:Type} {f:α->β->α} (hc:∀ s a b,f (f s a) b=f (f s b) a) {xs ys:List β} (h:xs.Perm ys):∀ s,xs.foldl f s=ys.foldl f s:=by
 induction h with
 | nil=>intro s;rfl
 | cons x _ ih=>intro s;exact ih _
 | swap x y l=>intro s;simp only[List.foldl_cons];rw[hc]
 | trans _ _ ih1 ih2=>intro s;rw[ih1,ih2]
open PySem L2
def qcw (cell:Int->Option (Int×Int)) (s:Abs) (a:Int) (x:HP4):Abs:=match cell a with
 | none=>s
 | some (b,w)=>{ s with z:=qdf s.z [b,w] (qb1 (s.z [b,w]) x) }
def qso (H:Hp) (Z:KV) (k:List Key) (x y:HP4):Prop:=
 (qcc Z k=none/\y=x)\/∃ (h0:Addr) (x0:HP4),qcc Z k=some (.ref h0)/\H h0=some (.tup (v4 x0))/\y=mg4 x0 x
theorem qwo {x y:HP4} (h:v4 x=v4 y):x=y:=by
 unfold v4 at h;injection h with h1 h
 injection h with h2 h
 injection h with h3 h
 injection h with h4 _
 injection h1 with h1
 injection h2 with h2
 injection h3 with h3
 injection h4 with h4
 exact qzn h1 h2 h3 h4
theorem RAbs.pour {H H':Hp} {D:qar} {a w:Int} {b:Addr} {x y:HP4} {s:Abs} {LY LZ:List (List Int)} (h:RAbs H D s LY LZ) (po:qso H D.Z (kk a w) x y) (hb:H' b=some (.tup (v4 y))) (ts:qyv H H') (hz:[a,w]∈LZ) :
  RAbs H' { D with Z:=putK D.Z (kk a w) (.ref b) } { s with z:=qdf s.z [a,w] (qb1 (s.z [a,w]) x) } LY LZ:=by
 have h2:=h.tups ts;have ev:y=qb1 (s.z [a,w]) x:=by
  rcases po with ⟨p1,p2⟩|⟨h0,x0,p1,p2,p3⟩
  ·cases ez:s.z [a,w] with
   | none=>exact p2
   | some q =>
    obtain ⟨_,e1,_⟩:=h.zs _ q ez;rw[show kk a w=kI [a,w] from rfl,e1] at p1;cases p1
  ·cases ez:s.z [a,w] with
   | none =>
    have:=h.zn _ ez;rw[show kk a w=kI [a,w] from rfl,this] at p1;cases p1
   | some q =>
    obtain ⟨_,e1,e2⟩:=h.zs _ q ez;rw[show kk a w=kI [a,w] from rfl,e1] at p1;cases p1;rw[p2] at e2;have e3:v4 x0=v4 q:=by injection e2 with e2;injection e2
    rw[p3,qwo e3]
    rfl
 subst ev;refine ⟨h2.yv,h2.yk,λk hk=>?_,λk q hk=>?_,?_⟩
 ·have hk:qdf s.z [a,w] (qb1 (s.z [a,w]) x) k=none:=hk
  show qcc (putK D.Z (kI [a,w]) _) (kI k)=_
  rw[qet]
  by_cases hk2:k=[a,w]
  ·subst hk2;rw[qat] at hk;cases hk
  ·rw[if_neg (λz=>hk2 (qhm z))]
   rw[qa7 _ _ hk2] at hk;exact h.zn k hk
 ·have hk:qdf s.z [a,w] (qb1 (s.z [a,w]) x) k=some q:=hk
  show ∃ c,qcc (putK D.Z (kI [a,w]) (.ref b)) (kI k)=some (.ref c)/\_
  rw[qet]
  by_cases hk2:k=[a,w]
  ·subst hk2
   rw[qat] at hk;cases hk;exact ⟨b,if_pos rfl,hb⟩
  ·rw[qa7 _ _ hk2] at hk
   rw[if_neg (λz=>hk2 (qhm z))];exact h2.zs k q hk
 ·obtain ⟨ks,d,e⟩:=h.zk
  obtain ⟨ks',d',e'⟩:=d.put [a,w] rfl (V.ref b);exact ⟨ks',d',λj hj=>(e' j).mp hj |>.elim (λz=>e z) λz=>by rw[z];exact hz⟩
def qcf (cell:Int->Option (Int×Int)) (s:Abs):List Int->Abs
 | [t,v,m]=>qcd cell s (t,v,m)
 | _=>s
def qbo (cell:Int->Option (Int×Int)) (s:Abs):List Int->Abs
 | [a,_,m,t,lo,hi]=>qcw cell s a (m,t,lo,hi)
 | _=>s
def qeh (cell:Int->Option (Int×Int)) (s:Abs) (Y Z:List (List Int)):Abs:=Z.foldl (qbo cell) (Y.foldl (qcf cell) s)
inductive qli (C R:Addr) (vs:List V) (H:Hp) (Q:VK) (E_:XK):Prop
 | mk:∀ (ro:Addr) (D:qar) (c h:Addr) (s w:Int) (x:HP4),vs=[.ref ro,.ref c,.ref h]->RollAt C R H ro D->H c=some (.tup [.int s,.int w])->H h=some (.tup (v4 x))->ZOk H D.Z->D.Z.length<=900->(∀ h2 y H',H' h2=some (.tup (v4 y))->qso H D.Z (kk s w) x y->RollAt C R H' ro { D with Z:=putK D.Z (kk s w) (.ref h2) }->But D.dh H H'->Q .non H')->qli C R vs H Q E_
inductive qoh (C R:Addr) (vs:List V) (H:Hp) (Q:VK) (E_:XK):Prop
 | mk:∀ (ro:Addr) (c:qar) (s:Abs) (LY LZ:List (List Int)) (a:Int) (h:Addr) (x:HP4),vs=[.ref ro,.int a,.ref h]->RR C R H ro c s LY LZ->qdl c->qpq a->H h=some (.tup (v4 x))->LZ.length<200->(∀ b w,cellD c a=some (b,w)->[b,w]∈LZ)->(∀ H',RR C R H' ro c (qcw (cellD c) s a x) LY LZ->But2 c.dy c.dh H H'->Q .non H')->qoh C R vs H Q E_
structure TakeOk (cell:Int->Option (Int×Int)) (LY LZ Y Z:List (List Int)):Prop where
 y:∀ r∈Y,∃ t v m,r=[t,v,m]/\ROk (t,v,m)/\[t,v]∈LY/\∀ a w,cell t=some (a,w)->[a,w]∈LZ
 z:∀ r∈Z,∃ a w m t lo hi,r=[a,w,m,t,lo,hi]/\qpq a/\∀ b w,cell a=some (b,w)->[b,w]∈LZ
def ApartD (c d:qar):Prop:=c.dy≠d.dy/\c.dy≠d.dh/\c.dh≠d.dy/\c.dh≠d.dh
inductive qc5 (C R:Addr) (vs:List V) (H:Hp) (Q:VK) (E_:XK):Prop
 | mk:∀ (ro r2:Addr) (c c2:qar) (s s2:Abs) (LY LZ LY2 LZ2:List (List Int)),vs=[.ref ro,.ref r2]->RR C R H ro c s LY LZ->RR C R H r2 c2 s2 LY2 LZ2->qdl c->ApartD c2 c->LY.length<200->LZ.length<200->LY2.length<900->LZ2.length<900->TakeOk (cellD c) LY LZ (qcl s2) (qce s2)->(∀ H',RR C R H' ro c (qeh (cellD c) s (qcl s2) (qce s2)) LY LZ->But2 c.dy c.dh H H'->Q .non H')->qc5 C R vs H Q E_
open PySem L2
theorem SKeys.nd {α:Type} {f:List Int->Option α} {ms:List (List Int)} (h:SKeys f ms):ms.Nodup:=h.srt.imp fun {k l} hb e=>by rw[e,qjl] at hb;cases hb
open PySem L2
theorem qdm {ws es:List Int} {ge:Option Int} (hw:1<=ws.length) (he:1<=es.length) (t:Int):CellOf ws es ge t (qbi ws es ge t):=by
 obtain ⟨o,h⟩:∃ o,CellOf ws es ge t o:=by
  by_cases c:es[0]<=t
  ·exact ⟨some (t,0),λe0 h0=>⟨λ_=>rfl,λz=>by rw[List.getElem?_eq_getElem (by omega)] at h0;have:=Option.some.inj h0;omega⟩⟩
  ·by_cases hg:qb6 ge t
   ·exact ⟨none,λe0 h0=>⟨λz=>by rw[List.getElem?_eq_getElem (by omega)] at h0;have:=Option.some.inj h0;omega,λ_=>⟨λ_=>rfl,λz=>absurd hg z⟩⟩⟩
   ·have hn:=qBg (ws:=ws) (es:=es) (t:=t) (w0:=ws[0]) (e0:=es[0]) (List.getElem?_eq_getElem (by omega)) (List.getElem?_eq_getElem (by omega)) (by omega)
    refine ⟨some (t / (wl ws es t)[(wl ws es t).length-1]*(wl ws es t)[(wl ws es t).length-1],(wl ws es t)[(wl ws es t).length-1]),λe0 h0=>⟨λz=>by rw[List.getElem?_eq_getElem (by omega)] at h0;have:=Option.some.inj h0;omega,λ_=>⟨λz=>absurd z hg,λ_=>⟨_,List.getElem?_eq_getElem (by omega),rfl⟩⟩⟩⟩
 rw[qj1 he h];exact h
theorem qoi {e t w:Int} (hw:1<=w) (h:w ∣ e) (hl:e<=t):e<=t / w*w:=by
 obtain ⟨k,rfl⟩:=h;have:k<=t / w:=(Int.le_ediv_iff_mul_le (by omega)).mpr (by rw[Int.mul_comm];exact hl);rw[Int.mul_comm w k];exact Int.mul_le_mul_of_nonneg_right this (by omega)
def qCi (W:Int) (cell:Int->Option (Int×Int)):Prop:=∀ t a w,cell t=some (a,w)->a<=t/\t-W<=a
theorem qsp {ws es:List Int} {ge:Option Int} {W:Int} (hw:1<=ws.length) (he:1<=es.length) (hW:0<=W) (hb:∀ w∈ws,1<=w/\w<=W):qCi W (qbi ws es ge):=λt a w e=>by
 have h:=qdm (ge:=ge) hw he t;rw[e] at h;obtain ⟨h1,h2⟩:=h es[0] (List.getElem?_eq_getElem (by omega))
 by_cases c:es[0]<=t
 ·have:=h1 c
  cases this;omega
 ·obtain ⟨g1,g2⟩:=h2 (by omega)
  by_cases hg:qb6 ge t
  ·cases g1 hg
  ·obtain ⟨w',hl,e2⟩:=g2 hg
   cases e2;have:=hb w (qsf (List.mem_of_getElem? hl));have h1:=Int.ediv_mul_le t (b:=w) (by omega);have h2:=Int.lt_ediv_add_one_mul_self t (b:=w) (by omega);rw[Int.add_mul,Int.one_mul] at h2;omega
open PySem L2
def qwp (cell:Int->Option (Int×Int)) (r:Rd3):List Int:=match cell r.1 with
 | none=>[]
 | some (a,w)=>if w=0 then [0,r.1,r.2.1] else [1,a,w]
def Tags (cell:Int->Option (Int×Int)) (s:Abs) (L:List Rd3):Prop:=(∀ k,s.y k≠none->∃ r∈L,qwp cell r=0 :: k)/\∀ k,s.z k≠none->∃ r∈L,qwp cell r=1 :: k
theorem Tags.put {cell:Int->Option (Int×Int)} {s:Abs} {L:List Rd3} (h:Tags cell s L) (r:Rd3):Tags cell (qcd cell s r) (L ++ [r]):=by
 have up:∀ {x:List Int},(∃ r∈L,qwp cell r=x)->∃ q∈L ++ [r],qwp cell q=x:=fun ⟨q,hq,e⟩=>⟨q,List.mem_append_left _ hq,e⟩
 have me:r∈L ++ [r]:=List.mem_append_right _ List.mem_cons_self;unfold qcd
 rcases e:cell r.1 with _|⟨a,w⟩
 ·exact ⟨λk hk=>up (h.1 k hk),λk hk=>up (h.2 k hk)⟩
 ·dsimp only
  split
  ·rename_i hw
   refine ⟨λk hk=>?_,λk hk=>up (h.2 k hk)⟩
   by_cases ek:k=[r.1,r.2.1]
   ·exact ⟨r,me,by unfold qwp;rw[e];dsimp only;rw[if_pos hw,ek]⟩
   ·have hk:qdf s.y [r.1,r.2.1] _ k≠none:=hk
    rw[qa7 _ _ ek] at hk;exact up (h.1 k hk)
  ·rename_i hw
   refine ⟨λk hk=>up (h.1 k hk),λk hk=>?_⟩
   by_cases ek:k=[a,w]
   ·exact ⟨r,me,by unfold qwp;rw[e];dsimp only;rw[if_neg hw,ek]⟩
   ·have hk:qdf s.z [a,w] _ k≠none:=hk
    rw[qa7 _ _ ek] at hk;exact up (h.2 k hk)
theorem Tags.puts {cell:Int->Option (Int×Int)}:∀ (rs:List Rd3) {s:Abs} {L:List Rd3},Tags cell s L->Tags cell (rs.foldl (qcd cell) s) (L ++ rs)
 | [],_,L,h=>by rw[List.append_nil];exact h
 | r :: t,s,L,h=>by
  have:=Tags.puts t (h.put r);rw[List.append_assoc] at this;exact this
theorem qsq (cell:Int->Option (Int×Int)) (rs:List Rd3):Tags cell (qcp cell rs) rs:=Tags.puts rs (L:=[]) ⟨λ_ h=>absurd rfl h,λ_ h=>absurd rfl h⟩
theorem qyz {cell:Int->Option (Int×Int)} {s:Abs} {rs:List Rd3} {my mz:List (List Int)} (tg:Tags cell s rs) (hy:SKeys s.y my) (hz:SKeys s.z mz):my.length+mz.length<=rs.length:=by
 have nd:(my.map (λk=>(0:Int) :: k) ++ mz.map (λk=>(1:Int) :: k)).Nodup:=by
  rw[List.nodup_append];refine ⟨?_,?_,λa ha b hb e=>?_⟩
  ·rw[List.nodup_iff_pairwise_ne,List.pairwise_map];exact hy.nd.imp λhne e=>hne (by injection e)
  ·rw[List.nodup_iff_pairwise_ne,List.pairwise_map];exact hz.nd.imp λhne e=>hne (by injection e)
  ·obtain ⟨k,_,rfl⟩:=List.mem_map.mp ha
   obtain ⟨l,_,rfl⟩:=List.mem_map.mp hb;injection e with e _
   omega
 have sub:(my.map (λk=>(0:Int) :: k) ++ mz.map (λk=>(1:Int) :: k)) ⊆ rs.map (qwp cell):=λx hx=>by
  rcases List.mem_append.mp hx with h|h
  ·obtain ⟨k,hk,rfl⟩:=List.mem_map.mp h
   obtain ⟨r,hr,e⟩:=tg.1 k ((hy.mem k).mp hk);exact List.mem_map.mpr ⟨r,hr,e⟩
  ·obtain ⟨k,hk,rfl⟩:=List.mem_map.mp h
   obtain ⟨r,hr,e⟩:=tg.2 k ((hz.mem k).mp hk);exact List.mem_map.mpr ⟨r,hr,e⟩
 have:=List.Nodup.length_le_of_subset nd sub
 simpa using this
structure AbsB (B N:Int) (s:Abs):Prop where
 y:∀ k n,s.y k=some n->∃ t v,k=[t,v]/\(-B<=t/\t<=B)/\(-(10 ^ 51)<v/\v<10 ^ 51)/\1<=n/\n<=N
 z:∀ k x,s.z k=some x->∃ a w,k=[a,w] /\ -B<=a/\a<=B
theorem qDk {B N:Int}:AbsB B N qpt:=⟨(λ_ _ h=>by cases h),(λ_ _ h=>by cases h)⟩
theorem AbsB.put {B W N M:Int} {cell:Int->Option (Int×Int)} (cn:qCi W cell) {s:Abs} (h:AbsB B N s) (hN:0<=N) (hM:0<=M) {r:Rd3} (ht:-B<=r.1-W/\r.1<=B) (hW:0<=W) (hv:-(10 ^ 51)<r.2.1/\r.2.1<10 ^ 51) (hm:1<=r.2.2/\r.2.2<=M):AbsB B (N+M) (qcd cell s r):=by
 have h':AbsB B (N+M) s:=⟨λk n e=>by obtain ⟨t,v,e1,e2,e3,e4,e5⟩:=h.y k n e;exact ⟨t,v,e1,e2,e3,e4,by omega⟩,h.z⟩;unfold qcd
 rcases e:cell r.1 with _|⟨a,w⟩
 ·exact h'
 ·dsimp only
  split
  ·refine ⟨λk n hk=>?_,h'.z⟩
   have hk:qdf s.y [r.1,r.2.1] _ k=some n:=hk
   by_cases ek:k=[r.1,r.2.1]
   ·rw[ek,qat] at hk
    have hk:=Option.some.inj hk;refine ⟨r.1,r.2.1,ek,by omega,hv,?_⟩
    cases e2:s.y [r.1,r.2.1] with
    | none=>rw[e2] at hk;simp at hk;omega
    | some n0 =>
     obtain ⟨_,_,_,_,_,e4,e5⟩:=h.y _ _ e2;rw[e2] at hk
     simp at hk
     omega
   ·rw[qa7 _ _ ek] at hk;exact h'.y k n hk
  ·refine ⟨h'.y,λk x hk=>?_⟩
   have hk:qdf s.z [a,w] _ k=some x:=hk
   by_cases ek:k=[a,w]
   ·have:=cn _ _ _ e
    exact ⟨a,w,ek,by omega,by omega⟩
   ·rw[qa7 _ _ ek] at hk;exact h'.z k x hk
def RLt (r:Rd3):Prop:=(-(5*10 ^ 45)<=r.1/\r.1<=5*10 ^ 45)/\(-(10 ^ 51)<r.2.1/\r.2.1<10 ^ 51)/\1<=r.2.2/\r.2.2<=10 ^ 31
theorem qsr {cell:Int->Option (Int×Int)} (cn:qCi (10 ^ 36) cell):∀ (rs:List Rd3) {s:Abs} {N:Int},AbsB (5*10 ^ 45+10 ^ 36) N s->0<=N->(∀ r∈rs,RLt r)->AbsB (5*10 ^ 45+10 ^ 36) (N+10 ^ 31*rs.length) (rs.foldl (qcd cell) s)
 | [],s,N,h,_,_=>by simpa using h
 | r :: t,s,N,h,hN,hr=>by
  obtain ⟨h1,h2,h3,h4⟩:=hr r List.mem_cons_self;have a:=h.put cn hN (M:=10 ^ 31) (by omega) (r:=r) (by omega) (by omega) h2 ⟨h3,h4⟩;have:=qsr cn t a (by omega) λq hq=>hr q (List.mem_cons_of_mem _ hq)
  rw[List.foldl_cons];have e:N+10 ^ 31+10 ^ 31*(t.length:Int)=N+10 ^ 31*((r :: t).length:Int):=by
   rw[List.length_cons];push_cast;omega
  rw[<- e];exact this
theorem qe6 {α:Type} {f:List Int->Option α} {ks:List (List Int)} (nd:ks.Nodup) (h:∀ k,k∈ks↔f k≠none):∃ ms,SKeys f ms/\ms.length=ks.length:=by
 have tot:∀ a b:List Int,(!blt b a || !blt a b)=true:=λa b=>by
  cases h1:blt b a<;>cases h2:blt a b<;>simp
  exact qj0 h1 h2
 have tr:∀ a b c:List Int,(!blt b a)=true->(!blt c b)=true->(!blt c a)=true:=λa b c h1 h2=>by
  simp at h1 h2 ⊢
  by_cases e1:a=b
  ·subst e1;exact h2
  ·by_cases e2:b=c
   ·subst e2;exact h1
   ·have a1:=qjk b a (λz=>e1 z.symm) h1
    have a2:=qjk c b (λz=>e2 z.symm) h2;have a3:=qrl _ _ _ a1 a2
    cases h3:blt c a with
    | false=>rfl
    | true=>exact (qj0 a3 h3).elim
 have pm:=List.mergeSort_perm ks (λa b=>!blt b a);refine ⟨ks.mergeSort (λa b=>!blt b a),⟨?_,λk=>by rw[pm.mem_iff,h]⟩,pm.length_eq⟩;have srt:=List.pairwise_mergeSort tr tot ks;have nd':=pm.nodup_iff.mpr nd;rw[List.nodup_iff_pairwise_ne] at nd';refine (srt.and nd').imp fun {a b} hab=>?_
 obtain ⟨h1,h2⟩:=hab
 simp at h1
 exact qjk b a (λz=>h2 z.symm) h1
open PySem L2
structure Fall (ws es:List Int) (ge:Option Int):Prop where
 len:ws.length=es.length
 pos:∀ (i:Nat) w,ws[i]?=some w->1<=w
 dv:∀ (i j:Nat) a b,i<=j->ws[i]?=some a->ws[j]?=some b->a ∣ b
 ml:∀ (i:Nat) w e,ws[i]?=some w->es[i]?=some e->w ∣ e
 gl:∀ (i:Nat) w z,ws[i]?=some w->ge=some z->w ∣ z
 dn:∀ (i j:Nat) a b,i<=j->es[i]?=some a->es[j]?=some b->b<=a
structure StepAt (ws es:List Int) (t:Int) (i:Nat) (w e:Int):Prop where
 gw:ws[i]?=some w
 ge:es[i]?=some e
 lt:t<e
 nx:∀ e',es[i+1]?=some e'->e'<=t
theorem qDl {ws es:List Int} {t:Int} (h:∀ x∈es,x<=t):wl ws es t=[]:=by
 unfold wl;rw[List.filter_eq_nil_iff.mpr,List.map_nil];intro x hx;have:=h x.2 (List.of_mem_zip hx).2
 simp;omega
theorem qlj:∀ {i:Nat} {ws es:List Int} {t w e:Int},(∀ (i j:Nat) a b,i<=j->es[i]?=some a->es[j]?=some b->b<=a)->StepAt ws es t i w e->(wl ws es t).getLast?=some w
 | 0,ws,es,t,w,e,F,S=>by
  cases ws with
  | nil=>have:=S.gw;simp at this
  | cons w1 wr =>
   cases es with
   | nil=>have:=S.ge;simp at this
   | cons e1 er =>
    have ew:=S.gw;have ee:=S.ge
    simp at ew ee
    subst ew;subst ee;have hr:∀ x∈er,x<=t:=λx hx=>by
     obtain ⟨k,hk,rfl⟩:=List.getElem_of_mem hx;have h0:0<er.length:=by omega
     have a:=S.nx er[0] (by simp[h0]);have b:=F 1 (k+1) er[0] er[k] (by omega) (by simp[h0]) (by simp[hk]);omega
    have e1:wl (w1 :: wr) (e1 :: er) t=w1 :: wl wr er t:=by
     unfold wl;rw[List.zip_cons_cons,List.filter_cons_of_pos (by simpa using S.lt)];rfl
    rw[e1,qDl hr];rfl
 | i+1,ws,es,t,w,e,F,S=>by
  cases ws with
  | nil=>have:=S.gw;simp at this
  | cons w1 wr =>
   cases es with
   | nil=>have:=S.ge;simp at this
   | cons e1 er =>
    have S':StepAt wr er t i w e:=⟨by simpa using S.gw,by simpa using S.ge,S.lt,λe' h=>S.nx e' (by simpa using h)⟩;have ih:=qlj (λa b x y h h1 h2=>F (a+1) (b+1) x y (by omega) (by simpa using h1) (by simpa using h2)) S';have hlt:t<e1:=by
     have:=F 0 (i+1) e1 e (by omega) (by simp) S.ge;have:=S.lt;omega
    have e2:wl (w1 :: wr) (e1 :: er) t=w1 :: wl wr er t:=by
     unfold wl;rw[List.zip_cons_cons,List.filter_cons_of_pos (by simpa using hlt)];rfl
    rw[e2,List.getLast?_cons,ih];rfl
theorem qho:∀ {es ws:List Int} {t e0:Int},ws.length=es.length->es[0]?=some e0->t<e0->∃ i w e,StepAt ws es t i w e
 | [],ws,t,e0,_,h,_=>by simp at h
 | e1 :: er,[],t,e0,hl,_,_=>by simp at hl
 | e1 :: er,w1 :: wr,t,e0,hl,h,hlt=>by
  simp at h
  subst h
  by_cases hc:∃ e2,er[0]?=some e2/\t<e2
  ·obtain ⟨e2,he2,h2⟩:=hc
   obtain ⟨i,w,e,S⟩:=qho (es:=er) (ws:=wr) (by simpa using hl) he2 h2;exact ⟨i+1,w,e,by simpa using S.gw,by simpa using S.ge,S.lt,λe' h=>S.nx e' (by simpa using h)⟩
  ·refine ⟨0,w1,e1,by simp,by simp,hlt,λe' h=>?_⟩
   have h':er[0]?=some e':=by simpa using h
   by_cases z:t<e'
   ·exact absurd ⟨e',h',z⟩ hc
   ·omega
theorem qlk {w t e:Int} (hw:1<=w) (hd:w ∣ e) (h:t<e):t / w*w+w<=e:=by
 obtain ⟨k,rfl⟩:=hd;have h1:t / w<k:=Int.ediv_lt_of_lt_mul (by omega) (by rwa [Int.mul_comm] at h);have h2:=Int.mul_le_mul_of_nonneg_left (show t / w+1<=k by omega) (show 0<=w by omega);rw[Int.mul_add,Int.mul_one,Int.mul_comm w (t / w)] at h2;exact h2
theorem qpw {w:Int} (t:Int) (hw:1<=w):t / w*w<=t/\t<t / w*w+w:=by
 have a:=Int.mul_ediv_add_emod t w;have b:=Int.emod_nonneg t (show w≠0 by omega);have c:=Int.emod_lt_of_pos t (show 0<w by omega);rw[Int.mul_comm] at a;omega
theorem qhp (t w:Int):w ∣ t / w*w:=⟨t / w,Int.mul_comm _ _⟩
theorem qy0 {w s x:Int} (hw:1<=w) (hd:w ∣ x) (h1:x<=s) (h2:s<x+w):s / w*w=x:=by
 have a:=qoi hw hd h1;have b:=qpw s hw;obtain ⟨k,rfl⟩:=hd;have c:=qlk hw (show w ∣ w*(k+1) from ⟨k+1,rfl⟩) (show s<w*(k+1) by rw[Int.mul_add,Int.mul_one];exact h2);rw[Int.mul_add,Int.mul_one] at c;omega
theorem StepAt.cell {ws es:List Int} {ge:Option Int} {t s w e:Int} {i:Nat} (F:Fall ws es ge) (S:StepAt ws es t i w e) (h1:t / w*w<=s) (h2:s<t / w*w+w):StepAt ws es s i w e/\(qb6 ge s↔qb6 ge t)/\s / w*w=t / w*w:=by
 have hw:=F.pos i w S.gw;refine ⟨⟨S.gw,S.ge,?_,λe' he'=>?_⟩,?_,qy0 hw (qhp t w) h1 h2⟩
 ·have:=qlk hw (F.ml i w e S.gw S.ge) S.lt
  omega
 ·have hl:i+1<ws.length:=by rw[F.len];exact (List.getElem?_eq_some_iff.mp he').1
  have hd:w ∣ e':=Int.dvd_trans (F.dv i (i+1) w ws[i+1] (by omega) S.gw (List.getElem?_eq_getElem hl)) (F.ml (i+1) _ e' (List.getElem?_eq_getElem hl) he');have:=qoi hw hd (S.nx e' he');omega
 ·constructor
  ·rintro ⟨z,hz,h⟩
   have hd:=F.gl i w z S.gw hz;refine ⟨z,hz,?_⟩
   by_cases c:t<z
   ·exact c
   ·have:=qoi hw hd (show z<=t by omega);omega
  ·rintro ⟨z,hz,h⟩
   have hd:=F.gl i w z S.gw hz;exact ⟨z,hz,by have:=qlk hw hd h;omega⟩
theorem StepAt.idx {ws es:List Int} {ge:Option Int} {t:Int} {i j:Nat} {w e w' e':Int} (F:Fall ws es ge) (S:StepAt ws es t i w e) (h:es[j]?=some e') (hlt:t<e'):j<=i:=by
 by_cases c:j<=i
 ·exact c
 ·have hl:i+1<es.length:=by have:=(List.getElem?_eq_some_iff.mp h).1;omega
  have a:=S.nx es[i+1] (List.getElem?_eq_getElem hl);have b:=F.dn (i+1) j _ e' (by omega) (List.getElem?_eq_getElem hl) h;omega
open PySem L2
theorem qj2 {ws es:List Int} {ge:Option Int} {t w e e0:Int} {i:Nat} (F:Fall ws es ge) (h0:es[0]?=some e0) (S:StepAt ws es t i w e) (hg:¬ qb6 ge t):CellOf ws es ge t (some (t / w*w,w)):=by
 have hlt:t<e0:=by have:=F.dn 0 i e0 e (by omega) h0 S.ge;have:=S.lt;omega
 exact CellOf.c h0 hlt hg (by rw[<- List.getLast?_eq_getElem?];exact qlj F.dn S)
theorem qiw {ws es:List Int} {ge:Option Int} {t e0:Int} {o:Option (Int×Int)} (F:Fall ws es ge) (h0:es[0]?=some e0) (C:CellOf ws es ge t o) :
  (e0<=t/\o=some (t,0))\/(t<e0/\qb6 ge t/\o=none)\/(t<e0/\¬ qb6 ge t/\∃ i w e,StepAt ws es t i w e/\o=some (t / w*w,w)):=by
 by_cases hc:e0<=t
 ·exact .inl ⟨hc,C.uniq h0 (CellOf.a h0 hc)⟩
 ·have hlt:t<e0:=by omega
  by_cases hg:qb6 ge t
  ·exact .inr (.inl ⟨hlt,hg,C.uniq h0 (CellOf.b h0 hlt hg)⟩)
  ·obtain ⟨i,w,e,S⟩:=qho F.len h0 hlt
   exact .inr (.inr ⟨hlt,hg,i,w,e,S,C.uniq h0 (qj2 F h0 S hg)⟩)
theorem behind {ws es:List Int} {ge:Option Int} {t w e e0:Int} {i:Nat} {o:Option (Int×Int)} (F:Fall ws es ge) (h0:es[0]?=some e0) (S:StepAt ws es t i w e) (hg:¬ qb6 ge t) (C:CellOf ws es ge (t / w*w+w) o):∃ p,o=some p/\p.1=t / w*w+w:=by
 have hw:=F.pos i w S.gw;have h1:=qpw t hw
 rcases qiw F h0 C with ⟨_,rfl⟩|⟨_,⟨z,hz,h⟩,rfl⟩|⟨_,_,j,w',e',S',rfl⟩
 ·exact ⟨_,rfl,rfl⟩
 ·exact absurd ⟨z,hz,by omega⟩ hg
 ·refine ⟨_,rfl,?_⟩
  have hji:j<=i:=StepAt.idx (w':=w') (e':=e') F S S'.ge (by have:=S'.lt;omega);have hd:w' ∣ w:=F.dv j i w' w hji S'.gw S.gw;have hw':=F.pos j w' S'.gw;exact qy0 hw' (Int.dvd_add (Int.dvd_trans hd (qhp t w)) hd) (by omega) (by omega)
structure Later (es es':List Int) (ge ge':Option Int):Prop where
 len:es'.length=es.length
 up:∀ (i:Nat) a b,es[i]?=some a->es'[i]?=some b->a<=b
 gn:∀ z,ge=some z->∃ z',ge'=some z'/\z<=z'
theorem Later.gone {es es':List Int} {ge ge':Option Int} {t:Int} (L:Later es es' ge ge') (h:qb6 ge t):qb6 ge' t:=by
 obtain ⟨z,hz,h⟩:=h;obtain ⟨z',hz',h'⟩:=L.gn z hz;exact ⟨z',hz',by omega⟩
theorem qpx {ws es es':List Int} {ge ge':Option Int} {t e0 e0':Int} {o:Option (Int×Int)} (L:Later es es' ge ge') (h0:es[0]?=some e0) (h0':es'[0]?=some e0') (hlt:t<e0) (hg:qb6 ge t) (C:CellOf ws es' ge' t o):o=none:=
 C.uniq h0' (CellOf.b h0' (by have:=L.up 0 e0 e0' h0 h0';omega) (L.gone hg))
theorem qpy {ws es es':List Int} {ge ge':Option Int} {t w e e0':Int} {i:Nat} (F:Fall ws es ge) (F':Fall ws es' ge') (L:Later es es' ge ge') (h0':es'[0]?=some e0') (S:StepAt ws es t i w e) :
  ∃ o,(∀ s,t / w*w<=s->s<t / w*w+w->∀ o',CellOf ws es' ge' s o'->o'=o)/\∀ p,o=some p->p.1<=t / w*w/\t / w*w+w<=p.1+p.2:=by
 have hw:=F.pos i w S.gw;have h1:=qpw t hw;have hle:i<es'.length:=by rw[L.len];exact (List.getElem?_eq_some_iff.mp S.ge).1
 have hu:=L.up i e es'[i] S.ge (List.getElem?_eq_getElem hle);have hend:=qlk hw (F.ml i w e S.gw S.ge) S.lt;have hlt0:t / w*w<e0':=by
  have:=F'.dn 0 i e0' es'[i] (by omega) h0' (List.getElem?_eq_getElem hle);omega
 obtain ⟨j,w',e',S'⟩:=qho F'.len h0' hlt0;have hij:i<=j:=StepAt.idx (w':=w') (e':=es'[i]) F' S' (List.getElem?_eq_getElem hle) (by omega);have hd:w ∣ w':=F.dv i j w w' hij S.gw S'.gw;have hw':=F'.pos j w' S'.gw;have h2:=qpw (t / w*w) hw';have h3:t / w*w+w<=t / w*w / w'*w'+w':=by
  have hdd:w ∣ t / w*w / w'*w'+w':=Int.dvd_add (Int.dvd_trans hd (qhp _ w')) hd;have:=qlk hw hdd (show t / w*w<t / w*w / w'*w'+w' by omega);have e:t / w*w / w*w=t / w*w:=qy0 hw (qhp t w) (by omega) (by omega);omega
 have all:∀ s,t / w*w<=s->s<t / w*w+w->StepAt ws es' s j w' e'/\(qb6 ge' s↔qb6 ge' (t / w*w))/\s / w'*w'=t / w*w / w'*w':=
  λs a b=>StepAt.cell F' S' (by omega) (by omega)
 by_cases hg:qb6 ge' (t / w*w)
 ·refine ⟨none,λs a b o' C=>?_,λp h=>by cases h⟩
  obtain ⟨S2,g2,_⟩:=all s a b;have:s<e0':=by have:=F'.dn 0 j e0' e' (by omega) h0' S2.ge;have:=S2.lt;omega
  exact C.uniq h0' (CellOf.b h0' this (g2.mpr hg))
 ·refine ⟨some (t / w*w / w'*w',w'),λs a b o' C=>?_,λp h=>?_⟩
  ·obtain ⟨S2,g2,e2⟩:=all s a b
   have:=C.uniq h0' (qj2 F' h0' S2 λg=>hg (g2.mp g));rw[this,e2]
  ·cases h
   exact ⟨h2.1,h3⟩
open PySem L2
theorem qj3 {ps:List (Int×Int)} (G:Good ps):∀ (k i:Nat) p q,ps[i]?=some p->ps[i+k]?=some q->p.1<=q.1/\p.2 ∣ q.2
 | 0,i,p,q,hp,hq=>by rw[Nat.add_zero,hp] at hq;cases hq;exact ⟨Int.le_refl _,Int.dvd_refl _⟩
 | k+1,i,p,q,hp,hq=>by
  have hl:i+k<ps.length:=by have:=(List.getElem?_eq_some_iff.mp hq).1;omega
  obtain ⟨a,b⟩:=qj3 G k i p ps[i+k] hp (List.getElem?_eq_getElem hl);obtain ⟨c,d⟩:=G.next (i+k) ps[i+k] q (List.getElem?_eq_getElem hl) (by rw[Nat.add_assoc];exact hq);exact ⟨by omega,Int.dvd_trans b (Int.dvd_of_emod_eq_zero d)⟩
theorem Fall.of {ps:List (Int×Int)} {g:Option Int} (P:Pr ps g) (d:Int):Fall (ps.map (·.2)) (ps.map λp=>cut d p.1 p.2) (g.map λz=>cut d z (lw ps)) where
 len:=by rw[List.length_map,List.length_map]
 pos:=λi w h=>by
  rw[List.getElem?_map] at h;obtain ⟨p,hp,rfl⟩:=Option.map_eq_some_iff.mp h;exact (P.good.each i p hp).2
 dv:=λi j a b hij ha hb=>by
  rw[List.getElem?_map] at ha hb;obtain ⟨p,hp,rfl⟩:=Option.map_eq_some_iff.mp ha;obtain ⟨q,hq,rfl⟩:=Option.map_eq_some_iff.mp hb;exact (qj3 P.good (j-i) i p q hp (by rw[show i+(j-i)=j by omega];exact hq)).2
 ml:=λi w e hw he=>by
  rw[List.getElem?_map] at hw he;obtain ⟨p,hp,rfl⟩:=Option.map_eq_some_iff.mp hw;rw[hp] at he;cases he;exact qhp _ _
 gl:=λi w z hw hz=>by
  rw[List.getElem?_map] at hw;obtain ⟨p,hp,rfl⟩:=Option.map_eq_some_iff.mp hw;obtain ⟨y,rfl,rfl⟩:=Option.map_eq_some_iff.mp hz;obtain ⟨q,hq,eq⟩:=P.last;have hi:=(List.getElem?_eq_some_iff.mp hp).1;have:=(qj3 P.good (ps.length-1-i) i p q hp (by rw[show i+(ps.length-1-i)=ps.length-1 by omega];exact hq)).2;rw[eq];exact Int.dvd_trans this (qhp _ _)
 dn:=λi j a b hij ha hb=>by
  rw[List.getElem?_map] at ha hb;obtain ⟨p,hp,rfl⟩:=Option.map_eq_some_iff.mp ha;obtain ⟨q,hq,rfl⟩:=Option.map_eq_some_iff.mp hb;obtain ⟨h1,h2⟩:=qj3 P.good (j-i) i p q hp (by rw[show i+(j-i)=j by omega];exact hq);have wp:=(P.good.each i p hp).2;have wq:=(P.good.each j q hq).2;have a:=(qpw (d-q.1) wq).1;exact qoi wp (Int.dvd_trans h2 (qhp _ _)) (show (d-q.1) / q.2*q.2<=d-p.1 by omega)
def mx (i j:Int):Int:=if j>i then j else i
theorem qy1 (i j:Int):i<=mx i j/\j<=mx i j/\(mx i j=i\/mx i j=j):=by unfold mx;split<;>omega
theorem qss {a b:List Int} {i:Nat} {x:Int} (h:(List.zipWith mx a b)[i]?=some x):∃ u v,a[i]?=some u/\b[i]?=some v/\x=mx u v:=by
 rw[List.getElem?_zipWith] at h
 split at h
 ·rename_i u v hu hv;exact ⟨u,v,hu,hv,(Option.some.inj h).symm⟩
 ·cases h
theorem qy2 {g1 g2:Option Int} {z:Int} (h:qwk g1 g2=some z):g1=some z\/g2=some z:=by
 cases g1 with
 | none=>exact .inr h
 | some i =>
  cases g2 with
  | none=>exact .inl h
  | some j =>
   simp only[qwk,Option.some.injEq] at h;rw[<- h]
   split
   ·exact .inr rfl
   ·exact .inl rfl
theorem Fall.max {ws a b:List Int} {g1 g2:Option Int} (F:Fall ws a g1) (G:Fall ws b g2):Fall ws (List.zipWith mx a b) (qwk g1 g2) where
 len:=by rw[List.length_zipWith,<- F.len,<- G.len];omega
 pos:=F.pos
 dv:=F.dv
 ml:=λi w e hw he=>by
  obtain ⟨u,v,hu,hv,rfl⟩:=qss he
  rcases (qy1 u v).2.2 with h|h
  ·rw[h];exact F.ml i w u hw hu
  ·rw[h];exact G.ml i w v hw hv
 gl:=λi w z hw hz=>by
  rcases qy2 hz with h|h
  ·exact F.gl i w z hw h
  ·exact G.gl i w z hw h
 dn:=λi j x y hij hx hy=>by
  obtain ⟨u,v,hu,hv,rfl⟩:=qss hx;obtain ⟨u',v',hu',hv',rfl⟩:=qss hy;have c:=F.dn i j u u' hij hu hu';have d:=G.dn i j v v' hij hv hv';have e:=qy1 u v
  rcases (qy1 u' v').2.2 with h|h<;>omega
theorem Later.max {a b:List Int} (g1 g2:Option Int) (h:a.length=b.length):Later a (List.zipWith mx a b) g1 (qwk g1 g2) where
 len:=by rw[List.length_zipWith];omega
 up:=λi x y hx hy=>by
  obtain ⟨u,v,hu,hv,rfl⟩:=qss hy;rw[hx] at hu;cases hu;exact (qy1 x v).1
 gn:=λz hz=>by
  subst hz
  cases g2 with
  | none=>exact ⟨z,rfl,Int.le_refl _⟩
  | some j=>exact ⟨mx z j,rfl,(qy1 z j).1⟩
theorem Later.trans {a b c:List Int} {g1 g2 g3:Option Int} (h:Later a b g1 g2) (h':Later b c g2 g3):Later a c g1 g3 where
 len:=by rw[h'.len,h.len]
 up:=λi x y hx hy=>by
  have hi:i<b.length:=by rw[h.len];exact (List.getElem?_eq_some_iff.mp hx).1
  have a1:=h.up i x b[i] hx (List.getElem?_eq_getElem hi);have a2:=h'.up i b[i] y (List.getElem?_eq_getElem hi) hy;omega
 gn:=λz hz=>by
  obtain ⟨z1,e1,l1⟩:=h.gn z hz;obtain ⟨z2,e2,l2⟩:=h'.gn z1 e1;exact ⟨z2,e2,by omega⟩
open PySem L2
theorem qj4 (cell:Int->Option (Int×Int)) (s:Abs) (r:Rd3) (b:Int) (x:HP4):qcw cell (qcd cell s r) b x=qcd cell (qcw cell s b x) r:=by
 unfold qcd qcw
 rcases e1:cell r.1 with _|⟨a,w⟩
 ·rcases e2:cell b with _|⟨c,u⟩<;>rfl
 ·rcases e2:cell b with _|⟨c,u⟩
  ·rfl
  ·dsimp only
   by_cases hw:w=0
   ·rw[if_pos hw,if_pos hw]
   ·rw[if_neg hw,if_neg hw]
    dsimp only
    by_cases hk:[a,w]=[c,u]
    ·rw[hk,qat,qbg,qat,qbg,qfk]
    ·rw[qa7 _ _ (λz=>hk z.symm),qa7 _ _ hk,qe4 _ _ _ hk]
theorem qst (cell:Int->Option (Int×Int)) (s:Abs) (r z:List Int):qbo cell (qcf cell s r) z=qcf cell (qbo cell s z) r:=by
 unfold qbo qcf
 split<;>split<;>first|rfl|exact qj4 _ _ _ _ _
theorem qll (cell:Int->Option (Int×Int)):∀ (Z:List (List Int)) (s:Abs) (r:List Int),Z.foldl (qbo cell) (qcf cell s r)=qcf cell (Z.foldl (qbo cell) s) r
 | [],_,_=>rfl
 | z :: t,s,r=>by rw[List.foldl_cons,List.foldl_cons,qst,qll cell t]
theorem TakeOk.mono {cell:Int->Option (Int×Int)} {LY LZ LY' LZ' Y Z:List (List Int)} (h:TakeOk cell LY LZ Y Z) (a:LY ⊆ LY') (b:LZ ⊆ LZ'):TakeOk cell LY' LZ' Y Z:=
 ⟨λr hr=>let ⟨t,v,m,e,ok,h1,h2⟩:=h.y r hr;⟨t,v,m,e,ok,a h1,λx w z=>b (h2 x w z)⟩,λr hr=>let ⟨x,w,m,t,lo,hi,e,ok,h2⟩:=h.z r hr;⟨x,w,m,t,lo,hi,e,ok,λy w z=>b (h2 y w z)⟩⟩
theorem qlm:∀ ps qs:List (Int×Int),PyData.eqvAll (ps.map qju) (qs.map qju)=decide (ps=qs)
 | [],[]=>by simp[PyData.eqvAll]
 | [],_ :: _=>by simp[PyData.eqvAll]
 | _ :: _,[]=>by simp[PyData.eqvAll]
 | (a,b) :: ps,(c,d) :: qs=>by
  rw[List.map_cons,List.map_cons,PyData.eqvAll,qlm ps qs]
  by_cases h1:a=c<;>by_cases h2:b=d<;>by_cases h3:ps=qs<;>simp[h1,h2,h3,qju,PyData.eqv,PyData.eqvAll]
theorem qsu (ps qs:List (Int×Int)):PyData.eqv (qd7 ps) (qd7 qs)=decide (ps=qs):=by
 unfold qd7;rw[PyData.eqv,qlm]
theorem qBr (g h:Option Int):PyData.eqv (dV (gv g)) (dV (gv h))=decide (g=h):=by
 cases g with
 | none=>cases h<;>simp[dV,gv,PyData.eqv]
 | some a =>
  cases h with
  | none=>simp[dV,gv,PyData.eqv]
  | some b =>
   show (a == b)=_
   by_cases e:a=b<;>simp[e]
open PySem L2
theorem qcm {S A:Type} {op:S->A->S} (comm:∀ s r q,op (op s r) q=op (op s q) r) {l l':List A} (p:l.Perm l'):∀ s,l.foldl op s=l'.foldl op s:=by
 induction p with
 | nil=>intro s;rfl
 | cons x _ ih=>intro s;exact ih _
 | swap x y l=>intro s;simp only[List.foldl_cons];rw[comm]
 | trans _ _ ih1 ih2=>intro s;rw[ih1,ih2]
theorem qc6 {S A:Type} {op:S->A->S} (comm:∀ s r q,op (op s r) q=op (op s q) r) (x:A) (l:List A) (s:S):(x :: l).foldl op s=op (l.foldl op s) x:=by
 have h:=qcm comm (List.perm_append_comm (l₁:=[x]) (l₂:=l)) s;have e:(l ++ [x]).foldl op s=op (l.foldl op s) x:=by rw[List.foldl_append];rfl
 rw[<- e,<- h];rfl
theorem qln {S:Type} {op:S->List Int->S} (comm:∀ s r q,op (op s r) q=op (op s q) r) {ms:List (List Int)} (nd:ms.Nodup) {f g:List Int->List Int} {k:List Int} (hk:k∈ms) (hfg:∀ j,j≠k->f j=g j) (s:S):∃ X,(ms.map f).foldl op s=op X (f k)/\(ms.map g).foldl op s=op X (g k):=by
 have p:=List.perm_cons_erase hk;have nd':=p.nodup_iff.mp nd;rw[List.nodup_cons] at nd';have e:(ms.erase k).map f=(ms.erase k).map g:=List.map_congr_left λj hj=>hfg j λz=>nd'.1 (z ▸ hj)
 refine ⟨((ms.erase k).map f).foldl op s,?_,?_⟩
 ·rw[qcm comm (p.map f) s,List.map_cons,qc6 comm]
 ·rw[qcm comm (p.map g) s,List.map_cons,qc6 comm,e]
theorem qc7 (cell:Int->Option (Int×Int)) (s:Abs) (r q:List Int):qcf cell (qcf cell s r) q=qcf cell (qcf cell s q) r:=by
 unfold qcf
 split<;>split<;>first|rfl|exact qsm _ _ _ _
theorem qpz (cell:Int->Option (Int×Int)) (s:Abs) (a b:Int) (x y:HP4):qcw cell (qcw cell s a x) b y=qcw cell (qcw cell s b y) a x:=by
 unfold qcw
 rcases e1:cell a with _|⟨c,u⟩
 ·rcases e2:cell b with _|⟨d,w⟩<;>rfl
 ·rcases e2:cell b with _|⟨d,w⟩
  ·rfl
  ·dsimp only
   by_cases hk:[c,u]=[d,w]
   ·rw[hk,qat,qbg,qat,qbg,qfk]
   ·rw[qa7 _ _ (λz=>hk z.symm),qa7 _ _ hk,qe4 _ _ _ hk]
theorem qcs (cell:Int->Option (Int×Int)) (s:Abs) (r q:List Int):qbo cell (qbo cell s r) q=qbo cell (qbo cell s q) r:=by
 unfold qbo
 split<;>split<;>first|rfl|exact qpz _ _ _ _ _ _
structure qlo (cell cell':Int->Option (Int×Int)):Prop where
 n:∀ t,cell t=none->cell' t=none
 h:∀ t a w,cell t=some (a,w)->w≠0->cell' t=cell' a/\∀ b u,cell' a=some (b,u)->u≠0
structure KF (s:Abs):Prop where
 y:∃ my,SKeys s.y my/\∀ k∈my,k.length=2
 z:∃ mz,SKeys s.z mz/\∀ k∈mz,k.length=2
theorem qe7 {α:Type} {f:List Int->Option α} {ms:List (List Int)} (h:SKeys f ms) (h2:∀ k∈ms,k.length=2) {k:List Int} (hk:k.length=2) (x:α):∃ ms',SKeys (qdf f k x) ms'/\(∀ j∈ms',j.length=2)/\((k∈ms->ms'=ms)/\(k ∉ ms->ms'.Perm (k :: ms))):=by
 by_cases c:k∈ms
 ·refine ⟨ms,⟨h.srt,λj=>?_⟩,h2,λ_=>rfl,λz=>absurd c z⟩
  by_cases e:j=k
  ·subst e;rw[qat];simp[c]
  ·rw[qa7 _ _ e];exact h.mem j
 ·have nd:(k :: ms).Nodup:=List.nodup_cons.mpr ⟨c,h.nd⟩
  have mem:∀ j,j∈k :: ms↔qdf f k x j≠none:=λj=>by
   by_cases e:j=k
   ·subst e;rw[qat];simp
   ·rw[qa7 _ _ e,List.mem_cons]
    exact ⟨λz=>(h.mem j).mp (z.resolve_left e),λz=>.inr ((h.mem j).mpr z)⟩
  obtain ⟨ms',s',_⟩:=qe6 nd mem;have pm:ms'.Perm (k :: ms):=by
   rw[List.perm_ext_iff_of_nodup s'.nd nd];intro j;rw[s'.mem,mem]
  refine ⟨ms',s',λj hj=>?_,λz=>absurd z c,λ_=>pm⟩
  rcases List.mem_cons.mp (pm.mem_iff.mp hj) with e|e
  ·rw[e];exact hk
  ·exact h2 j e
theorem qp0 {S0:Abs} {cell':Int->Option (Int×Int)} {s:Abs} {my mz:List (List Int)} (sy:SKeys s.y my) (h2:∀ k∈my,k.length=2) (sz:SKeys s.z mz) (t v m:Int) :
  qeh cell' S0 (qcl { s with y:=qdf s.y [t,v] ((s.y [t,v]).getD 0+m) }) (qce { s with y:=qdf s.y [t,v] ((s.y [t,v]).getD 0+m) })=qcd cell' (qeh cell' S0 (qcl s) (qce s)) (t,v,m):=by
 obtain ⟨my',sy',_,hin,hout⟩:=qe7 sy h2 (k:=[t,v]) rfl ((s.y [t,v]).getD 0+m)
 generalize es:({ s with y:=qdf s.y [t,v] ((s.y [t,v]).getD 0+m) }:Abs)=s'
 have ey':s'.y=qdf s.y [t,v] ((s.y [t,v]).getD 0+m):=by rw[<- es]
 have ez':s'.z=s.z:=by rw[<- es]
 have sy'':SKeys s'.y my':=by rw[ey'];exact sy'
 have ezr:qce s'=qce s:=by
  have:SKeys s'.z mz:=by rw[ez'];exact sz
  rw[<- qc4 this,<- qc4 sz];refine List.map_congr_left λk _=>?_
  unfold qpv;rw[ez']
 rw[ezr,<- qc3 sy'',<- qc3 sy];unfold qeh
 show _=qcf cell' ((qce s).foldl (qbo cell') ((my.map (qog s)).foldl (qcf cell') S0)) [t,v,m]
 rw[<- qll]
 congr 1
 have ne:∀ j,j≠[t,v]->qog s' j=qog s j:=λj hj=>by unfold qog;rw[ey',qa7 _ _ hj]
 have at_:qog s' [t,v]=[t,v,(s.y [t,v]).getD 0+m]:=by unfold qog;rw[ey',qat];rfl
 by_cases c:[t,v]∈my
 ·rw[hin c]
  obtain ⟨X,e1,e2⟩:=qln (qc7 cell') sy.nd c ne S0;rw[e1,e2,at_]
  show qcd cell' X (t,v,_)=qcd cell' (qcd cell' X (t,v,(s.y [t,v]).getD 0)) (t,v,m)
  rw[qps]
 ·rw[qcm (qc7 cell') ((hout c).map _) S0,List.map_cons,qc6 (qc7 cell'),at_]
  have e:my.map (qog s')=my.map (qog s):=List.map_congr_left λj hj=>ne j λz=>c (by rw[<- z];exact hj)
  have en:s.y [t,v]=none:=by
   cases q:s.y [t,v] with
   | none=>rfl
   | some n=>exact absurd ((sy.mem _).mpr (by rw[q];simp)) c
  rw[e,en]
  show qcd cell' _ (t,v,0+m)=qcd cell' _ (t,v,m)
  rw[Int.zero_add]
theorem qsv (a b c:HP4):mg4 (mg4 a b) c=mg4 a (mg4 b c):=by
 unfold mg4;refine qzn ?_ ?_ ?_ ?_<;>dsimp only
 ·omega
 ·omega
 ·repeat' split
  all_goals omega
 ·repeat' split
  all_goals omega
theorem qm1 (o:Option HP4) (b c:HP4):qb1 (some (qb1 o b)) c=qb1 o (mg4 b c):=by
 cases o with
 | none=>rfl
 | some a=>exact qsv a b c
theorem qu7 {cell':Int->Option (Int×Int)} {t a:Int} (hc:cell' t=cell' a) (hu:∀ b u,cell' a=some (b,u)->u≠0) (X:Abs) (v m:Int):qcw cell' X a (qfv v m)=qcd cell' X (t,v,m):=by
 unfold qcw qcd;dsimp only;rw[hc]
 rcases e:cell' a with _|⟨b,u⟩
 ·rfl
 ·dsimp only
  rw[if_neg (hu b u e)]
theorem qy3 (cell':Int->Option (Int×Int)) (X:Abs) (a:Int) (x y:HP4):qcw cell' (qcw cell' X a x) a y=qcw cell' X a (mg4 x y):=by
 unfold qcw
 rcases e:cell' a with _|⟨b,u⟩
 ·rfl
 ·dsimp only
  rw[qat,qbg,qm1]
theorem take_heap {S0:Abs} {cell':Int->Option (Int×Int)} {s:Abs} {my mz:List (List Int)} (sy:SKeys s.y my) (sz:SKeys s.z mz) (h2:∀ k∈mz,k.length=2) {t a:Int} (hc:cell' t=cell' a) (hu:∀ b u,cell' a=some (b,u)->u≠0) (w v m:Int) :
  qeh cell' S0 (qcl { s with z:=qdf s.z [a,w] (qb1 (s.z [a,w]) (qfv v m)) }) (qce { s with z:=qdf s.z [a,w] (qb1 (s.z [a,w]) (qfv v m)) })=qcd cell' (qeh cell' S0 (qcl s) (qce s)) (t,v,m):=by
 obtain ⟨mz',sz',_,hin,hout⟩:=qe7 sz h2 (k:=[a,w]) rfl (qb1 (s.z [a,w]) (qfv v m))
 generalize es:({ s with z:=qdf s.z [a,w] (qb1 (s.z [a,w]) (qfv v m)) }:Abs)=s'
 have ez':s'.z=qdf s.z [a,w] (qb1 (s.z [a,w]) (qfv v m)):=by rw[<- es]
 have ey':s'.y=s.y:=by rw[<- es]
 have sz'':SKeys s'.z mz':=by rw[ez'];exact sz'
 have eyr:qcl s'=qcl s:=by
  have:SKeys s'.y my:=by rw[ey'];exact sy
  rw[<- qc3 this,<- qc3 sy];refine List.map_congr_left λk _=>?_
  unfold qog;rw[ey']
 rw[eyr,<- qc4 sz'',<- qc4 sz,<- qu7 hc hu];unfold qeh
 generalize (qcl s).foldl (qcf cell') S0=S1
 have ne:∀ j,j≠[a,w]->qpv s' j=qpv s j:=λj hj=>by unfold qpv;rw[ez',qa7 _ _ hj]
 have at_:qpv s' [a,w]=[a,w] ++ i4 (qb1 (s.z [a,w]) (qfv v m)):=by unfold qpv;rw[ez',qat];rfl
 have pr:∀ (X:Abs) (x:HP4),qbo cell' X ([a,w] ++ i4 x)=qcw cell' X a x:=λX x=>rfl
 by_cases c:[a,w]∈mz
 ·rw[hin c]
  obtain ⟨X,e1,e2⟩:=qln (qcs cell') sz.nd c ne S1;rw[e1,e2,at_,pr]
  show _=qcw cell' (qbo cell' X ([a,w] ++ i4 ((s.z [a,w]).getD (0,0,0,0)))) a (qfv v m)
  rw[pr]
  cases q:s.z [a,w] with
  | none=>exact absurd q ((sz.mem _).mp c)
  | some x=>rw[Option.getD_some,qy3];rfl
 ·rw[qcm (qcs cell') ((hout c).map _) S1,List.map_cons,qc6 (qcs cell'),at_,pr]
  have e:mz.map (qpv s')=mz.map (qpv s):=List.map_congr_left λj hj=>ne j λz=>c (by rw[<- z];exact hj)
  have en:s.z [a,w]=none:=by
   cases q:s.z [a,w] with
   | none=>rfl
   | some n=>exact absurd ((sz.mem _).mpr (by rw[q];simp)) c
  rw[e,en];rfl
theorem qu8 {S0:Abs} {cell cell':Int->Option (Int×Int)} (co:qlo cell cell') {s:Abs} (kf:KF s) (r:Rd3) :
  qeh cell' S0 (qcl (qcd cell s r)) (qce (qcd cell s r))=qcd cell' (qeh cell' S0 (qcl s) (qce s)) r/\KF (qcd cell s r):=by
 obtain ⟨my,sy,hy⟩:=kf.y;obtain ⟨mz,sz,hz⟩:=kf.z;obtain ⟨t,v,m⟩:=r
 rcases e:cell t with _|⟨a,w⟩
 ·have e1:qcd cell s (t,v,m)=s:=by unfold qcd;dsimp only;rw[e]
  have e2:∀ X,qcd cell' X (t,v,m)=X:=λX=>by unfold qcd;dsimp only;rw[co.n t e]
  rw[e1,e2];exact ⟨rfl,kf⟩
 ·by_cases hw:w=0
  ·have e1:qcd cell s (t,v,m)={ s with y:=qdf s.y [t,v] ((s.y [t,v]).getD 0+m) }:=by unfold qcd;dsimp only;rw[e];dsimp only;rw[if_pos hw]
   rw[e1];refine ⟨qp0 sy hy sz t v m,?_,⟨mz,sz,hz⟩⟩;obtain ⟨my',sy',h',_⟩:=qe7 sy hy (k:=[t,v]) rfl ((s.y [t,v]).getD 0+m);exact ⟨my',sy',h'⟩
  ·have e1:qcd cell s (t,v,m)={ s with z:=qdf s.z [a,w] (qb1 (s.z [a,w]) (qfv v m)) }:=by unfold qcd;dsimp only;rw[e];dsimp only;rw[if_neg hw]
   rw[e1];obtain ⟨c1,c2⟩:=co.h t a w e hw;refine ⟨take_heap sy sz hz c1 c2 w v m,⟨my,sy,hy⟩,?_⟩;obtain ⟨mz',sz',h',_⟩:=qe7 sz hz (k:=[a,w]) rfl (qb1 (s.z [a,w]) (qfv v m));exact ⟨mz',sz',h'⟩
theorem kf0:KF qpt:=⟨⟨[],⟨.nil,λk=>⟨(λh=>by cases h),λh=>absurd rfl h⟩⟩,(λk h=>by cases h)⟩,⟨[],⟨.nil,λk=>⟨(λh=>by cases h),λh=>absurd rfl h⟩⟩,(λk h=>by cases h)⟩⟩
theorem qlp {S0:Abs} {cell cell':Int->Option (Int×Int)} (co:qlo cell cell'):∀ (rs:List Rd3) {s s':Abs},KF s->qeh cell' S0 (qcl s) (qce s)=s'->qeh cell' S0 (qcl (rs.foldl (qcd cell) s)) (qce (rs.foldl (qcd cell) s))=rs.foldl (qcd cell') s'
 | [],_,_,_,e=>e
 | r :: t,s,s',kf,e=>by
  obtain ⟨h1,h2⟩:=qu8 co kf r;exact qlp co t h2 (by rw[h1,e])
theorem qsw {cell cell':Int->Option (Int×Int)} (co:qlo cell cell') (rs:List Rd3) (S0:Abs):qeh cell' S0 (qcl (qcp cell rs)) (qce (qcp cell rs))=rs.foldl (qcd cell') S0:=by
 refine qlp co rs kf0 ?_;have hy:qcl qpt=[]:=(qc3 (ms:=[]) ⟨.nil,λk=>⟨(λh=>by cases h),λh=>absurd rfl h⟩⟩).symm;have hz:qce qpt=[]:=(qc4 (ms:=[]) ⟨.nil,λk=>⟨(λh=>by cases h),λh=>absurd rfl h⟩⟩).symm;rw[hy,hz];rfl
theorem qsx {cell cell':Int->Option (Int×Int)} (co:qlo cell cell') (rs:List Rd3):qeh cell' qpt (qcl (qcp cell rs)) (qce (qcp cell rs))=qcp cell' rs:=qsw co rs qpt
theorem qhq {ws es es':List Int} {ge ge':Option Int} (F:Fall ws es ge) (F':Fall ws es' ge') (L:Later es es' ge ge') (hl:1<=es.length):qlo (qbi ws es ge) (qbi ws es' ge'):=by
 have hl':1<=es'.length:=by rw[L.len];exact hl
 have hw:1<=ws.length:=by rw[F.len];exact hl
 have h0:es[0]?=some es[0]:=List.getElem?_eq_getElem (by omega);have h0':es'[0]?=some es'[0]:=List.getElem?_eq_getElem (by omega);have up:=L.up 0 _ _ h0 h0';refine ⟨λt e=>?_,λt a w e hw0=>?_⟩
 ·have C:=qdm (ge:=ge) hw hl t
  have C':=qdm (ge:=ge') hw hl' t;rw[e] at C
  by_cases c:es[0]<=t
  ·cases (C es[0] h0).1 c
  ·by_cases hg:qb6 ge t
   ·exact qpx L h0 h0' (by omega) hg C'
   ·obtain ⟨w,_,e2⟩:=((C es[0] h0).2 (by omega)).2 hg
    cases e2
 ·have C:=qdm (ge:=ge) hw hl t
  rw[e] at C;have hlt:t<es[0]:=by
   by_cases c:es[0]<=t
   ·have:=(C es[0] h0).1 c
    cases this;exact absurd rfl hw0
   ·omega
  obtain ⟨i,w',e',S⟩:=qho F.len h0 hlt;have hg:¬ qb6 ge t:=λg=>by cases ((C es[0] h0).2 hlt).1 g
  have:=C.uniq h0 (qj2 F h0 S hg);cases this;have hw1:=F.pos i w S.gw;have fl:=qpw t hw1;obtain ⟨o,ho,_⟩:=qpy F F' L h0' S;have a1:=ho t fl.1 fl.2 _ (qdm hw hl' t);have a2:=ho (t / w*w) (Int.le_refl _) (by omega) _ (qdm hw hl' (t / w*w));refine ⟨a1.trans a2.symm,λb u eb hu=>?_⟩;have C2:=qdm (ge:=ge') hw hl' (t / w*w);rw[eb] at C2;have lt2:t / w*w<es'[0]:=by omega
  obtain ⟨j,w2,e2,S2⟩:=qho F'.len h0' lt2;have hg2:¬ qb6 ge' (t / w*w):=λg=>by cases ((C2 es'[0] h0').2 lt2).1 g
  have:=C2.uniq h0' (qj2 F' h0' S2 hg2);cases this;have:=F'.pos j _ S2.gw;omega
open PySem L2
theorem RR.putX {C R N:Addr} {H:Hp} {ro:Addr} {c:qar} {s:Abs} {LY LZ:List (List Int)} {t v m:Int} {Q:VK} {E:XK} (h:RR C R H ro c s LY LZ) (ok:qdl c) (hr:qpq t) (h1:1<=m) (hb:qu4 (v,m)) (ly:LY.length<200) (lz:LZ.length<200)
  (hy:[t,v]∈LY) (hz:∀ a w,cellD c t=some (a,w)->[a,w]∈LZ)
  (q:∀ H',RR C R H' ro c (qcd (cellD c) s (t,v,m)) LY LZ->But2 c.dy c.dh H H'->Q (.bl (cellD c t).isSome) H'):qfj C R N [.ref ro,.int t,.int v,.int m] H Q E:=by
 obtain ⟨ro',D',t',v',m',e,A,ok',ht',h1',hb',y,z,l1,l2,k⟩:=RR.put (Q:=Q) (E:=E) h ok hr h1 hb ly lz hy hz q;exact ⟨ro',D',t',v',m',e,A,ok',ht',λ_=>hb',y,z,l1,l2,λz=>absurd z (by omega),λ_=>k⟩
theorem RR.putN {C R N:Addr} {H:Hp} {ro:Addr} {c:qar} {s:Abs} {LY LZ:List (List Int)} {t v m:Int} {Q:VK} {E:XK} (h:RR C R H ro c s LY LZ) (ok:qdl c) (hr:qpq t) (h1:m<1) (ly:LY.length<200) (lz:LZ.length<200)
  (q:E (.ref N) none H):qfj C R N [.ref ro,.int t,.int v,.int m] H Q E:=by
 obtain ⟨Y,Z,A,B⟩:=h;exact ⟨ro,_,t,v,m,rfl,A,⟨ok.pr,ok.es⟩,hr,λz=>absurd z (by omega),B.YOk,B.ZOk,Nat.le_trans B.ylen (by omega),Nat.le_trans B.zlen (by omega),λ_=>q,λz=>absurd z (by omega)⟩
end TB
namespace TX
def sg (n:Int):List Nat:=(toString n).toList.map Char.toNat
def qCj (x:List Nat):List Nat:=if x.take 1=[45] then x.drop 1 else x
def qy4 (c:Nat):Prop:=48<=c/\c<=57
instance (c:Nat):Decidable (qy4 c):=inferInstanceAs (Decidable (_/\_))
def Good (x:List Nat):Prop:=qCj x≠[]/\(qCj x).length<=1000/\¬ ((qCj x).head?=some 48/\x≠[48])/\∀ c∈qCj x,qy4 c
instance (x:List Nat):Decidable (Good x):=inferInstanceAs (Decidable (_/\_/\_/\_))
end TX
namespace TX
open L2
end TX
namespace TB
open PySem L2 TX
def OddV (H:Hp) (v:V):Prop:=v=.non\/(∃ i,v=.int i)\/(∃ b,v=.bl b)\/(∃ p xs,v=.ref p/\H p=some (.tup xs))\/∃ p xs,v=.ref p/\H p=some (.lst xs)
def TextV (H:Hp) (v:V):Prop:=(∃ x,v=.str (S x)/\x.length<=3000)\/OddV H v
theorem TextV.same {H H':Hp} {v:V} (h:TextV H v) (s:Same H H'):TextV H' v:=by
 rcases h with h|h|h|h|⟨p,xs,e,h⟩|⟨p,xs,e,h⟩
 ·exact .inl h
 ·exact .inr (.inl h)
 ·exact .inr (.inr (.inl h))
 ·exact .inr (.inr (.inr (.inl h)))
 ·exact .inr (.inr (.inr (.inr (.inl ⟨p,xs,e,s _ _ h⟩))))
 ·exact .inr (.inr (.inr (.inr (.inr ⟨p,xs,e,s _ _ h⟩))))
theorem OddV.ty {K:Frag} {H:Hp} {v:V} (h:OddV H v):∃ t,TyOf K H v t/\PySem.W.kitOne K t (.type "str")=some false:=by
 rcases h with rfl|⟨i,rfl⟩|⟨b,rfl⟩|⟨p,xs,rfl,h⟩|⟨p,xs,rfl,h⟩
 ·exact ⟨_,.non,rfl⟩
 ·exact ⟨_,.int _,rfl⟩
 ·exact ⟨_,.bl _,rfl⟩
 ·exact ⟨_,.tup h,rfl⟩
 ·exact ⟨_,.lst h,rfl⟩
open PySem L2 TX
def qEv (x:List Nat):Prop:=1<=x.length/\x.length<=1000/\(x=[48]\/(x.head?≠some 48/\∀ c∈x,qy4 c))
instance (x:List Nat):Decidable (qEv x):=inferInstanceAs (Decidable (_/\_/\_))
open PySem L2
abbrev tS (w:List Nat):V:=V.str (S w)
def kS (x:List Nat):Key:=Sum.inr (S x)
theorem qsy {a b:List Nat} (h:kS a=kS b):a=b:=qpf (Sum.inr.inj h)
def Ents {α:Type} (R:V->α->Prop) (kvs:List (Key×V)) (E:List (List Nat×α)):Prop:=Paired (fun (p:Key×V) (e:List Nat×α)=>p.1=kS e.1/\R p.2 e.2) kvs E
section
variable {α:Type} {R R':V->α->Prop} {kvs:List (Key×V)} {E:List (List Nat×α)}
theorem Ents.keys (h:Ents R kvs E):kvs.map (·.1)=(E.map (·.1)).map (λq=>Sum.inr (S q)):=by
 unfold Ents at h
 induction h with
 | nil=>rfl
 | cons a t ih=>rw[List.map_cons,List.map_cons,List.map_cons,ih,a.1];rfl
theorem Ents.len (h:Ents R kvs E):kvs.length=E.length:=by have:=congrArg List.length h.keys;simpa using this
theorem Ents.imp (h:Ents R kvs E) (f:∀ v a,R v a->R' v a):Ents R' kvs E:=by
 unfold Ents at h ⊢
 induction h with
 | nil=>exact .nil
 | cons a t ih=>exact .cons ⟨a.1,f _ _ a.2⟩ ih
theorem qlq (p:Key×V) (l:List (Key×V)) (k:Key):qcc (p :: l) k=if p.1=k then some p.2 else qcc l k:=by
 unfold qcc;rw[List.find?_cons]
 by_cases e:p.1=k
 ·rw[if_pos e,decide_eq_true e];rfl
 ·rw[if_neg e,decide_eq_false e]
theorem Ents.hasn (h:Ents R kvs E) {x:List Nat} (hx:x ∉ E.map (·.1)):qcc kvs (kS x)=none:=by
 unfold Ents at h
 induction h with
 | nil=>rfl
 | @cons p e ps es a t ih =>
  rw[List.map_cons,List.mem_cons,not_or] at hx;rw[qlq,if_neg (λz=>hx.1 (qsy (z.symm.trans a.1))),ih hx.2]
theorem Ents.has (h:Ents R kvs E) {x:List Nat} (hx:x∈E.map (·.1)):∃ v a,qcc kvs (kS x)=some v/\(x,a)∈E/\R v a:=by
 unfold Ents at h
 induction h with
 | nil=>cases hx
 | @cons p e ps es a t ih =>
  rw[qlq]
  by_cases z:p.1=kS x
  ·have ex:e.1=x:=qsy (a.1.symm.trans z)
   rw[if_pos z];exact ⟨_,e.2,rfl,by rw[<- ex];exact List.mem_cons_self,a.2⟩
  ·rw[List.map_cons,List.mem_cons] at hx
   rcases hx with e'|hx
   ·exact absurd (by rw[a.1,e']) z
   ·rw[if_neg z]
    obtain ⟨v,b,h1,h2,h3⟩:=ih hx;exact ⟨v,b,h1,List.mem_cons_of_mem _ h2,h3⟩
theorem Ents.snoc {v:V} {a:α} {x:List Nat} (r:R v a):∀ {kvs:List (Key×V)} {E:List (List Nat×α)},Ents R kvs E->Ents R (kvs ++ [(kS x,v)]) (E ++ [(x,a)])
 | _,_,.nil=>.cons ⟨rfl,r⟩ .nil
 | _,_,.cons b t=>.cons b (Ents.snoc r t)
theorem Ents.put (h:Ents R kvs E) {x:List Nat} (hx:x ∉ E.map (·.1)) {v:V} {a:α} (r:R v a):Ents R (putK kvs (kS x) v) (E ++ [(x,a)]):=by
 have e:putK kvs (kS x) v=kvs ++ [(kS x,v)]:=by
  unfold putK;rw[if_neg];intro z;obtain ⟨p,hp,hk⟩:=List.any_eq_true.mp z;have:p.1∈kvs.map (·.1):=List.mem_map.mpr ⟨p,hp,rfl⟩;rw[h.keys,of_decide_eq_true hk] at this;obtain ⟨y,hy,ey⟩:=List.mem_map.mp this;exact hx ((qsy (show kS y=kS x from ey)) ▸ hy)
 rw[e];exact h.snoc r
end
def bof (ru:Addr) (day:Int) (le dm dr:Addr):List (Str×V):=qek "kept_rolls" (.ref dr) (qek "kept_marks" (.ref dm) (qek "kept_edges" (.ref le) (qek "kept_day" (.int day) (qek "kept_rule" (.ref ru) []))))
section
variable (ru:Addr) (day:Int) (le dm dr:Addr)
theorem qwq:(bof ru day le dm dr).lookup ("kept_rule" : Str)=some (.ref ru):=by
 unfold bof;rw[qad,if_neg (by decide +kernel),qad,if_neg (by decide +kernel),qad,if_neg (by decide +kernel),qad,if_neg (by decide +kernel),qad,if_pos rfl]
theorem qsz:(bof ru day le dm dr).lookup ("kept_day" : Str)=some (.int day):=by
 unfold bof;rw[qad,if_neg (by decide +kernel),qad,if_neg (by decide +kernel),qad,if_neg (by decide +kernel),qad,if_pos rfl]
theorem qs0:(bof ru day le dm dr).lookup ("kept_edges" : Str)=some (.ref le):=by
 unfold bof;rw[qad,if_neg (by decide +kernel),qad,if_neg (by decide +kernel),qad,if_pos rfl]
theorem qwr:(bof ru day le dm dr).lookup ("kept_marks" : Str)=some (.ref dm):=by
 unfold bof;rw[qad,if_neg (by decide +kernel),qad,if_pos rfl]
theorem qlr:(bof ru day le dm dr).lookup ("kept_rolls" : Str)=some (.ref dr):=by
 unfold bof;rw[qad,if_pos rfl]
theorem qBs {m:Str} (h1:¬ m = "kept_rolls") (h2:¬ m = "kept_marks") (h3:¬ m = "kept_edges") (h4:¬ m = "kept_day") (h5:¬ m = "kept_rule"):(bof ru day le dm dr).lookup m=none:=by
 unfold bof;rw[qad,if_neg h1,qad,if_neg h2,qad,if_neg h3,qad,if_neg h4,qad,if_neg h5];rfl
end
theorem bno {ru:Addr} {day:Int} {le dm dr:Addr} {m:Str} (h:¬ (m = "kept_rolls" \/ m = "kept_marks" \/ m = "kept_edges" \/ m = "kept_day" \/ m = "kept_rule"):=by decide +kernel):(bof ru day le dm dr).lookup m=none:=by
 simp only[not_or] at h;exact qBs _ _ _ _ _ h.1 h.2.1 h.2.2.1 h.2.2.2.1 h.2.2.2.2
structure BookD where
 ru:Addr
 rl:Addr
 le:Addr
 dm:Addr
 dr:Addr
 ps:List (Int×Int)
 g:Option Int
 day:Int
def TxtL (H:Hp) (v:V) (ms:List (List Nat)):Prop:=∃ a,v=.ref a/\H a=some (.lst (ms.map tS))
theorem TxtL.same {H H':Hp} {v:V} {ms:List (List Nat)} (h:TxtL H v ms) (s:Same H H'):TxtL H' v ms:=let ⟨a,e,q⟩:=h;⟨a,e,s _ _ q⟩
open PySem L2
def qj5 (b w:Int) (n:Nat):List (List Int):=(List.range n).map λj:Nat=>[b+(j:Int)*w,w]
def qgp (ps:List (Int×Int)) (z d:Int):List (List Int):=(ps.zip (qb0 ps z)).flatMap λx=>qj5 (cut d x.2.1 x.2.2) x.1.2 ((cut d x.1.1 x.1.2-cut d x.2.1 x.2.2) / x.1.2).toNat
theorem qu9:∀ (ps qs:List (Int×Int)) (d:Int),(∀ x∈ps.zip qs,0<=(cut d x.1.1 x.1.2-cut d x.2.1 x.2.2) / x.1.2) ->
  ((((ps.zip qs).flatMap λx=>qj5 (cut d x.2.1 x.2.2) x.1.2 ((cut d x.1.1 x.1.2-cut d x.2.1 x.2.2) / x.1.2).toNat).length:Nat):Int)=(List.zipWith (λp e:Int×Int=>(cut d p.1 p.2-cut d e.1 e.2) / p.2) ps qs).sum:=by
 intro ps
 induction ps with
 | nil=>intro qs d _;rfl
 | cons p ps ih =>
  intro qs d h
  cases qs with
  | nil=>rfl
  | cons q qs =>
   have h0:=h (p,q) List.mem_cons_self;have h1:=ih qs d λx hx=>h x (List.mem_cons_of_mem _ hx)
   rw[List.zip_cons_cons,List.flatMap_cons,List.length_append,List.zipWith_cons_cons,List.sum_cons,<- h1];unfold qj5;rw[List.length_map,List.length_range];dsimp only at h0 ⊢;omega
theorem qBt {α β:Type} {x:α×β} {xs:List α} {ys:List β} (h:x∈xs.zip ys):∃ k:Nat,xs[k]?=some x.1/\ys[k]?=some x.2:=by
 obtain ⟨k,hk,e⟩:=List.getElem_of_mem h;have:=List.getElem?_eq_getElem hk;rw[e,List.getElem?_zip_eq_some] at this;exact ⟨k,this⟩
theorem qs1 {ps:List (Int×Int)} {z d:Int} (P:Pr ps (some z)):(((qgp ps z d).length:Nat):Int)<=roomOf ps z:=by
 have h:=qle (d:=d) P;have e:=qu9 ps (qb0 ps z) d λx hx=>by
  obtain ⟨k,h1,h2⟩:=qBt hx;have hk:k<ps.length:=(List.getElem?_eq_some_iff.mp h1).1;obtain ⟨p,q,a1,a2,a3,a4,w1,_,w2,dv⟩:=P.pair hk;rw[a1] at h1;rw[a2] at h2;cases h1;cases h2;have am:=((qhd P.good P.gone).2 k _ _ a3 a4).1;have:=quz (d:=d) w1 w2 am dv;exact Int.ediv_nonneg (by omega) (by omega)
 unfold qgp;rw[e];exact h
theorem qBu {b w t:Int} (hw:1<=w) (hb:w ∣ b) (h:b<=t) {e:Int} (he:w ∣ e) (ht:t<e):∃ j:Nat,t / w*w=b+(j:Int)*w/\j<((e-b) / w).toNat:=by
 obtain ⟨c,rfl⟩:=hb;obtain ⟨m,rfl⟩:=he;have h1:c<=t / w:=Int.le_ediv_of_mul_le (by omega) (by rw[Int.mul_comm];exact h);have h2:t / w<m:=Int.ediv_lt_of_lt_mul (by omega) (by rw[Int.mul_comm];exact ht);refine ⟨(t / w-c).toNat,?_,?_⟩
 ·rw[Int.toNat_of_nonneg (by omega),Int.sub_mul,Int.mul_comm w c];omega
 ·rw[<- Int.mul_sub,Int.mul_ediv_cancel_left _ (by omega)];omega
theorem cell_in {ps:List (Int×Int)} {z d t a w:Int} (P:Pr ps (some z)) (h:qbi (ps.map (·.2)) (ps.map λp=>cut d p.1 p.2) (some (cut d z (lw ps))) t=some (a,w)) (hw:w≠0):[a,w]∈qgp ps z d:=by
 have F:Fall (ps.map (·.2)) (ps.map λp=>cut d p.1 p.2) (some (cut d z (lw ps))):=Fall.of P d;have l1:=P.good.lo;have C:=qdm (ws:=ps.map (·.2)) (es:=ps.map λp=>cut d p.1 p.2) (ge:=some (cut d z (lw ps))) (by rw[List.length_map];exact l1) (by rw[List.length_map];exact l1) t;rw[h] at C;have h0:(ps.map λp=>cut d p.1 p.2)[0]?=some (cut d ps[0].1 ps[0].2):=by rw[List.getElem?_map,List.getElem?_eq_getElem (by omega)];rfl
 rcases qiw F h0 C with ⟨_,e⟩|⟨_,_,e⟩|⟨_,hg,i,w',e',S,e⟩
 ·cases e;exact absurd rfl hw
 ·cases e
 cases e;have gw:=S.gw;have ge:=S.ge;have lt:=S.lt;have hi:i<ps.length:=by have:=(List.getElem?_eq_some_iff.mp gw).1;rwa [List.length_map] at this
 obtain ⟨p,q,a1,a2,a3,a4,w1,_,w2,dv⟩:=P.pair hi;rw[List.getElem?_map,a1] at gw ge;cases gw;cases ge;have hb:cut d q.1 q.2<=t:=by
  by_cases hn:i+1<ps.length
  ·refine S.nx _ ?_
   rw[List.getElem?_map];have:ps[i+1]?=some q:=by
    unfold rowsOf at a4;rw[List.getElem?_append_left hn] at a4;exact a4
   rw[this];rfl
  ·have:q=(z,lw ps):=by
    unfold qb0 at a2;rw[List.getElem?_append_right (by simp;omega)] at a2;have e1:i-(ps.drop 1).length=0:=by simp;omega
    rw[e1] at a2;exact (Option.some.inj a2).symm
   subst this;have:¬ t<cut d z (lw ps):=λy=>hg ⟨_,rfl,y⟩
   show cut d z (lw ps)<=t
   omega
 obtain ⟨j,e1,e2⟩:=qBu (b:=cut d q.1 q.2) (w:=p.2) (t:=t) w1 (Int.dvd_trans (Int.dvd_of_emod_eq_zero dv) (Int.dvd_mul_left _ _)) hb (e:=cut d p.1 p.2) (Int.dvd_mul_left _ _) lt;unfold qgp;refine List.mem_flatMap.mpr ⟨(p,q),?_,?_⟩
 ·have:(ps.zip (qb0 ps z))[i]?=some (p,q):=by rw[List.getElem?_zip_eq_some];exact ⟨a1,a2⟩
  exact List.mem_of_getElem? this
 ·unfold qj5
  refine List.mem_map.mpr ⟨j,List.mem_range.mpr e2,?_⟩;rw[e1]
noncomputable def qzo (cell:Int->Option (Int×Int)) (rs:List Rd3):Nat:=(qce (qcp cell rs)).length
theorem qva {ps:List (Int×Int)} {z d:Int} (P:Pr ps (some z)) (rs:List Rd3):((qzo (qbi (ps.map (·.2)) (ps.map λp=>cut d p.1 p.2) (some (cut d z (lw ps)))) rs:Nat):Int)<=roomOf ps z:=by
 refine Int.le_trans ?_ (qs1 (d:=d) P)
 generalize hc:qbi (ps.map (·.2)) (ps.map λp=>cut d p.1 p.2) (some (cut d z (lw ps)))=cell
 unfold qzo qce
 split
 case isFalse=>exact Int.natCast_nonneg _
 case isTrue hx =>
  rw[List.length_map];have sk:=hx.choose_spec;refine Int.ofNat_le.mpr (List.Nodup.length_le_of_subset sk.nd λk hk=>?_);obtain ⟨r,_,e⟩:=(qsq cell rs).2 k ((sk.mem k).mp hk);unfold qwp at e
  rcases e2:cell r.1 with _|⟨a,w⟩
  ·rw[e2] at e;cases e
  ·rw[e2] at e
   dsimp only at e
   split at e
   ·injection e with e3 _;cases e3
   ·rename_i hw
    injection e with _ e4
    rw[<- e4];exact cell_in P (by rw[hc];exact e2) hw
theorem qEw {p e:Int×Int} (h1:p.1<=e.1) (h0:0<=p.1) (hw:1<=p.2) (hw2:1<=e.2) {B:Int} (hb:e.1+e.2<=B):0<=mc p e/\mc p e<=B:=by
 unfold mc;refine ⟨Int.ediv_nonneg (by omega) (by omega),Int.le_trans (Int.ediv_le_self _ (by omega)) (by omega)⟩
theorem qws:∀ {xs:List Int} {B:Int},(∀ x∈xs,0<=x/\x<=B)->0<=xs.sum/\xs.sum<=(xs.length:Int)*B:=by
 intro xs B
 induction xs with
 | nil=>intro _;simp
 | cons x xs ih =>
  intro h;have h1:=h x List.mem_cons_self;have h2:=ih λy hy=>h y (List.mem_cons_of_mem _ hy)
  rw[List.sum_cons,List.length_cons]
  push_cast
  rw[Int.add_mul];omega
theorem qs2 {ps:List (Int×Int)} {z:Int} (P:Pr ps (some z)):0<=roomOf ps z/\roomOf ps z<=10 ^ 47:=by
 have lo:=P.good.lo;have hi:=P.good.hi;obtain ⟨r1,r2⟩:=qhd P.good P.gone;have hb:∀ x∈qij ps z,0<=x/\x<=2*10 ^ 45:=λx hx=>by
  obtain ⟨k,hk,e⟩:=List.getElem_of_mem hx;have hk':k<ps.length:=by rwa [qe3 lo] at hk
  obtain ⟨p,q,a1,a2,a3,a4,w1,_,w2,dv⟩:=P.pair hk';have e2:=qjy a1 a2;rw[List.getElem?_eq_getElem hk,e] at e2;have e2:=Option.some.inj e2;rw[e2];have hs:=P.size k p a1;have am:=(r2 k _ _ a3 a4).1;refine qEw am hs.1 w1 w2 ?_
  by_cases hn:k+1<ps.length
  ·have hq:ps[k+1]?=some q:=by
    unfold rowsOf at a4;rw[List.getElem?_append_left hn] at a4;exact a4
   have:=P.size _ q hq;omega
  ·have:q=(z,lw ps):=by
    unfold qb0 at a2;rw[List.getElem?_append_right (by simp;omega)] at a2;have e1:k-(ps.drop 1).length=0:=by simp;omega
    rw[e1] at a2;exact (Option.some.inj a2).symm
   subst this;have hz:=P.gb z rfl;obtain ⟨p5,hp5,hl⟩:=P.last;have:=P.size _ _ hp5
   show z+lw ps<=_
   rw[hl];omega
 have:=qws hb;rw[qe3 lo] at this;unfold roomOf;omega
end TB
local macro_rules | `(tactic| walk_at "same") => `(tactic| first | exact L2.Same.refl _ | assumption | exact L2.New.same (by assumption) | (refine L2.qx0 ?_ (by assumption); walk_at "same") | (refine L2.Same.trans ?_ (by assumption); walk_at "same"))
local macro_rules | `(tactic| walk_at "fact") => `(tactic| first | assumption | exact L2.New.at_ (by assumption) | (refine L2.qAq (by assumption) ?_; walk_at "fact") | (refine L2.qxz (by assumption) ?_; walk_at "fact"))
local macro_rules | `(tactic| walk_at "sq") => `(tactic| first | assumption | exact L2.SqL.of (by walk_at "fact") | exact L2.SqT.of (by walk_at "fact") | exact Or.inl (L2.SqL.of (by walk_at "fact")) | exact Or.inr (L2.SqT.of (by walk_at "fact")) | exact Or.inl (by assumption) | walk_at "fact")
local macro_rules | `(tactic| walk_at "c") => `(tactic| first
 | ((with_reducible show _<=PySem.sizeLine);first|exact Nat.le_of_lt (L2.qau (Nat.le_of_ble_eq_true rfl))|exact Nat.le_of_lt (L2.qau (by omega))|exact Nat.le_of_lt (L2.qau (by simp only[List.length_map,List.length_append,List.length_cons,List.length_nil];omega)))
 | ((with_reducible show _<PySem.sizeLine);first|exact L2.qau (by omega)|exact L2.qau (by simp only[List.length_map,List.length_append,List.length_cons,List.length_nil];omega))
 | decide|omega|(dsimp only;first|decide|omega)|(simp only[List.length_map,List.length_append,List.length_cons,List.length_nil];omega)
 | ((with_reducible refine And.intro ?_ ?_)<;>walk_at "c")
 | (refine And.intro ?_ ?_<;>walk_at "c")|(refine Or.inl ?_;walk_at "c")|(refine Or.inr ?_;walk_at "c"))
local macro_rules | `(tactic| walk_at "at") => `(tactic| first | rfl | assumption | exact L2.qjd (by assumption) | exact TB.qhe (by assumption))
local macro_rules | `(tactic| walk_at "ty") => `(tactic| first | exact L2.TyOf.int _ | exact L2.TyOf.bl _ | exact L2.TyOf.non | exact L2.TyOf.str _ | exact L2.TyOf.lst (by walk_at "fact") | exact L2.TyOf.tup (by walk_at "fact"))
local macro_rules | `(tactic| walk_at "kit") => `(tactic| first | exact L2.qg6 _ | exact L2.qfs _ | exact L2.quk _ | exact L2.kit_tuple _ | rfl)
local macro_rules | `(tactic| walk_at "r1") => `(tactic| first
 | refine L2.tVarS.mk _ rfl ?_
 | refine L2.rI0S.mk _ _ rfl rfl ?_
 | refine L2.rIxLS.mk _ _ _ _ rfl rfl (by walk_at "sq") (by walk_at "at") ?_
 | refine L2.rIxTS.mk _ _ _ _ rfl rfl (by walk_at "sq") (by walk_at "at") ?_
 | refine L2.rIS.mk _ _ rfl rfl (by walk_at "c") ?_
 | refine L2.tBS.mk _ rfl ?_
 | refine L2.tAndVS.mk _ rfl ?_
 | refine L2.tOrVS.mk _ rfl ?_
 | refine L2.tNotVS.mk _ rfl ?_
 | refine L2.rUS.mk _ rfl ?_
 | refine L2.tPartS.mk _ rfl ?_
 | refine L2.rSlLNS.mk _ _ rfl (by walk_at "sq") ?_
 | refine L2.rAppendNS.mk _ _ _ rfl rfl (by walk_at "fact") (by walk_at "c") ?_
 | refine Exists.intro _ (And.intro rfl ?_)
 | refine Exists.intro _ (Exists.intro _ (And.intro rfl (And.intro rfl ?_)))
 | refine And.intro rfl ?_
 | refine Exists.intro _ (Exists.intro _ (And.intro rfl (And.intro (by walk_at "sq") ?_)))
 | refine Exists.intro _ (Exists.intro _ (Exists.intro _ (Exists.intro _ (And.intro rfl (And.intro rfl (And.intro (by walk_at "sq") (And.intro (by walk_at "at") ?_)))))))
 | refine And.intro (Or.inl ⟨rfl,_,L2.SqL.of (by walk_at "fact")⟩) ?_
 | refine Exists.intro _ (Exists.intro _ (Exists.intro _ (And.intro rfl (And.intro rfl (And.intro (by walk_at "fact") (And.intro (by walk_at "c") ?_))))))
 | refine Exists.intro _ (Exists.intro _ (Exists.intro _ (Exists.intro _ (And.intro rfl (And.intro (by walk_at "ty") (And.intro (by walk_at "kit") ?_))))))
 | refine Exists.intro _ (Exists.intro _ (And.intro rfl ?_))
 | refine And.intro (by walk_at "c") ?_
 | refine L2.qdc ?_
 | refine L2.qdy ?_)
local macro_rules | `(tactic| walk_at "n") => `(tactic| simp only [L2.tNil, List.cons_append, List.nil_append, List.append_nil])
local macro_rules | `(tactic| walk_at "r") => `(tactic| (walk_at "r1"; repeat walk_at "r1"))
namespace TB
open PySem L2
abbrev FG (K:Frag) (mg:Str->Option Value) (n:Str) (s:Stmt):Prop:=∃ f fd,Fun K n n s f fd/\mg n=some (.ref f)
abbrev FM (K:Frag) (C:Addr) (n q:Str) (s:Stmt):Prop:=∃ f fd,Fun K n q s f fd/\qqu K C n f
abbrev FMd (K:Frag) (C:Addr) (n q:Str) (s:Stmt) (i:Int):Prop:=∃ f fd dT o m t,FunD K n q s (.ref dT) f fd/\qqu K C n f/\fd.defaults=.ref dT/\K.lookup dT=some o/\o.data=.seq #[.int i t] m
abbrev FMn (K:Frag) (C:Addr) (n q:Str) (s:Stmt):Prop:=∃ f fd dT o m,FunD K n q s (.ref dT) f fd/\qqu K C n f/\fd.defaults=.ref dT/\K.lookup dT=some o/\o.data=.seq #[.none] m
abbrev FI (K:Frag) (C:Addr) (q:Str) (s:Stmt):Prop:=∃ f fd,Fun K "__init__" q s f fd/\Mk K C f
abbrev FId (K:Frag) (C:Addr) (q:Str) (s:Stmt) (vs:Array Value):Prop:=∃ f fd dT o m,FunD K "__init__" q s (.ref dT) f fd/\Mk K C f/\fd.defaults=.ref dT/\K.lookup dT=some o/\o.data=.seq vs m
section
variable {K:Frag} {h:Heap} {mg:Str->Option Value} {n q:Str} {s:Stmt} {f dT C:Addr} {od an dd:Option Addr} {sl ds:Array (Option Value)} {oc kV dc pm cd ct dk:Value} {dn:Nat} {dt:Tok} {v:Int} {vs:Array Value}
theorem fnG (X:K.In h) (G:h.Ns mainGlobals mg) (a:nsIn K mainGlobals n=some (some (.ref f))) (l:K.lookup f=some ⟨oc,od,.func (fnOf n n (qcj s) (qbm s) (qaa s) .none kV dc pm an cd ct),sl⟩) (c:codeIn K cd n=true) (k:keepIn K (.ref f)=true):FG K mg n s:=⟨f,_,qq9 l c k,mg_of X G a⟩
theorem fnM (a:PySem.W.findIn K (.ref C) n=some (some (.ref f))) (i:PySem.W.isFn K (.ref f)=true) (l:K.lookup f=some ⟨oc,od,.func (fnOf n q (qcj s) (qbm s) (qaa s) .none kV dc pm an cd ct),sl⟩) (c:codeIn K cd q=true) (k:keepIn K (.ref f)=true):FM K C n q s:=⟨f,_,qq9 l c k,⟨a,i,k⟩⟩
theorem qD5 (a:PySem.W.findIn K (.ref C) n=some (some (.ref f))) (i:PySem.W.isFn K (.ref f)=true) (l:K.lookup f=some ⟨oc,od,.func (fnOf n q (qcj s) (qbm s) (qaa s) (.ref dT) kV dc pm an cd ct),sl⟩) (c:codeIn K cd q=true) (k:keepIn K (.ref f)=true) (d:K.lookup dT=some ⟨dk,dd,.seq #[.int v dt] dn,ds⟩):FMd K C n q s v:=⟨f,_,dT,_,_,dt,⟨⟨_,_,_,_,_,_,_,_,_,rfl,l,c⟩,k⟩,⟨a,i,k⟩,rfl,d,rfl⟩
theorem qEx (a:PySem.W.findIn K (.ref C) n=some (some (.ref f))) (i:PySem.W.isFn K (.ref f)=true) (l:K.lookup f=some ⟨oc,od,.func (fnOf n q (qcj s) (qbm s) (qaa s) (.ref dT) kV dc pm an cd ct),sl⟩) (c:codeIn K cd q=true) (k:keepIn K (.ref f)=true) (d:K.lookup dT=some ⟨dk,dd,.seq #[.none] dn,ds⟩):FMn K C n q s:=⟨f,_,dT,_,_,⟨⟨_,_,_,_,_,_,_,_,_,rfl,l,c⟩,k⟩,⟨a,i,k⟩,rfl,d,rfl⟩
theorem fnI (m:PySem.W.makesIn K C=true) (kc:keepIn K (.ref C)=true) (a:PySem.W.findIn K (.ref C) "__init__" = some (some (.ref f))) (i:PySem.W.isFn K (.ref f)=true) (l:K.lookup f=some ⟨oc,od,.func (fnOf "__init__" q (qcj s) (qbm s) (qaa s) .none kV dc pm an cd ct),sl⟩) (c:codeIn K cd q=true) (k:keepIn K (.ref f)=true):FI K C q s:=⟨f,_,qq9 l c k,⟨m,a,i,kc⟩⟩
theorem qEy (m:PySem.W.makesIn K C=true) (kc:keepIn K (.ref C)=true) (a:PySem.W.findIn K (.ref C) "__init__" = some (some (.ref f))) (i:PySem.W.isFn K (.ref f)=true) (l:K.lookup f=some ⟨oc,od,.func (fnOf "__init__" q (qcj s) (qbm s) (qaa s) (.ref dT) kV dc pm an cd ct),sl⟩) (c:codeIn K cd q=true) (k:keepIn K (.ref f)=true) (d:K.lookup dT=some ⟨dk,dd,.seq vs dn,ds⟩):FId K C q s vs:=⟨f,_,dT,_,_,⟨⟨_,_,_,_,_,_,_,_,_,rfl,l,c⟩,k⟩,⟨m,a,i,kc⟩,rfl,d,rfl⟩
theorem naI (h:PySem.W.findIn K (.ref C) n=some none):NoAttr K C n:=h
theorem exI (h:PySem.W.excIn K C qAn "ValueError.__new__" = true):qxy K C:=h
theorem cI (X:K.In h) (G:h.Ns mainGlobals mg) (a:nsIn K mainGlobals n=some (some (.int v dt))):∃ t,mg n=some (.int v t):=⟨_,mg_of X G a⟩
theorem cS {x:Str} (X:K.In h) (G:h.Ns mainGlobals mg) (a:nsIn K mainGlobals n=some (some (.str x dt))):∃ t,mg n=some (.str x t):=⟨_,mg_of X G a⟩
end
theorem scp {N P:List Str} {sc:Scope} (h1:sc.kind=.function:=by rfl) (h2:sc.isCoroutine=false:=by rfl) (h3:sc.isGenerator=false:=by rfl) (h4:N.Nodup:=by decide +kernel) (h5:N.take P.length=P:=by rfl) (h6:∀ x∈P,sc.names.lookup x=some .local\/sc.names.lookup x=some .cell:=by decide +kernel) (h7:∀ y∈sc.names,y.2≠.free:=by decide +kernel):qaf N P sc:=⟨h1,h2,h3,h4,h5,h6,h7⟩
def top (i:Nat):Stmt:=PySem.Challenge.pw_thinbook_k75_the_size.main.body.getD i (.Pass ⟨0,0,0,0⟩)
abbrev qix:Stmt:=(top 9)
abbrev qls:Stmt:=(top 10)
abbrev qiy:Stmt:=(top 12)
abbrev qiz:Stmt:=(top 13)
abbrev qd9:Stmt:=(top 14)
abbrev qlt:Stmt:=(top 15)
abbrev qlu:Stmt:=(top 16)
abbrev qi0:Stmt:=(top 17)
abbrev qlv:Stmt:=(top 18)
abbrev qlw:Stmt:=(top 20)
abbrev qoj:Stmt:=(top 21)
abbrev qhr:Stmt:=(inClass (top 23) 0)
abbrev qfl:Stmt:=(inClass (top 23) 1)
abbrev qb7:Stmt:=(inClass (top 23) 2)
abbrev qdd:Stmt:=(inClass (top 23) 3)
abbrev qdn:Stmt:=(inClass (top 23) 4)
abbrev qhs:Stmt:=(inClass (top 23) 5)
abbrev qi1:Stmt:=(inClass (top 23) 6)
abbrev qfw:Stmt:=(inClass (top 23) 7)
abbrev qfx:Stmt:=(inClass (top 23) 8)
abbrev qfy:Stmt:=(inClass (top 23) 9)
abbrev qs3:Stmt:=(top 24)
abbrev qlx:Stmt:=(top 27)
abbrev qde:Stmt:=(top 28)
abbrev qcx:Stmt:=(top 29)
abbrev qe8:Stmt:=(top 30)
abbrev qfz:Stmt:=(top 31)
abbrev qf0:Stmt:=(top 32)
abbrev qei:Stmt:=(inClass (top 33) 0)
abbrev qf1:Stmt:=(inClass (top 33) 1)
abbrev qht:Stmt:=(inClass (top 33) 2)
abbrev qhu:Stmt:=(inClass (top 33) 3)
abbrev qhv:Stmt:=(top 34)
abbrev qf2:Stmt:=(top 35)
abbrev qwt:Stmt:=(top 37)
abbrev qdo:Stmt:=(top 42)
abbrev qly:Stmt:=(top 43)
abbrev qlz:Stmt:=(top 44)
abbrev qe9:Stmt:=(top 47)
abbrev qhw:Stmt:=(inClass (top 48) 0)
abbrev qdp:Stmt:=(inClass (top 48) 1)
abbrev qb8:Stmt:=(inClass (top 48) 2)
abbrev qdq:Stmt:=(inClass (top 48) 3)
abbrev qfm:Stmt:=(inClass (top 48) 4)
abbrev qhx:Stmt:=(inClass (top 48) 11)
abbrev qi2:Stmt:=(inClass (top 48) 12)
abbrev qf3:Stmt:=(inClass (top 48) 13)
abbrev qf4:Stmt:=(inClass (top 48) 14)
abbrev qf5:Stmt:=(inClass (top 48) 15)
abbrev qhy:Stmt:=(inClass (top 48) 16)
abbrev qf6:Stmt:=(top 49)
abbrev qs4:Stmt:=(top 51)
abbrev qhz:Stmt:=(top 52)
abbrev qf7:Stmt:=(top 53)
abbrev qf8:Stmt:=(top 54)
abbrev qwu:Stmt:=(top 55)
abbrev qea:Stmt:=(top 57)
abbrev qf9:Stmt:=(top 58)
abbrev qh0:Stmt:=(top 59)
abbrev qh1:Stmt:=(top 61)
abbrev qga:Stmt:=(top 66)
abbrev qdr:Stmt:=(top 67)
abbrev qy5:Stmt:=(top 68)
theorem sc_is_whole:qaf ["thing"] ["thing"] (qaa qix):=scp
theorem sc_floored:qaf ["number", "width"] ["number", "width"] (qaa qls):=scp
theorem sc_gone_cut:qaf ["rule", "day", "gone"] ["rule", "day"] (qaa qiy):=scp
theorem sc_edges_at:qaf ["rule", "day", "cuts"] ["rule", "day"] (qaa qiz):=scp
theorem sc_greater_edge:qaf ["one", "other"] ["one", "other"] (qaa qd9):=scp
theorem sc_greater:qaf ["one", "other"] ["one", "other"] (qaa qlt):=scp
theorem sc_is_gone:qaf ["edges", "time"] ["edges", "time"] (qaa qlu):=scp
theorem sc_width_at:qaf ["rule", "edges", "time", "widths"] ["rule", "edges", "time"] (qaa qi0):=scp
theorem sc_cell_at:qaf ["rule", "edges", "time", "width"] ["rule", "edges", "time"] (qaa qlv):=scp
theorem sc_heap_of:qaf ["runs", "values", "how_many", "total"] ["runs"] (qaa qlw):=scp
theorem sc_poured:qaf ["one", "other"] ["one", "other"] (qaa qoj):=scp
theorem sc_Roll_init:qaf ["self", "rule", "day"] ["self", "rule", "day"] (qaa qhr):=scp
theorem sc_Roll_put:qaf ["self", "time", "value", "many", "cell"] ["self", "time", "value", "many"] (qaa qfl):=scp
theorem sc_Roll_pour_into_cell:qaf ["self", "cell", "heap"] ["self", "cell", "heap"] (qaa qb7):=scp
theorem sc_Roll_take_heap:qaf ["self", "start", "heap", "cell"] ["self", "start", "heap"] (qaa qdd):=scp
theorem sc_Roll_take_all:qaf ["self", "roll", "time", "value", "many", "row"] ["self", "roll"] (qaa qdn):=scp
theorem sc_Roll_rule:qaf ["self"] ["self"] (qaa qhs):=scp
theorem sc_Roll_day:qaf ["self"] ["self"] (qaa qi1):=scp
theorem sc_Roll_edges:qaf ["self"] ["self"] (qaa qfw):=scp
theorem sc_Roll_young:qaf ["self"] ["self"] (qaa qfx):=scp
theorem sc_Roll_heaps:qaf ["self"] ["self"] (qaa qfy):=scp
theorem sc_begun:qaf ["rule", "day", "edges", "roll"] ["rule", "day", "edges"] (qaa qs3):=scp
theorem sc_is_step:qaf ["thing"] ["thing"] (qaa qlx):=scp
theorem sc_check_one_step:qaf ["step"] ["step"] (qaa qde):=scp
theorem sc_check_next_step:qaf ["step", "behind"] ["step", "behind"] (qaa qcx):=scp
theorem sc_check_steps:qaf ["steps", "step", "behind"] ["steps"] (qaa qe8):=scp
theorem sc_check_gone:qaf ["gone", "last_age"] ["gone", "last_age"] (qaa qfz):=scp
theorem sc_most_cells:qaf ["step", "behind"] ["step", "behind"] (qaa qf0):=scp
theorem sc_Rule_init:qaf ["self", "steps", "gone", "kept"] ["self", "steps", "gone"] (qaa qei):=scp
theorem sc_Rule_steps:qaf ["self"] ["self"] (qaa qf1):=scp
theorem sc_Rule_gone:qaf ["self"] ["self"] (qaa qht):=scp
theorem sc_Rule_room:qaf ["self", "ends"] ["self"] (qaa qhu):=scp
theorem sc_widths_of:qaf ["rule"] ["rule"] (qaa qhv):=scp
theorem sc_same_rules:qaf ["one", "other"] ["one", "other"] (qaa qf2):=scp
theorem sc_aged:qaf ["roll", "day", "new"] ["roll", "day"] (qaa qwt):=scp
theorem sc_is_small_word:qaf ["thing", "longest"] ["thing", "longest"] (qaa qdo):=scp
theorem sc_is_name:qaf ["thing"] ["thing"] (qaa qly):=scp
theorem sc_is_mark:qaf ["thing"] ["thing"] (qaa qlz):=scp
theorem sc_check_marks:qaf ["marks"] ["marks"] (qaa qe9):=scp
theorem sc_Book_init:qaf ["self", "rule", "day"] ["self", "rule", "day"] (qaa qhw):=scp
theorem sc_Book_enrol:qaf ["self", "name", "marks", "told"] ["self", "name", "marks"] (qaa qdp):=scp
theorem sc_Book_check_enrolled:qaf ["self", "name"] ["self", "name"] (qaa qb8):=scp
theorem sc_Book_own_roll:qaf ["self", "name"] ["self", "name"] (qaa qdq):=scp
theorem sc_Book_put:qaf ["self", "name", "time", "value", "many"] ["self", "name", "time", "value", "many"] (qaa qfm):=scp
theorem sc_Book_rule:qaf ["self"] ["self"] (qaa qhx):=scp
theorem sc_Book_day:qaf ["self"] ["self"] (qaa qi2):=scp
theorem sc_Book_edges:qaf ["self"] ["self"] (qaa qf3):=scp
theorem sc_Book_names:qaf ["self"] ["self"] (qaa qf4):=scp
theorem sc_Book_marks:qaf ["self", "name"] ["self", "name"] (qaa qf5):=scp
theorem sc_Book_roll:qaf ["self", "name"] ["self", "name"] (qaa qhy):=scp
theorem sc_begun_book:qaf ["rule", "day", "edges", "book"] ["rule", "day", "edges"] (qaa qf6):=scp
theorem sc_moved:qaf ["book", "rule", "day", "new", "name"] ["book", "rule", "day"] (qaa qs4):=scp
theorem sc_aged_book:qaf ["book", "day"] ["book", "day"] (qaa qhz):=scp
theorem sc_book_under:qaf ["book", "rule"] ["book", "rule"] (qaa qf7):=scp
theorem sc_both_books:qaf ["one", "other", "new", "name", "holders", "marks", "book"] ["one", "other"] (qaa qf8):=scp
theorem sc_size:qaf ["book", "names", "heaps", "room"] ["book"] (qaa qwu):=scp
theorem sc__law_cell_at:qaf ["_law_script", "_law_k"] ["_law_script", "_law_k"] (qaa qea):=scp
theorem sc__law_mixed:qaf ["_law_draw", "_law_k", "_law_number"] ["_law_draw", "_law_k"] (qaa qf9):=scp
theorem sc__law_name:qaf ["_law_draw", "_law_k", "_law_some", "_law_length", "_law_body", "_law_at"] ["_law_draw", "_law_k"] (qaa qh0):=scp
theorem sc__law_rule:qaf ["_law_draw", "_law_wide", "_law_age", "_law_width", "_law_steps", "_law_k"] ["_law_draw"] (qaa qh1):=scp
theorem sc__law_right:qaf ["_law_book", "_law_heaps", "_law_room", "_law_most", "_law_found"] ["_law_book"] (qaa qga):=scp
theorem sc__law_many_put:qaf ["_law_book", "_law_names", "_law_steps", "_law_day", "_law_draw", "_law_back", "_law_step", "_law_k"] ["_law_book", "_law_names", "_law_steps", "_law_day", "_law_draw"] (qaa qdr):=scp
theorem sc_law:qaf ["_law_script", "_law_steps", "_law_gone", "_law_made", "_law_day", "_law_one", "_law_names", "_law_books", "_law_name_here", "_law_draw", "_law_later"] ["_law_script"] (qaa qy5):=scp
structure Txt (K:Frag) (mg:Str->Option Value) (C_Roll C_Rule C_Book C_BookError C_NoNumber C_NoRule C_Backward C_NoName C_NoMark:Addr):Prop where
 f_is_whole:FG K mg "is_whole" qix
 f_floored:FG K mg "floored" qls
 f_gone_cut:FG K mg "gone_cut" qiy
 f_edges_at:FG K mg "edges_at" qiz
 f_greater_edge:FG K mg "greater_edge" qd9
 f_greater:FG K mg "greater" qlt
 f_is_gone:FG K mg "is_gone" qlu
 f_width_at:FG K mg "width_at" qi0
 f_cell_at:FG K mg "cell_at" qlv
 f_heap_of:FG K mg "heap_of" qlw
 f_poured:FG K mg "poured" qoj
 f_Roll_init:FI K C_Roll "Roll.__init__" qhr
 f_Roll_put:FMd K C_Roll "put" "Roll.put" qfl 1
 f_Roll_pour_into_cell:FM K C_Roll "pour_into_cell" "Roll.pour_into_cell" qb7
 f_Roll_take_heap:FM K C_Roll "take_heap" "Roll.take_heap" qdd
 f_Roll_take_all:FM K C_Roll "take_all" "Roll.take_all" qdn
 f_Roll_rule:FM K C_Roll "rule" "Roll.rule" qhs
 f_Roll_day:FM K C_Roll "day" "Roll.day" qi1
 f_Roll_edges:FM K C_Roll "edges" "Roll.edges" qfw
 f_Roll_young:FM K C_Roll "young" "Roll.young" qfx
 f_Roll_heaps:FM K C_Roll "heaps" "Roll.heaps" qfy
 f_begun:FG K mg "begun" qs3
 f_is_step:FG K mg "is_step" qlx
 f_check_one_step:FG K mg "check_one_step" qde
 f_check_next_step:FG K mg "check_next_step" qcx
 f_check_steps:FG K mg "check_steps" qe8
 f_check_gone:FG K mg "check_gone" qfz
 f_most_cells:FG K mg "most_cells" qf0
 f_Rule_init:FId K C_Rule "Rule.__init__" qei #[.none]
 f_Rule_steps:FM K C_Rule "steps" "Rule.steps" qf1
 f_Rule_gone:FM K C_Rule "gone" "Rule.gone" qht
 f_Rule_room:FM K C_Rule "room" "Rule.room" qhu
 f_widths_of:FG K mg "widths_of" qhv
 f_same_rules:FG K mg "same_rules" qf2
 f_aged:FG K mg "aged" qwt
 f_is_small_word:FG K mg "is_small_word" qdo
 f_is_name:FG K mg "is_name" qly
 f_is_mark:FG K mg "is_mark" qlz
 f_check_marks:FG K mg "check_marks" qe9
 f_Book_init:FI K C_Book "Book.__init__" qhw
 f_Book_enrol:FMn K C_Book "enrol" "Book.enrol" qdp
 f_Book_check_enrolled:FM K C_Book "check_enrolled" "Book.check_enrolled" qb8
 f_Book_own_roll:FM K C_Book "own_roll" "Book.own_roll" qdq
 f_Book_put:FMd K C_Book "put" "Book.put" qfm 1
 f_Book_rule:FM K C_Book "rule" "Book.rule" qhx
 f_Book_day:FM K C_Book "day" "Book.day" qi2
 f_Book_edges:FM K C_Book "edges" "Book.edges" qf3
 f_Book_names:FM K C_Book "names" "Book.names" qf4
 f_Book_marks:FM K C_Book "marks" "Book.marks" qf5
 f_Book_roll:FM K C_Book "roll" "Book.roll" qhy
 f_begun_book:FG K mg "begun_book" qf6
 f_moved:FG K mg "moved" qs4
 f_aged_book:FG K mg "aged_book" qhz
 f_book_under:FG K mg "book_under" qf7
 f_both_books:FG K mg "both_books" qf8
 f_size:FG K mg "size" qwu
 f__law_cell_at:FG K mg "_law_cell_at" qea
 f__law_mixed:FG K mg "_law_mixed" qf9
 f__law_name:FG K mg "_law_name" qh0
 f__law_rule:FG K mg "_law_rule" qh1
 f__law_right:FG K mg "_law_right" qga
 f__law_many_put:FG K mg "_law_many_put" qdr
 f_law:FG K mg "law" qy5
 cl_Roll:Cls K C_Roll
 mg_Roll:mg "Roll" = some (.ref C_Roll)
 na_Roll_kept_rule:NoAttr K C_Roll "kept_rule"
 na_Roll_kept_day:NoAttr K C_Roll "kept_day"
 na_Roll_kept_edges:NoAttr K C_Roll "kept_edges"
 na_Roll_whole_ones:NoAttr K C_Roll "whole_ones"
 na_Roll_cell_heaps:NoAttr K C_Roll "cell_heaps"
 cl_Rule:Cls K C_Rule
 mg_Rule:mg "Rule" = some (.ref C_Rule)
 na_Rule_kept_steps:NoAttr K C_Rule "kept_steps"
 na_Rule_gone_age:NoAttr K C_Rule "gone_age"
 cl_Book:Cls K C_Book
 mg_Book:mg "Book" = some (.ref C_Book)
 na_Book_kept_rule:NoAttr K C_Book "kept_rule"
 na_Book_kept_day:NoAttr K C_Book "kept_day"
 na_Book_kept_edges:NoAttr K C_Book "kept_edges"
 na_Book_kept_marks:NoAttr K C_Book "kept_marks"
 na_Book_kept_rolls:NoAttr K C_Book "kept_rolls"
 mg_BookError:mg "BookError" = some (.ref C_BookError)
 mg_NoNumber:mg "NoNumber" = some (.ref C_NoNumber)
 mg_NoRule:mg "NoRule" = some (.ref C_NoRule)
 mg_Backward:mg "Backward" = some (.ref C_Backward)
 mg_NoName:mg "NoName" = some (.ref C_NoName)
 mg_NoMark:mg "NoMark" = some (.ref C_NoMark)
 ex_BookError:qxy K C_BookError
 kx_BookError:qzm K C_BookError
 hit_BookError_BookError:PySem.W.mroIn K C_BookError (.ref C_BookError)=some true
 is_BookError_BookError:PySem.W.kitOne K (.ref C_BookError) (.ref C_BookError)=some true
 is_BookError_NoNumber:PySem.W.kitOne K (.ref C_BookError) (.ref C_NoNumber)=some false
 is_BookError_NoRule:PySem.W.kitOne K (.ref C_BookError) (.ref C_NoRule)=some false
 is_BookError_Backward:PySem.W.kitOne K (.ref C_BookError) (.ref C_Backward)=some false
 is_BookError_NoName:PySem.W.kitOne K (.ref C_BookError) (.ref C_NoName)=some false
 is_BookError_NoMark:PySem.W.kitOne K (.ref C_BookError) (.ref C_NoMark)=some false
 is_BookError_ValueError:PySem.W.kitOne K (.ref C_BookError) (.type "ValueError")=some true
 ex_NoNumber:qxy K C_NoNumber
 kx_NoNumber:qzm K C_NoNumber
 hit_NoNumber_BookError:PySem.W.mroIn K C_NoNumber (.ref C_BookError)=some true
 is_NoNumber_BookError:PySem.W.kitOne K (.ref C_NoNumber) (.ref C_BookError)=some true
 hit_NoNumber_NoNumber:PySem.W.mroIn K C_NoNumber (.ref C_NoNumber)=some true
 is_NoNumber_NoNumber:PySem.W.kitOne K (.ref C_NoNumber) (.ref C_NoNumber)=some true
 is_NoNumber_NoRule:PySem.W.kitOne K (.ref C_NoNumber) (.ref C_NoRule)=some false
 is_NoNumber_Backward:PySem.W.kitOne K (.ref C_NoNumber) (.ref C_Backward)=some false
 is_NoNumber_NoName:PySem.W.kitOne K (.ref C_NoNumber) (.ref C_NoName)=some false
 is_NoNumber_NoMark:PySem.W.kitOne K (.ref C_NoNumber) (.ref C_NoMark)=some false
 is_NoNumber_ValueError:PySem.W.kitOne K (.ref C_NoNumber) (.type "ValueError")=some true
 ex_NoRule:qxy K C_NoRule
 kx_NoRule:qzm K C_NoRule
 hit_NoRule_BookError:PySem.W.mroIn K C_NoRule (.ref C_BookError)=some true
 is_NoRule_BookError:PySem.W.kitOne K (.ref C_NoRule) (.ref C_BookError)=some true
 is_NoRule_NoNumber:PySem.W.kitOne K (.ref C_NoRule) (.ref C_NoNumber)=some false
 hit_NoRule_NoRule:PySem.W.mroIn K C_NoRule (.ref C_NoRule)=some true
 is_NoRule_NoRule:PySem.W.kitOne K (.ref C_NoRule) (.ref C_NoRule)=some true
 is_NoRule_Backward:PySem.W.kitOne K (.ref C_NoRule) (.ref C_Backward)=some false
 is_NoRule_NoName:PySem.W.kitOne K (.ref C_NoRule) (.ref C_NoName)=some false
 is_NoRule_NoMark:PySem.W.kitOne K (.ref C_NoRule) (.ref C_NoMark)=some false
 is_NoRule_ValueError:PySem.W.kitOne K (.ref C_NoRule) (.type "ValueError")=some true
 kx_Backward:qzm K C_Backward
 hit_Backward_BookError:PySem.W.mroIn K C_Backward (.ref C_BookError)=some true
 is_Backward_BookError:PySem.W.kitOne K (.ref C_Backward) (.ref C_BookError)=some true
 is_Backward_NoNumber:PySem.W.kitOne K (.ref C_Backward) (.ref C_NoNumber)=some false
 is_Backward_NoRule:PySem.W.kitOne K (.ref C_Backward) (.ref C_NoRule)=some false
 hit_Backward_Backward:PySem.W.mroIn K C_Backward (.ref C_Backward)=some true
 is_Backward_Backward:PySem.W.kitOne K (.ref C_Backward) (.ref C_Backward)=some true
 is_Backward_NoName:PySem.W.kitOne K (.ref C_Backward) (.ref C_NoName)=some false
 is_Backward_NoMark:PySem.W.kitOne K (.ref C_Backward) (.ref C_NoMark)=some false
 is_Backward_ValueError:PySem.W.kitOne K (.ref C_Backward) (.type "ValueError")=some true
 ex_NoName:qxy K C_NoName
 kx_NoName:qzm K C_NoName
 hit_NoName_BookError:PySem.W.mroIn K C_NoName (.ref C_BookError)=some true
 is_NoName_BookError:PySem.W.kitOne K (.ref C_NoName) (.ref C_BookError)=some true
 is_NoName_NoNumber:PySem.W.kitOne K (.ref C_NoName) (.ref C_NoNumber)=some false
 is_NoName_NoRule:PySem.W.kitOne K (.ref C_NoName) (.ref C_NoRule)=some false
 is_NoName_Backward:PySem.W.kitOne K (.ref C_NoName) (.ref C_Backward)=some false
 hit_NoName_NoName:PySem.W.mroIn K C_NoName (.ref C_NoName)=some true
 is_NoName_NoName:PySem.W.kitOne K (.ref C_NoName) (.ref C_NoName)=some true
 is_NoName_NoMark:PySem.W.kitOne K (.ref C_NoName) (.ref C_NoMark)=some false
 is_NoName_ValueError:PySem.W.kitOne K (.ref C_NoName) (.type "ValueError")=some true
 ex_NoMark:qxy K C_NoMark
 kx_NoMark:qzm K C_NoMark
 hit_NoMark_BookError:PySem.W.mroIn K C_NoMark (.ref C_BookError)=some true
 is_NoMark_BookError:PySem.W.kitOne K (.ref C_NoMark) (.ref C_BookError)=some true
 is_NoMark_NoNumber:PySem.W.kitOne K (.ref C_NoMark) (.ref C_NoNumber)=some false
 is_NoMark_NoRule:PySem.W.kitOne K (.ref C_NoMark) (.ref C_NoRule)=some false
 is_NoMark_Backward:PySem.W.kitOne K (.ref C_NoMark) (.ref C_Backward)=some false
 is_NoMark_NoName:PySem.W.kitOne K (.ref C_NoMark) (.ref C_NoName)=some false
 hit_NoMark_NoMark:PySem.W.mroIn K C_NoMark (.ref C_NoMark)=some true
 is_NoMark_NoMark:PySem.W.kitOne K (.ref C_NoMark) (.ref C_NoMark)=some true
 is_NoMark_ValueError:PySem.W.kitOne K (.ref C_NoMark) (.type "ValueError")=some true
 b_all:mg "all" = none
 b_bool:mg "bool" = none
 b_int:mg "int" = none
 b_isinstance:mg "isinstance" = none
 b_len:mg "len" = none
 b_list:mg "list" = none
 b_max:mg "max" = none
 b_min:mg "min" = none
 b_range:mg "range" = none
 b_set:mg "set" = none
 b_sorted:mg "sorted" = none
 b_str:mg "str" = none
 b_sum:mg "sum" = none
 b_tuple:mg "tuple" = none
 b_zip:mg "zip" = none
 c_MOST_STEPS:∃ t,mg "MOST_STEPS" = some (.int 5 t)
 c_LETTERS:∃ t,mg "LETTERS" = some (.str "abcdefghijklmnopqrstuvwxyz" t)
 c_LONGEST_NAME:∃ t,mg "LONGEST_NAME" = some (.int 12 t)
 c_LONGEST_MARK:∃ t,mg "LONGEST_MARK" = some (.int 8 t)
 c_MOST_MARKS:∃ t,mg "MOST_MARKS" = some (.int 8 t)
theorem qBv {K:Frag} {mg:Str->Option Value} {C_Roll C_Rule C_Book C_BookError C_NoNumber C_NoRule C_Backward C_NoName C_NoMark:Addr} (_:nsIn K mainGlobals "Roll" = some (some (.ref C_Roll))) (_:nsIn K mainGlobals "Rule" = some (some (.ref C_Rule))) (_:nsIn K mainGlobals "Book" = some (some (.ref C_Book))) (_:nsIn K mainGlobals "BookError" = some (some (.ref C_BookError))) (_:nsIn K mainGlobals "NoNumber" = some (some (.ref C_NoNumber))) (_:nsIn K mainGlobals "NoRule" = some (some (.ref C_NoRule))) (_:nsIn K mainGlobals "Backward" = some (some (.ref C_Backward))) (_:nsIn K mainGlobals "NoName" = some (some (.ref C_NoName))) (_:nsIn K mainGlobals "NoMark" = some (some (.ref C_NoMark))) (T:Txt K mg C_Roll C_Rule C_Book C_BookError C_NoNumber C_NoRule C_Backward C_NoName C_NoMark):∃ C_Roll C_Rule C_Book C_BookError C_NoNumber C_NoRule C_Backward C_NoName C_NoMark,Txt K mg C_Roll C_Rule C_Book C_BookError C_NoNumber C_NoRule C_Backward C_NoName C_NoMark:=⟨C_Roll,C_Rule,C_Book,C_BookError,C_NoNumber,C_NoRule,C_Backward,C_NoName,C_NoMark,T⟩
section
variable {P:Program} {w:World} {K:Frag} {mg:Str->Option Value} {base:Heap} {C_Roll C_Rule C_Book C_BookError C_NoNumber C_NoRule C_Backward C_NoName C_NoMark:Addr} (T:Txt K mg C_Roll C_Rule C_Book C_BookError C_NoNumber C_NoRule C_Backward C_NoName C_NoMark)
include T in
theorem qfn:qbe P w K mg base 1 "is_whole" ["thing"] qm0:=by
 obtain ⟨f,fd,F,hm⟩:=T.f_is_whole;have nd:=sc_is_whole.nd;refine F.def_ hm (F.ok sc_is_whole (λvs H Q E h=>?_) (λcdv A outer s H vs Q E hr h=>?_)) (F.binds λ_ _ _ _ _ _ us hl=>by obtain ⟨_,rfl⟩:=L2.lq1 hl;rfl)
 ·obtain ⟨x,rfl,_⟩:=h;rfl
 ·obtain ⟨x,rfl,i,rfl,q⟩:=h
  refine ⟨_,(qae (qai (qfr (qag qev rfl T.b_isinstance qbx (jA2 (pv 0) (qgu (v:=.ty "int") rfl T.b_int qAf rfl))) (qil (qzu (qag qev rfl T.b_isinstance qbx (jA2 (pv 0) (qgu (v:=.ty "bool") rfl T.b_bool qxv rfl)))))))),?_⟩;refine ⟨_,rfl,_,_,_,true,rfl,.int i,qg6 _,_,rfl,qdc ?_⟩;exact ⟨_,rfl,_,_,_,false,rfl,.int i,qfs _,_,rfl,q⟩
include T in
theorem qs5:qbe P w K mg base 2 "is_step" ["thing"] qpn:=by
 obtain ⟨f,fd,F,hm⟩:=T.f_is_step;have nd:=sc_is_step.nd;refine F.def_ hm (F.ok sc_is_step (λvs H Q E h=>?_) (λcdv A outer s H vs Q E hr h=>?_)) (F.binds λ_ _ _ _ _ _ us hl=>by obtain ⟨_,rfl⟩:=L2.lq1 hl;rfl)
 ·obtain ⟨x,p,rfl,_⟩:=h;rfl
 ·obtain ⟨x,p,rfl,⟨a,rfl,ha⟩,q⟩:=h
  refine ⟨_,(qae (qai (qfr (qag qev rfl T.b_isinstance qbx (jA2 (pv 0) (qgu (v:=.ty "tuple") rfl T.b_tuple qnm rfl))) (qfr (jD qt1 (qag qal rfl T.b_len qbw (jA1 (pv 0))) qab) (qfr (jF (qfn T) hr (jA1 (jT (pv 0) qab))) (qil (jF (qfn T) hr (jA1 (jT (pv 0) qab))))))))),?_⟩;refine ⟨_,rfl,_,_,_,true,rfl,.tup ha,kit_tuple _,_,rfl,qdc ?_⟩;refine ⟨_,rfl,a,_,rfl,.inr (SqT.of ha),rfl,_,rfl,qdc ?_⟩;refine ⟨_,rfl,a,_,0,_,rfl,rfl,SqT.of ha,rfl,_,rfl,_,rfl,_,rfl,qdc ?_⟩;exact ⟨_,rfl,a,_,1,_,rfl,rfl,SqT.of ha,rfl,_,rfl,_,rfl,q⟩
include T in
theorem qgj:qbe P w K mg base 3 "check_one_step" ["step"] qfi:=by
 obtain ⟨f,fd,F,hm⟩:=T.f_check_one_step;have nd:=sc_check_one_step.nd;refine F.def_ hm (F.ok sc_check_one_step (λvs H Q E h=>?_) (λcdv A outer s H vs Q E hr h=>?_)) (F.binds λ_ _ _ _ _ _ us hl=>by obtain ⟨_,rfl⟩:=L2.lq1 hl;rfl)
 ·obtain ⟨x,p,rfl,_⟩:=h;rfl
 ·obtain ⟨x,p,rfl,hp,h1,h2,q⟩:=h
  obtain ⟨a,rfl,ha⟩:=id hp;refine ⟨_,(jB3 (qbd (qda (qcu (jF (qs5 T) hr (jA1 (pv 0))))) (qae qbs) qao) (qbd (jC qif (jT (pv 0) qab) qab) (qae qbs) qao) (qbd (jC qif (jT (pv 0) qab) qab) (qae qbs) qao)),?_⟩;refine ⟨_,rfl,_,p,rfl,hp,_,rfl,qdy ?_⟩;refine ⟨_,rfl,a,_,0,_,rfl,rfl,SqT.of ha,rfl,_,_,rfl,rfl,_,rfl,qmv (λz=>?_) λ_=>?_⟩
  ·exact absurd (of_decide_eq_true z) (by omega)
  refine ⟨_,rfl,a,_,1,_,rfl,rfl,SqT.of ha,rfl,_,_,rfl,rfl,_,rfl,qmv (λz=>?_) λ_=>q⟩;exact absurd (of_decide_eq_true z) (by omega)
include T in
theorem qfo:qbe P w K mg base 1 "check_next_step" ["step", "behind"] qcq:=by
 obtain ⟨f,fd,F,hm⟩:=T.f_check_next_step;have nd:=sc_check_next_step.nd;refine F.def_ hm (F.ok sc_check_next_step (λvs H Q E h=>?_) (λcdv A outer s H vs Q E hr h=>?_)) (F.binds λ_ _ _ _ _ _ us hl=>by obtain ⟨_,_,rfl⟩:=L2.lq2 hl;rfl)
 ·obtain ⟨x,y,p,p',rfl,_⟩:=h;rfl
 ·obtain ⟨x,y,p,p',rfl,⟨a,rfl,ha⟩,⟨b,rfl,hb⟩,h0,h1,h2,q⟩:=h
  refine ⟨_,(jB2 (qbd (jC qif (jT (pv 1) qab) (jT (pv 0) qab)) (qae qbs) qao) (qbd (jC qt2 (qak qa8 (jT (pv 1) qab) (jT (pv 0) qab)) qab) (qae qbs) qao)),?_⟩;refine ⟨_,rfl,b,_,0,_,rfl,rfl,SqT.of hb,rfl,_,rfl,a,_,0,_,rfl,rfl,SqT.of ha,rfl,_,_,rfl,rfl,_,rfl,qmv (λz=>?_) λ_=>?_⟩
  ·exact absurd (of_decide_eq_true z) (by omega)
  refine ⟨_,rfl,b,_,1,_,rfl,rfl,SqT.of hb,rfl,_,rfl,a,_,1,_,rfl,rfl,SqT.of ha,rfl,_,_,rfl,rfl,(by show 0<p.2;omega),rfl,_,rfl,?_⟩;refine qAd ?_ q;exact congrArg V.int h2
include T in
theorem qj6:qbe P w K mg base 4 "check_steps" ["steps"] qd8:=by
 obtain ⟨f,fd,F,hm⟩:=T.f_check_steps;have nd:=sc_check_steps.nd;refine F.def_ hm (F.ok sc_check_steps (λvs H Q E h=>?_) (λcdv A outer s H vs Q E hr h=>?_)) (F.binds λ_ _ _ _ _ _ us hl=>by obtain ⟨_,rfl⟩:=L2.lq1 hl;rfl)
 ·obtain ⟨l,xs,ps,rfl,_⟩:=h;rfl
 ·obtain ⟨l,xs,ps,rfl,hl,hp,G,q⟩:=h
  have hlen:=hp.length;have g1:=G.lo;have g2:=G.hi;refine ⟨_,(jB3 (qbd (PW.pt (qke (jC qif (qag qal rfl T.b_len qbw (jA1 (pv 0))) qab) (qgv (jC qxb (qag qal rfl T.b_len qbw (jA1 (pv 0))) (qgt (v:=.int 5) rfl T.c_MOST_STEPS.choose_spec ⟨_,rfl⟩))))) (qae qbs) qao) (qdb PassesOwn.never rfl (qbb (pv 0)) (jN 1 nd) (qae (qa5 (jF (qgj T) hr (jA1 (pv 1)))))) (qdb PassesOwn.never rfl (qnl rfl T.b_zip (jA2 (pv 0) (qdx qji (pv 0) (qee qab) qg0))) (jG2 (jN 1 nd) (jN 2 nd)) (qae (qa5 (jF (qfo T) hr (jA2 (pv 1) (pv 2))))))),?_⟩;refine ⟨_,rfl,l,xs,rfl,.inl (SqL.of hl),_,_,rfl,rfl,_,rfl,qmv (λz=>?_) λ_=>?_⟩
  ·exact absurd (of_decide_eq_true z) (by omega)
  refine ⟨_,rfl,l,xs,rfl,.inl (SqL.of hl),_,_,rfl,rfl,_,rfl,qmv (λz=>?_) λ_=>?_⟩
  ·exact absurd (of_decide_eq_true z) (by omega)
  refine ⟨_,rfl,l,rfl,⟨_,SqL.of hl⟩,qch (xs:=xs) (λi σ H2=>H2=H/\∃ v,σ=[some (.ref l),v,none]) ⟨rfl,none,rfl⟩ (λi σ H2 _ h2=>by rw[h2.1];exact SqL.of hl) ?_ ?_⟩
  ·rintro i x σ H2 hi ⟨rfl,v,rfl⟩
   obtain ⟨p,hpi,hx⟩:=hp.get hi;obtain ⟨e1,e2⟩:=G.each i p hpi;exact ⟨_,rfl,_,p,rfl,hx,e1,e2,rfl,_,rfl⟩
  ·rintro σ H2 ⟨rfl,v,rfl⟩
   refine ⟨_,rfl,_,rfl,_,rfl,_,xs,rfl,SqL.of hl,λl2 H3 n3=>?_⟩;refine ⟨l,l2,xs,_,rfl,SqL.of (n3.same _ _ hl),SqL.of n3.at_,qun (xs:=xs) (ys:=qkm xs (some 1) none) (λi σ H4=>Same H3 H4/\∃ u v,σ=[some (.ref l),u,v]) ⟨Same.refl _,_,_,rfl⟩
    (λi σ H4 h4=>⟨SqL.of (h4.1 _ _ (n3.same _ _ hl)),SqL.of (h4.1 _ _ n3.at_)⟩) ?_ ?_⟩
   ·rintro i x y σ H4 p H5 hx hy n5 ⟨s4,u,v',rfl⟩
    obtain ⟨p1,hp1,hx1⟩:=hp.get hx;have hy':xs[i+1]?=some y:=by
     have:qkm xs (some 1) none=xs.drop 1:=qDz xs;rw[this,List.getElem?_drop] at hy
     rwa [Nat.add_comm] at hy
    obtain ⟨p2,hp2,hx2⟩:=hp.get hy';obtain ⟨e1,e2⟩:=G.next i p1 p2 hp1 hp2;obtain ⟨_,e3⟩:=G.each i p1 hp1;have s5:Same H2 H5:=n3.same.trans (s4.trans n5.same);refine ⟨p,_,rfl,SqT.of n5.at_,rfl,_,_,rfl,_,_,rfl,rfl,?_⟩;exact ⟨_,rfl,_,rfl,x,y,p1,p2,rfl,hx1.same s5,hx2.same s5,e3,e1,e2,s4.trans n5.same,_,_,rfl⟩
   ·rintro i σ H4 _ ⟨s4,_,_,_⟩
    exact q H4 (n3.same.trans s4)
include T in
theorem ql0:qbe P w K mg base 2 "check_gone" ["gone", "last_age"] qjw:=by
 obtain ⟨f,fd,F,hm⟩:=T.f_check_gone;have nd:=sc_check_gone.nd;refine F.def_ hm (F.ok sc_check_gone (λvs H Q E h=>?_) (λcdv A outer s H vs Q E hr h=>?_)) (F.binds λ_ _ _ _ _ _ us hl=>by obtain ⟨_,_,rfl⟩:=L2.lq2 hl;rfl)
 ·obtain ⟨g,last,rfl,_⟩:=h;rfl
 ·obtain ⟨g,last,rfl,hg,q⟩:=h
  refine ⟨_,(jB2 (qbd (jC qeq (pv 0) qbr) (qae qw9) qao) (qbd (PW.pt (qke (qda (qcu (jF (qfn T) hr (jA1 (pv 0))))) (qgv (jC qif (pv 0) (pv 1))))) (qae qbs) qao)),?_⟩
  cases g with
  | none=>exact ⟨_,rfl,rfl,_,rfl,qdc q⟩
  | some z =>
   refine ⟨_,rfl,rfl,_,rfl,qdy ?_⟩;refine ⟨_,rfl,_,rfl,z,rfl,_,rfl,qdy ?_⟩;refine ⟨_,rfl,_,rfl,_,_,rfl,rfl,_,rfl,qmv (λy=>?_) λ_=>q⟩;exact absurd (of_decide_eq_true y) (by have:=hg z rfl;omega)
include T in
theorem qm2:∃ f fd dT o n,qgl P w K mg base CX0 5 f fd ["self", "steps", "gone"] (qjx C_Rule)/\FunD K "__init__" "Rule.__init__" qei (.ref dT) f fd/\Mk K C_Rule f/\fd.defaults=.ref dT/\K.lookup dT=some o/\o.data=.seq #[.none] n:=by
 obtain ⟨f,fd,dT,o,n,F,M,h1,h2,h3⟩:=T.f_Rule_init;have nd:=sc_Rule_init.nd;refine ⟨f,fd,dT,o,n,(F.ok sc_Rule_init (λvs H Q E h=>?_) (λcdv A outer s H vs Q E hr h=>?_)),F,M,h1,h2,h3⟩
 ·obtain ⟨r,dx,l,xs,ps,g,rfl,_⟩:=h;rfl
 ·obtain ⟨r,dx,l,xs,ps,g,rfl,hro,hl,hp,G,hg,k⟩:=h
  have g1:=G.lo;refine ⟨_,(jB5 (jS 3 nd (qbt qci rfl T.b_list qfe (jA1 (pv 1)))) (qa5 (jF (qj6 T) hr (jA1 (pv 3)))) (qa5 (jF (ql0 T) hr (jA2 (pv 2) (jT (jI (pv 3) (qjb qep qab)) qab)))) (qby (pv 0) (pv 3) rfl) (qby (pv 0) (pv 2) rfl)),?_⟩;refine ⟨_,rfl,l,xs,rfl,.inl (SqL.of hl),λl' H1 n1=>?_⟩;refine ⟨_,rfl,l',xs,ps,rfl,n1.at_,hp.same n1.same,G,λH2 s2=>?_⟩;have hl2:=s2 _ _ n1.at_;have hp2:=(hp.same n1.same).same s2;have hlen:=hp.length;obtain ⟨v,hv⟩:∃ v,xs[xs.length-1]?=some v:=⟨xs[xs.length-1]'(by omega),List.getElem?_eq_getElem _⟩;obtain ⟨p,hpv,a,rfl,ha⟩:=hp2.get hv;refine ⟨_,rfl,_,rfl,_,rfl,l',xs,-1,_,rfl,rfl,SqL.of hl2,qhe hv,a,_,0,_,rfl,rfl,SqT.of ha,rfl,g,p.1,rfl,hg p (by rw[<- hlen];exact hpv),?_⟩;have hr2:=s2 _ _ (n1.same _ _ hro);have nrl:r≠l':=qac hro n1.fresh;refine ⟨_,rfl,_,rfl,r,C_Rule,dx,[],rfl,hr2,T.cl_Rule,T.na_Rule_kept_steps,(by show 0<1000;decide),λH3 b3 h3=>?_⟩;refine ⟨_,rfl,_,rfl,r,C_Rule,dx,_,rfl,h3,T.cl_Rule,T.na_Rule_gone_age,(by show 1<1000;decide),λH4 b4 h4=>?_⟩;refine k l' _ n1.fresh ⟨⟨dx,h4⟩,xs,b4 _ _ (b3 _ _ hl2 nrl.symm) nrl.symm,(hp2.but b3 hr2 qcr).but b4 h3 qcr⟩ λb o e hb=>?_
  exact b4 _ _ (b3 _ _ (s2 _ _ (n1.same _ _ e)) hb) hb
include T in
theorem qvb:qCf P w K mg base C_Rule 5 "Rule" ["self", "steps", "gone"] [] (qjx C_Rule):=by
 obtain ⟨f,fd,dT,o,n,hf,F,M,h1,h2,h3⟩:=qm2 (P:=P) (w:=w) (base:=base) T;refine ⟨f,fd,hf,T.mg_Rule,M,qg5 h1 h2 h3 λus hl=>?_⟩;obtain ⟨oc,od,kV,doc,pm,an,cdv,ct,osl,rfl,lk,hcd⟩:=F.ex;obtain ⟨_,_,_,rfl⟩:=L2.lq3 (us:=us) (by simpa using hl);exact ⟨_,rfl,rfl⟩
include T in
theorem qbq:qdh P w K mg base C_Rule 1 "steps" ["self"] (qlb C_Rule):=by
 obtain ⟨f,fd,F,hm⟩:=T.f_Rule_steps;have nd:=sc_Rule_steps.nd;refine ⟨f,fd,(F.ok sc_Rule_steps (λvs H Q E h=>?_) (λcdv A outer s H vs Q E hr h=>?_)),hm,(F.binds λ_ _ _ _ _ _ us hl=>by obtain ⟨_,rfl⟩:=L2.lq1 hl;rfl)⟩
 ·obtain ⟨r,l,ps,g,xs,rfl,_⟩:=h;rfl
 ·obtain ⟨r,l,ps,g,xs,rfl,R,hl,k⟩:=h
  obtain ⟨dx,hob⟩:=R.ob;refine ⟨_,(qae (qai (qbt qci rfl T.b_list qfe (jA1 (qaw (pv 0) rfl))))),?_⟩;exact ⟨_,rfl,r,C_Rule,dx,_,_,rfl,hob,T.cl_Rule,T.na_Rule_kept_steps,qla _ _,l,xs,rfl,.inl (SqL.of hl),k⟩
include T in
theorem qej:qdh P w K mg base C_Rule 1 "gone" ["self"] (qsb C_Rule):=by
 obtain ⟨f,fd,F,hm⟩:=T.f_Rule_gone;have nd:=sc_Rule_gone.nd;refine ⟨f,fd,(F.ok sc_Rule_gone (λvs H Q E h=>?_) (λcdv A outer s H vs Q E hr h=>?_)),hm,(F.binds λ_ _ _ _ _ _ us hl=>by obtain ⟨_,rfl⟩:=L2.lq1 hl;rfl)⟩
 ·obtain ⟨r,l,ps,g,rfl,_⟩:=h;rfl
 ·obtain ⟨r,l,ps,g,rfl,R,q⟩:=h
  obtain ⟨dx,hob⟩:=R.ob;refine ⟨_,(qae (qai (qaw (pv 0) rfl))),?_⟩;exact ⟨_,rfl,r,C_Rule,dx,_,_,rfl,hob,T.cl_Rule,T.na_Rule_gone_age,qu0 _ _,q⟩
include T in
theorem qh2:qbe P w K mg base 1 "floored" ["number", "width"] qpo:=by
 obtain ⟨f,fd,F,hm⟩:=T.f_floored;have nd:=sc_floored.nd;refine F.def_ hm (F.ok sc_floored (λvs H Q E h=>?_) (λcdv A outer s H vs Q E hr h=>?_)) (F.binds λ_ _ _ _ _ _ us hl=>by obtain ⟨_,_,rfl⟩:=L2.lq2 hl;rfl)
 ·obtain ⟨n,w',rfl,_⟩:=h;rfl
 ·obtain ⟨n,w',rfl,h1,h2,h3,h4,q⟩:=h
  have hb:=qDf h1 (by decide:(0:Int)<=10 ^ 46) h3 h4;refine ⟨_,(qae (qai (qak qck (qak qnj (pv 0) (pv 1)) (pv 1)))),?_⟩;exact ⟨_,rfl,_,rfl,_,_,rfl,rfl,⟨by omega,by omega⟩,_,rfl,_,_,rfl,rfl,⟨⟨by omega,by omega⟩,by omega,by omega⟩,q⟩
include T in
theorem qp1:qbe P w K mg base 2 "gone_cut" ["rule", "day"] (qhf C_Rule):=by
 obtain ⟨f,fd,F,hm⟩:=T.f_gone_cut;have nd:=sc_gone_cut.nd;refine F.def_ hm (F.ok sc_gone_cut (λvs H Q E h=>?_) (λcdv A outer s H vs Q E hr h=>?_)) (F.binds λ_ _ _ _ _ _ us hl=>by obtain ⟨_,_,rfl⟩:=L2.lq2 hl;rfl)
 ·obtain ⟨r,l,ps,g,d,rfl,_⟩:=h;rfl
 ·obtain ⟨r,l,ps,g,d,rfl,R,Pg,hd,q⟩:=h
  obtain ⟨dx,hob⟩:=R.ob;obtain ⟨xs,hl,hx⟩:=R.ls;have n1:(rf l (gv g)).lookup ("gone" : Str)=none:=qjv _ _ (by decide +kernel) (by decide +kernel);have n2:(rf l (gv g)).lookup ("steps" : Str)=none:=qjv _ _ (by decide +kernel) (by decide +kernel);obtain ⟨p,hp,ep⟩:=Pg.last;have hlen:=hx.length;refine ⟨_,(jB3 (jS 2 nd (qax (pv 0) T.cl_Rule (qej T) (hr.mono (by decide)))) (qbd (jC qeq (pv 2) qbr) (qae (qai qbr)) qao) (qai (jF (qh2 T) hr (jA2 (qak qgw (pv 1) (pv 2)) (jT (jI (qax (pv 0) T.cl_Rule (qbq T) (hr.mono (by decide))) (qjb qep qab)) qab))))),?_⟩;refine ⟨_,rfl,r,dx,_,rfl,hob,n1,r,l,ps,g,rfl,R,?_⟩
  cases g with
  | none=>exact ⟨_,rfl,rfl,_,rfl,qdc (q H (Same.refl _))⟩
  | some z =>
   refine ⟨_,rfl,rfl,_,rfl,qdy ?_⟩;refine ⟨_,rfl,_,rfl,_,_,rfl,rfl,?_⟩;refine ⟨_,rfl,r,dx,_,rfl,hob,n2,r,l,ps,_,xs,rfl,R,hl,λp1 H1 m1=>?_⟩;obtain ⟨v,hv,a,rfl,ha⟩:=hx.get' hp;have hz:=Pg.gb z rfl;have hs:=Pg.size _ p hp;unfold Bd at hd;refine ⟨_,rfl,p1,xs,-1,_,rfl,rfl,SqL.of m1.at_,qhe (by rw[hlen];exact hv),a,_,1,_,rfl,rfl,SqT.of (m1.same _ _ ha),rfl,d-z,p.2,rfl,hs.2.2.1,hs.2.2.2,by omega,by omega,?_⟩;have:=q H1 m1.same;rw[ep] at this;exact this
include T in
theorem qi3:qbe P w K mg base 3 "edges_at" ["rule", "day"] (qhg C_Rule):=by
 obtain ⟨f,fd,F,hm⟩:=T.f_edges_at;have nd:=sc_edges_at.nd;refine F.def_ hm (F.ok sc_edges_at (λvs H Q E h=>?_) (λcdv A outer s H vs Q E hr h=>?_)) (F.binds λ_ _ _ _ _ _ us hl=>by obtain ⟨_,_,rfl⟩:=L2.lq2 hl;rfl)
 ·obtain ⟨r,l,ps,g,d,rfl,_⟩:=h;rfl
 ·obtain ⟨r,l,ps,g,d,rfl,R,Pg,hd,q⟩:=h
  obtain ⟨dx,hob⟩:=R.ob;obtain ⟨xs,hl,hx⟩:=R.ls;have n2:(rf l (gv g)).lookup ("steps" : Str)=none:=qjv _ _ (by decide +kernel) (by decide +kernel);have hlen:=hx.length;have h5:=Pg.good.hi;refine ⟨_,(jB2 (qew (i:=2) (vars:=[ "age", "width" ]) (frees:=[ "day" ]) (fv:=[1]) nd rfl (Or.inl rfl) rfl (jL1 rfl) ⟨⟨rfl,.inl rfl,rfl,.inl rfl⟩,trivial⟩ (qbb (qax (pv 0) T.cl_Rule (qbq T) (hr.mono (by decide)))) (qdi (by decide) (by decide)) (λ_ _ _ _=>(jG2 (jM 0 [ "age", "width", "day" ]) (jM 1 [ "age", "width", "day" ]))) (λ_ _ _ _=>qbc) (λ_ _ _ _=>(jF (qh2 T) hr (jA2 (qak qgw (pv 2) (pv 0)) (pv 1))))) (qai (qak qmw (pv 2) (qc1 (jA1 (jF (qp1 T) hr (jA2 (pv 0) (pv 1)))))))),?_⟩;refine ⟨_,rfl,r,dx,_,rfl,hob,n2,r,l,ps,g,xs,rfl,R,hl,λp1 H1 m1=>?_⟩;refine ⟨p1,rfl,⟨_,SqL.of m1.at_⟩,qrc (xs:=xs) (λi ys H2=>Same H1 H2/\ys=(ps.take i).map λp=>V.int (cut d p.1 p.2)) (Nat.le_of_lt (qau (by omega))) ⟨Same.refl _,rfl⟩ (λi ys H2 h2=>⟨SqL.of (h2.1 _ _ m1.at_),by rw[h2.2];simp;omega⟩) ?_ ?_⟩
  ·rintro i x ys H2 hi ⟨s2,rfl⟩
   obtain ⟨p,hpi,a,rfl,ha⟩:=hx.get hi;have hs:=Pg.size i p hpi;unfold Bd at hd;refine ⟨a,_,rfl,SqT.of (s2 _ _ (m1.same _ _ ha)),rfl,_,_,rfl,_,_,rfl,rfl,qqc (qdc ?_)⟩;refine ⟨_,rfl,_,rfl,_,_,rfl,rfl,_,rfl,d-p.1,p.2,rfl,hs.2.2.1,hs.2.2.2,by omega,by omega,s2,?_⟩;exact (qCh _ ps i p hpi).symm
  ·rintro ys H2 c1 ⟨s2,rfl⟩ hc
   have nc:=qa0 (o:=.lst ((ps.take xs.length).map λp=>V.int (cut d p.1 p.2))) hc
   generalize upd H2 c1 _=H3 at nc ⊢
   have s3:Same H H3:=m1.same.trans (s2.trans nc.same);rw[hlen,List.take_length] at nc;refine ⟨_,rfl,_,rfl,_,rfl,r,l,ps,g,d,rfl,R.same s3,Pg,hd,λH4 s4=>⟨by show 1<=sizeLine;decide,λc2 H5 n5=>?_⟩⟩;refine ⟨c1,c2,_,_,rfl,rfl,n5.same _ _ (s4 _ _ nc.at_),n5.at_,Nat.le_of_lt (qau (by simp;omega)),λz H6 n6=>?_⟩;exact q z H6 (New.after (s3.trans (s4.trans n5.same)) n6)
include T in
theorem qs6:qbe P w K mg base 1 "is_gone" ["edges", "time"] qit:=by
 obtain ⟨f,fd,F,hm⟩:=T.f_is_gone;have nd:=sc_is_gone.nd;refine F.def_ hm (F.ok sc_is_gone (λvs H Q E h=>?_) (λcdv A outer s H vs Q E hr h=>?_)) (F.binds λ_ _ _ _ _ _ us hl=>by obtain ⟨_,_,rfl⟩:=L2.lq2 hl;rfl)
 ·obtain ⟨e,es,ge,t,rfl,_⟩:=h;rfl
 ·obtain ⟨e,es,ge,t,rfl,he,q1,q2⟩:=h
  have hlast:(es.map V.int ++ [gv ge])[(es.map V.int ++ [gv ge]).length-1]?=some (gv ge):=by simp
  refine ⟨_,(qae (qai (qfr (jD qmq (jI (pv 0) (qjb qep qab)) qbr) (qil (jD qif (pv 1) (jI (pv 0) (qjb qep qab))))))),?_⟩
  cases ge with
  | none =>
   walk_at "r"
   exact q2 fun ⟨z,e,_⟩=>by cases e
  | some y =>
   walk_at "r"
   show Q (.bl (decide (t<y))) H
   by_cases h:t<y
   ·rw[decide_eq_true h];exact q1 ⟨y,rfl,h⟩
   ·rw[decide_eq_false h];exact q2 fun ⟨z,e,h'⟩=>by cases e;exact h h'
include T in
theorem qp2:qbe P w K mg base 2 "width_at" ["rule", "edges", "time"] (qhi C_Rule):=by
 obtain ⟨f,fd,F,hm⟩:=T.f_width_at;have nd:=sc_width_at.nd;refine F.def_ hm (F.ok sc_width_at (λvs H Q E h=>?_) (λcdv A outer s H vs Q E hr h=>?_)) (F.binds λ_ _ _ _ _ _ us hl=>by obtain ⟨_,_,_,rfl⟩:=L2.lq3 hl;rfl)
 ·obtain ⟨r,l,ps,g,e,es,ge,t,e0,rfl,_⟩:=h;rfl
 ·obtain ⟨r,l,ps,g,e,es,ge,t,e0,rfl,R,he,hl,h1,h5,h0,hlt,q⟩:=h
  obtain ⟨dx,hob⟩:=R.ob;obtain ⟨xs,hxl,hx⟩:=R.ls;have n2:(rf l (gv g)).lookup ("steps" : Str)=none:=qjv _ _ (by decide +kernel) (by decide +kernel);have hlen:=hx.length;refine ⟨_,(jB2 (qew (i:=3) (vars:=[ "step", "edge" ]) (frees:=[ "time" ]) (fv:=[2]) nd rfl (Or.inl rfl) rfl (jL1 rfl) ⟨⟨rfl,.inl rfl,rfl,.inl rfl⟩,trivial⟩ (qnl rfl T.b_zip (jA2 (qax (pv 0) T.cl_Rule (qbq T) (hr.mono (by decide))) (pv 1))) (qdi (by decide) (by decide)) (λ_ _ _ _=>(jG2 (jM 0 [ "step", "edge", "time" ]) (jM 1 [ "step", "edge", "time" ]))) (λ_ _ _ _=>(qra (jC qxb (pv 1) (pv 2)))) (λ_ _ _ _=>(qxk (show IxR _ (qCx K) from qvs) (pv 0) qab (λ_ _=>rfl)))) (qai (jI (pv 3) (qjb qep qab)))),?_⟩;refine ⟨_,rfl,r,dx,_,rfl,hob,n2,r,l,ps,g,xs,rfl,R,hxl,λp1 H1 m1=>?_⟩;have he1:=m1.same _ _ he;refine ⟨_,rfl,p1,e,xs,_,rfl,SqL.of m1.at_,SqL.of he1,?_⟩;refine qse (xs:=xs) (λi zs H2=>Same H1 H2/\zs=((((((ps.map (·.2)).zip es).take i).filter λx=>decide (t<x.2)).map (·.1)).map V.int)) (Nat.le_of_lt (qau (by omega))) ⟨Same.refl _,rfl⟩ (λi zs H2 h2=>⟨SqL.of (h2.1 _ _ m1.at_),SqL.of (h2.1 _ _ he1),by rw[h2.2,List.length_map];exact qBi _ _ _ _⟩) ?_ ?_
  ·rintro i x y zs H2 p H3 hxi hyi n3 ⟨s2,rfl⟩
   obtain ⟨pi,hpi,a,rfl,ha⟩:=hx.get hxi;have hi:i<es.length:=by have:=(List.getElem?_eq_some_iff.mp hpi).1;omega
   have hy:y=V.int es[i]:=by
    rw[List.getElem?_append_left (by simpa using hi),List.getElem?_map,List.getElem?_eq_getElem hi] at hyi;exact (Option.some.inj hyi).symm
   subst hy;have hw:(ps.map (·.2))[i]?=some pi.2:=by rw[List.getElem?_map,hpi];rfl
   have ha3:H3 a=some (.tup [.int pi.1,.int pi.2]):=n3.same _ _ (s2 _ _ (m1.same _ _ ha))
   walk_at "r"
   refine qmv (λz=>?_) λz=>?_
   ·walk_at "r"
    refine ⟨s2.trans n3.same,?_⟩;have:=qEt hw (List.getElem?_eq_getElem hi) (by simpa using z:t<es[i]);rw[this,List.map_append];rfl
   ·refine ⟨s2.trans n3.same,?_⟩
    rw[qEu hw (List.getElem?_eq_getElem hi) (by simpa using z)]
  ·rintro i zs H2 p H3 hi ⟨s2,rfl⟩ n3
   have ez:((((ps.map (·.2)).zip es).take i).filter λx=>decide (t<x.2)).map (·.1)=wl (ps.map (·.2)) es t:=qBh (by rw[hi];simp only[List.length_zip,List.length_map,List.length_append,List.length_singleton];omega);rw[ez] at n3;have hne:1<=(wl (ps.map (·.2)) es t).length:=qBg (w0:=(ps[0]'(by omega)).2) (by rw[List.getElem?_map,List.getElem?_eq_getElem (by omega:0<ps.length)];rfl) h0 hlt;obtain ⟨w',hw'⟩:∃ w',(wl (ps.map (·.2)) es t)[(wl (ps.map (·.2)) es t).length-1]?=some w':=⟨_,List.getElem?_eq_getElem (by omega)⟩;have hlast:((wl (ps.map (·.2)) es t).map V.int)[((wl (ps.map (·.2)) es t).map V.int).length-1]?=some (V.int w'):=by rw[List.length_map,List.getElem?_map,hw'];rfl
   walk_at "r"
   exact q w' H3 hw' (m1.same.trans (s2.trans n3.same))
include T in
theorem ql1:qbe P w K mg base 3 "cell_at" ["rule", "edges", "time"] (qiu C_Rule):=by
 obtain ⟨f,fd,F,hm⟩:=T.f_cell_at;have nd:=sc_cell_at.nd;refine F.def_ hm (F.ok sc_cell_at (λvs H Q E h=>?_) (λcdv A outer s H vs Q E hr h=>?_)) (F.binds λ_ _ _ _ _ _ us hl=>by obtain ⟨_,_,_,rfl⟩:=L2.lq3 hl;rfl)
 ·obtain ⟨r,l,ps,g,e,es,ge,t,rfl,_⟩:=h;rfl
 ·obtain ⟨r,l,ps,g,e,es,ge,t,rfl,R,he,hl,h1,h5,hsz,ht,q⟩:=h
  obtain ⟨e0,h0⟩:∃ e0,es[0]?=some e0:=⟨_,List.getElem?_eq_getElem (by omega)⟩;have hi0:atI (es.map V.int ++ [gv ge]) 0=some (.int e0):=qjd (j:=0) (by rw[List.getElem?_append_left (by simp;omega),List.getElem?_map,h0];rfl);refine ⟨_,(jB4 (qbd (jC qCs (pv 2) (jI (pv 1) qab)) (qae (qai (qbn (jA2 (pv 2) qab)))) qao) (qbd (qcu (jF (qs6 T) hr (jA2 (pv 1) (pv 2)))) (qae (qai qbr)) qao) (jS 3 nd (jF (qp2 T) hr (jA3 (pv 0) (pv 1) (pv 2)))) (qai (qbn (jA2 (jF (qh2 T) hr (jA2 (pv 2) (pv 3))) (pv 3))))),?_⟩
  walk_at "r"
  refine qmv (λz=>?_) λz=>?_
  ·simp at z
   walk_at "r";intro p H1 n1
   refine q (.ref p) (some (t,0)) H1 (λx hx=>?_) ⟨p,rfl,n1.at_⟩ n1.same;rw[h0] at hx;cases hx;exact ⟨λ_=>rfl,λh=>absurd z (by omega)⟩
  ·simp at z
   walk_at "r"
   refine ⟨e,es,ge,t,rfl,he,λhg=>?_,λhg=>?_⟩
   ·walk_at "r"
    refine q .non none H (λx hx=>?_) rfl (Same.refl _);rw[h0] at hx;cases hx;exact ⟨λh=>absurd z (by omega),λ_=>⟨λ_=>rfl,λn=>absurd hg n⟩⟩
   ·walk_at "r"
    refine ⟨r,l,ps,g,e,es,ge,t,e0,rfl,R,he,hl,h1,h5,h0,z,λw' H1 hw' s1=>?_⟩;have hwm:w'∈ps.map (·.2):=qsf (List.mem_of_getElem? hw');obtain ⟨pi,hpi,rfl⟩:=List.mem_map.mp hwm;obtain ⟨i,hi,ei⟩:=List.getElem_of_mem hpi;have hs:=hsz i pi (by rw[<- ei];exact List.getElem?_eq_getElem hi);refine ⟨_,rfl,_,rfl,t,pi.2,rfl,hs.2.2.1,hs.2.2.2,ht.1,ht.2,?_⟩
    walk_at "r";intro p H2 n2
    refine q (.ref p) (some (t / pi.2*pi.2,pi.2)) H2 (λx hx=>?_) ⟨p,rfl,n2.at_⟩ (s1.trans n2.same);rw[h0] at hx;cases hx;exact ⟨λh=>absurd z (by omega),λ_=>⟨λn=>absurd n hg,λ_=>⟨pi.2,hw',rfl⟩⟩⟩
include T in
theorem qs7:qbe P w K mg base 1 "heap_of" ["runs"] qhl:=by
 obtain ⟨f,fd,F,hm⟩:=T.f_heap_of;have nd:=sc_heap_of.nd;refine F.def_ hm (F.ok sc_heap_of (λvs H Q E h=>?_) (λcdv A outer s H vs Q E hr h=>?_)) (F.binds λ_ _ _ _ _ _ us hl=>by obtain ⟨_,rfl⟩:=L2.lq1 hl;rfl)
 ·obtain ⟨l,xs,rs,rfl,_⟩:=h;rfl
 ·obtain ⟨l,xs,rs,rfl,hl,hp,ok,h2,q0,q⟩:=h
  have hlen:=hp.length;refine ⟨_,(jB5 (qbd (jC qt1 (qag qal rfl T.b_len qbw (jA1 (pv 0))) qab) (qae (qai qbr)) qao) (qew (i:=1) (vars:=[ "value", "many" ]) (frees:=[]) (fv:=[]) nd rfl (Or.inl rfl) rfl (jL0 rfl) trivial (qbb (pv 0)) (qdi (by decide) (by decide)) (λ_ _ _ _=>(jG2 (jM 0 [ "value", "many" ]) (jM 1 [ "value", "many" ]))) (λ_ _ _ _=>qbc) (λ_ _ _ _=>(pv 0))) (jS 2 nd (qag (qex rfl) rfl T.b_sum qks (jA1 (qgh (vars:=[ "value", "many" ]) (frees:=[]) (fv:=[]) rfl (jL0 rfl) trivial (qbb (pv 0)) (qdi (by decide) (by decide)) (λ_ _ _ _=>(jG2 (jM 0 [ "value", "many" ]) (jM 1 [ "value", "many" ]))) (λ_ _ _ _=>qbc) (λ_ _ _ _=>(pv 1)))))) (jS 3 nd (qag (qex rfl) rfl T.b_sum qks (jA1 (qgh (vars:=[ "value", "many" ]) (frees:=[]) (fv:=[]) rfl (jL0 rfl) trivial (qbb (pv 0)) (qdi (by decide) (by decide)) (λ_ _ _ _=>(jG2 (jM 0 [ "value", "many" ]) (jM 1 [ "value", "many" ]))) (λ_ _ _ _=>qbc) (λ_ _ _ _=>(qak qck (pv 0) (pv 1))))))) (qai (qbn (jA4 (pv 2) (pv 3) (qag (qrh rfl) rfl T.b_min qri (jA1 (pv 1))) (qag (qrg rfl) rfl T.b_max qkv (jA1 (pv 1))))))),?_⟩
  walk_at "r"
  refine qmv (λz=>?_) λz=>?_
  ·have z':xs.length=0:=by simpa using z
   exact q0 (List.length_eq_zero_iff.mp (by omega))
  ·have z':¬ xs.length=0:=by simpa using z
   have hne:rs≠[]:=λe=>z' (by rw[hlen,e];rfl)
   have h1:1<=rs.length:=by omega
   have mulB:∀ p∈rs,CMulB p.1 p.2:=λp hp=>by
    have:=ok p hp;unfold qu4 at this;exact ⟨⟨by omega,by omega⟩,by omega,by omega⟩
   refine ⟨_,rfl,l,rfl,⟨_,SqL.of hl⟩,qgo (λp=>p.1) hl hp h2 (λp hp Q' hq=>⟨_,rfl,hq⟩) λa1 H1 n1=>?_⟩;have hl1:=n1.same _ _ hl;have hp1:=hp.same n1.same;refine ⟨_,rfl,l,rfl,⟨_,SqL.of hl1⟩,qgo (λp=>p.2) hl1 hp1 h2 (λp hp Q' hq=>⟨_,rfl,hq⟩) λa2 H2 n2=>⟨a2,_,rfl,SqL.of n2.at_,?_⟩⟩;have hl2:=n2.same _ _ hl1;have hp2:=hp1.same n2.same;refine ⟨_,rfl,l,rfl,⟨_,SqL.of hl2⟩,qgo (λp=>p.1*p.2) hl2 hp2 h2 (λp hp Q' hq=>⟨_,rfl,_,rfl,_,_,rfl,rfl,mulB p hp,hq⟩) λa3 H3 n3=>⟨a3,_,rfl,SqL.of n3.at_,?_⟩⟩;have hv:=n3.same _ _ (n2.same _ _ n1.at_);refine ⟨_,rfl,_,rfl,_,rfl,a1,_,rfl,SqL.of hv,by simp;omega,λlo hlo hlo'=>?_⟩;refine ⟨_,rfl,a1,_,rfl,SqL.of hv,by simp;omega,λhi hhi hhi'=>?_⟩
   walk_at "r";intro a H5 n5
   exact q hne a _ _ lo hi H5 ⟨rfl,rfl,hlo,hlo',hhi,hhi'⟩ (New.after (n1.same.trans (n2.same.trans n3.same)) n5)
include T in
theorem qvc:qbe P w K mg base 1 "poured" ["one", "other"] qlg:=by
 obtain ⟨f,fd,F,hm⟩:=T.f_poured;have nd:=sc_poured.nd;refine F.def_ hm (F.ok sc_poured (λvs H Q E h=>?_) (λcdv A outer s H vs Q E hr h=>?_)) (F.binds λ_ _ _ _ _ _ us hl=>by obtain ⟨_,_,rfl⟩:=L2.lq2 hl;rfl)
 ·obtain ⟨a,b,m,t,lo,hi,m',t',lo',hi',rfl,_⟩:=h;rfl
 ·obtain ⟨a,b,m,t,lo,hi,m',t',lo',hi',rfl,ha,hb,q⟩:=h
  refine ⟨_,(qae (qai (qbn (jA4 (qak qa9 (jT (pv 0) qab) (jT (pv 1) qab)) (qak qa9 (jT (pv 0) qab) (jT (pv 1) qab)) (qag (qkh rfl) rfl T.b_min qri (jA2 (jT (pv 0) qab) (jT (pv 1) qab))) (qag (qer rfl) rfl T.b_max qkv (jA2 (jT (pv 0) qab) (jT (pv 1) qab))))))),?_⟩
  walk_at "r";intro p H1 n1
  exact q p H1 n1
include T in
theorem qik:qbe P w K mg base 1 "greater_edge" ["one", "other"] qhh:=by
 obtain ⟨f,fd,F,hm⟩:=T.f_greater_edge;have nd:=sc_greater_edge.nd;refine F.def_ hm (F.ok sc_greater_edge (λvs H Q E h=>?_) (λcdv A outer s H vs Q E hr h=>?_)) (F.binds λ_ _ _ _ _ _ us hl=>by obtain ⟨_,_,rfl⟩:=L2.lq2 hl;rfl)
 ·obtain ⟨x,y,rfl,_⟩:=h;rfl
 ·obtain ⟨x,y,rfl,hx,hy,q⟩:=h
  refine ⟨_,(jB3 (qbd (jC qeq (pv 0) qbr) (qae (qai (pv 1))) qao) (qbd (jC qeq (pv 1) qbr) (qae (qai (pv 0))) qao) (qai (qag (qer rfl) rfl T.b_max qkv (jA2 (pv 0) (pv 1))))),?_⟩
  rcases hx with rfl|⟨i,rfl⟩
  ·exact ⟨_,rfl,rfl,_,rfl,qdc ⟨_,rfl,q⟩⟩
  ·refine ⟨_,rfl,rfl,_,rfl,qdy ?_⟩
   rcases hy with rfl|⟨j,rfl⟩
   ·exact ⟨_,rfl,rfl,_,rfl,qdc ⟨_,rfl,q⟩⟩
   ·exact ⟨_,rfl,rfl,_,rfl,qdy ⟨_,rfl,_,rfl,_,_,rfl,q⟩⟩
include T in
theorem qh3:qbe P w K mg base 2 "greater" ["one", "other"] qhj:=by
 obtain ⟨f,fd,F,hm⟩:=T.f_greater;have nd:=sc_greater.nd;refine F.def_ hm (F.ok sc_greater (λvs H Q E h=>?_) (λcdv A outer s H vs Q E hr h=>?_)) (F.binds λ_ _ _ _ _ _ us hl=>by obtain ⟨_,_,rfl⟩:=L2.lq2 hl;rfl)
 ·obtain ⟨a,b,xs,ys,rfl,_⟩:=h;rfl
 ·obtain ⟨a,b,xs,ys,rfl,ha,hb,hx,hy,he,hz,q⟩:=h
  refine ⟨_,(jB2 (qbd (jC qt2 (qag qal rfl T.b_len qbw (jA1 (pv 0))) (qag qal rfl T.b_len qbw (jA1 (pv 1)))) (qae qbs) qao) (qai (qgh (vars:=[ "left", "right" ]) (frees:=[]) (fv:=[]) rfl (jL0 rfl) trivial (qnl rfl T.b_zip (jA2 (pv 0) (pv 1))) (qdi (by decide) (by decide)) (λ_ _ _ _=>(jG2 (jM 0 [ "left", "right" ]) (jM 1 [ "left", "right" ]))) (λ_ _ _ _=>qbc) (λ_ _ _ _=>(jF (qik T) hr (jA2 (pv 0) (pv 1))))))),?_⟩;refine ⟨_,rfl,a,xs,rfl,.inl (SqL.of ha),_,rfl,b,ys,rfl,.inl (SqL.of hb),rfl,_,rfl,?_⟩;refine qAd (by rw[he]) ?_;refine ⟨_,rfl,_,rfl,a,b,xs,ys,rfl,SqL.of ha,SqL.of hb,?_⟩;refine qv1 (xs:=xs) (λi zs H2=>Same H H2/\zs=(List.zipWith gE xs ys).take i) (Nat.le_of_lt (qau hz)) ⟨Same.refl _,rfl⟩ (λi zs H2 h2=>⟨SqL.of (h2.1 _ _ ha),SqL.of (h2.1 _ _ hb),by rw[h2.2];simp;omega⟩) ?_ ?_
  ·rintro i x y zs H2 p h1 h2 hn ⟨s2,rfl⟩
   have n:=qa0 (o:=.tup [x,y]) hn
   generalize upd H2 p _=H3 at n ⊢
   refine ⟨p,_,rfl,SqT.of n.at_,rfl,_,_,rfl,_,_,rfl,rfl,qqc (qdc ?_)⟩;exact ⟨_,rfl,_,rfl,x,y,rfl,hx x (List.mem_of_getElem? h1),hy y (List.mem_of_getElem? h2),s2.trans n.same,(qgi _ i _ (zip_get h1 h2)).symm⟩
  ·rintro i zs H2 p hi ⟨s2,rfl⟩ hn
   have n:=qa0 (o:=.lst ((List.zipWith gE xs ys).take i)) hn;have e:(List.zipWith gE xs ys).take i=List.zipWith gE xs ys:=List.take_of_length_le (by rw[List.length_zipWith,hi];exact Nat.le_refl _);rw[e] at n ⊢;exact q p _ (New.after s2 n)
include T in
theorem qvd:qCf P w K mg base C_Roll 4 "Roll" ["self", "rule", "day"] [] (qfu C_Roll C_Rule):=by
 obtain ⟨f,fd,F,M⟩:=T.f_Roll_init;have nd:=sc_Roll_init.nd;refine ⟨f,fd,(F.ok sc_Roll_init (λvs H Q E h=>?_) (λcdv A outer s H vs Q E hr h=>?_)),T.mg_Roll,M,(F.binds λ_ _ _ _ _ _ us hl=>by obtain ⟨_,_,_,rfl⟩:=L2.lq3 hl;rfl)⟩
 ·obtain ⟨ro,dx,ru,rl,ps,g,day,rfl,_⟩:=h;rfl
 ·obtain ⟨ro,dx,ru,rl,ps,g,day,rfl,hro,R,Pg,hd,q⟩:=h
  obtain ⟨dx2,hru⟩:=R.ob;have nru:ru≠ro:=qap hru hro (by intro z;injection z with _ _ z;have:=qla rl (gv g);rw[z] at this;cases this);refine ⟨_,(jB5 (qby (pv 0) (pv 1) rfl) (qby (pv 0) (pv 2) rfl) (qby (pv 0) (jF (qi3 T) hr (jA2 (pv 1) (pv 2))) rfl) (qby (pv 0) qnq rfl) (qby (pv 0) qnq rfl)),?_⟩;refine ⟨_,rfl,_,rfl,ro,C_Roll,dx,[],rfl,hro,T.cl_Roll,T.na_Roll_kept_rule,(by show 0<1000;decide),λH1 b1 h1=>?_⟩;refine ⟨_,rfl,_,rfl,ro,C_Roll,dx,_,rfl,h1,T.cl_Roll,T.na_Roll_kept_day,(by show 1<1000;decide),λH2 b2 h2=>?_⟩;have R2:=(R.but2 b1 hro qcr (by intro xs z;cases z) nru).but2 b2 h1 qcr (by intro xs z;cases z) nru;refine ⟨_,rfl,_,rfl,ru,rl,ps,g,day,rfl,R2,Pg,hd,λle H3 n3=>?_⟩;refine ⟨_,rfl,ro,C_Roll,dx,_,rfl,n3.same _ _ h2,T.cl_Roll,T.na_Roll_kept_edges,(by show 2<1000;decide),λH4 b4 h4=>?_⟩;intro dy H5 n5;refine ⟨_,rfl,ro,C_Roll,dx,_,rfl,n5.same _ _ h4,T.cl_Roll,T.na_Roll_whole_ones,(by show 3<1000;decide),λH6 b6 h6=>?_⟩;intro dh H7 n7;refine ⟨_,rfl,ro,C_Roll,dx,_,rfl,n7.same _ _ h6,T.cl_Roll,T.na_Roll_cell_heaps,(by show 4<1000;decide),λH8 b8 h8=>?_⟩;have R8:=((((R2.same n3.same).but2 b4 (n3.same _ _ h2) qcr (by intro xs z;cases z) nru).same n5.same |>.but2 b6 (n5.same _ _ h4) qcr (by intro xs z;cases z) nru).same n7.same).but2 b8 (n7.same _ _ h6) qcr (by intro xs z;cases z) nru;have bb:But ro H H8:=λb o e hb=>b8 _ _ (n7.same _ _ (b6 _ _ (n5.same _ _ (b4 _ _ (n3.same _ _ (b2 _ _ (b1 _ _ e hb) hb)) hb)) hb)) hb
  have fr:∀ b,b≠ro->H8 b=none->H b=none:=λb hb h0=>by
   cases e:H b with
   | none=>rfl
   | some o=>rw[bb b o e hb] at h0;cases h0
  have e4:H4 le=some (.lst (eV ps g day)):=b4 _ _ n3.at_ (qap n3.at_ (n3.same _ _ h2) (by intro z;cases z));have e6:H6 dy=some (.dT []):=b6 _ _ n5.at_ (qap n5.at_ (n5.same _ _ h4) (by intro z;cases z));have up2:∀ b o,H b=some o->b≠ro->H2 b=some o:=λb o e hb=>b2 _ _ (b1 _ _ e hb) hb
  have fr2:∀ b,H2 b=none->H b=none:=λb h0=>by
   cases e:H b with
   | none=>rfl
   | some o =>
    by_cases hb:b=ro
    ·subst hb;rw[h2] at h0;cases h0
    ·rw[up2 b o e hb] at h0;cases h0
  have fr4:∀ b,H4 b=none->H2 b=none:=λb h0=>by
   cases e:H2 b with
   | none=>rfl
   | some o =>
    by_cases hb:b=ro
    ·subst hb;rw[h4] at h0;cases h0
    ·rw[b4 _ _ (n3.same _ _ e) hb] at h0;cases h0
  have fr6:∀ b,H6 b=none->H4 b=none:=λb h0=>by
   cases e:H4 b with
   | none=>rfl
   | some o =>
    by_cases hb:b=ro
    ·subst hb;rw[h6] at h0;cases h0
    ·rw[b6 _ _ (n5.same _ _ e) hb] at h0;cases h0
  refine q le dy dh H8 (fr2 _ n3.fresh) (fr2 _ (fr4 _ n5.fresh)) (fr2 _ (fr4 _ (fr6 _ n7.fresh))) ⟨⟨dx,h8⟩,R8,?_,?_,?_,qac e6 n7.fresh⟩ bb
  ·have e8:=b8 _ _ (n7.same _ _ (b6 _ _ (n5.same _ _ e4) (qap (n5.same _ _ e4) (n5.same _ _ h4) (by intro z;cases z)))) (qap (n7.same _ _ (b6 _ _ (n5.same _ _ e4) (qap (n5.same _ _ e4) (n5.same _ _ h4) (by intro z;cases z)))) (n7.same _ _ h6) (by intro z;cases z))
   show H8 le=some (.lst (((ps.map λp=>cut day p.1 p.2).map V.int) ++ [gv (g.map λz=>cut day z (lw ps))]))
   rw[<- (EdS.of Pg hd).eq];exact e8
  ·exact b8 _ _ (n7.same _ _ e6) (qap (n7.same _ _ e6) (n7.same _ _ h6) (by intro z;cases z))
  ·exact b8 _ _ n7.at_ (qap n7.at_ (n7.same _ _ h6) (by intro z;cases z))
include T in
theorem qb9:qdh P w K mg base C_Roll 2 "pour_into_cell" ["self", "cell", "heap"] (qli C_Roll C_Rule):=by
 obtain ⟨f,fd,F,hm⟩:=T.f_Roll_pour_into_cell;have nd:=sc_Roll_pour_into_cell.nd;refine ⟨f,fd,(F.ok sc_Roll_pour_into_cell (λvs H Q E h=>?_) (λcdv A outer s H vs Q E hr h=>?_)),hm,(F.binds λ_ _ _ _ _ _ us hl=>by obtain ⟨_,_,_,rfl⟩:=L2.lq3 hl;rfl)⟩
 ·obtain ⟨ro,D,c,h,s,w',x,rfl,_⟩:=h;rfl
 ·obtain ⟨ro,D,c,h,s',w',x,rfl,A',hc,hh,hZ,hl,q⟩:=h
  obtain ⟨dx,hob⟩:=A'.ob;refine ⟨_,(qae (qbd (qqh (qvu (qeu hr) (pv 1) (qaw (pv 0) rfl))) (qae (qg3 (qeu hr) (qaw (pv 0) rfl) (pv 1) (jF (qvc T) hr (jA2 (qg2 (qeu hr) (qaw (pv 0) rfl) (pv 1) (λ_ _=>rfl)) (pv 2))) rfl)) (qae (qg3 (qeu hr) (qaw (pv 0) rfl) (pv 1) (pv 2) rfl)))),?_⟩;refine ⟨_,rfl,_,rfl,ro,C_Roll,dx,_,_,rfl,hob,T.cl_Roll,T.na_Roll_cell_heaps,qiv _ _ _ _ _,D.dh,_,rfl,DGet.t (k:=kk s' w') A'.he hc,_,rfl,?_⟩
  cases e:qcc D.Z (kk s' w') with
  | none =>
   refine qdy ?_;refine ⟨_,rfl,_,rfl,ro,C_Roll,dx,_,_,rfl,hob,T.cl_Roll,T.na_Roll_cell_heaps,qiv _ _ _ _ _,_,rfl,D.dh,_,rfl,DPut.t (k:=kk s' w') A'.he hc (qau (by omega)),?_⟩;exact q h x _ (qb2 _ _ hh (qap hh A'.he (by intro z;cases z))) (.inl ⟨e,rfl⟩) (A'.putZ qb2 qba) qb2
  | some xx =>
   obtain ⟨h0,m0,t0,lo0,hi0,rfl,hh0⟩:=hZ _ _ e;refine qdc ?_;refine ⟨_,rfl,ro,C_Roll,dx,_,_,rfl,hob,T.cl_Roll,T.na_Roll_cell_heaps,qiv _ _ _ _ _,_,rfl,D.dh,_,rfl,(by have:=DGet.t (k:=kk s' w') A'.he hc;rwa [e] at this),_,rfl,?_⟩;refine ⟨h0,h,m0,t0,lo0,hi0,x.1,x.2.1,x.2.2.1,x.2.2.2,rfl,hh0,hh,λp H1 n1=>?_⟩;have A1:=A'.same n1.same;refine ⟨_,rfl,ro,C_Roll,dx,_,_,rfl,n1.same _ _ hob,T.cl_Roll,T.na_Roll_cell_heaps,qiv _ _ _ _ _,_,rfl,D.dh,_,rfl,DPut.t (k:=kk s' w') A1.he (n1.same _ _ hc) (qau (by omega)),?_⟩;refine q p (mg4 (m0,t0,lo0,hi0) x) _ (qb2 _ _ n1.at_ (qap n1.at_ A1.he (by intro z;cases z))) (.inr ⟨h0,(m0,t0,lo0,hi0),e,hh0,rfl⟩) (A1.putZ qb2 qba) λb o eo hb=>qb2 _ _ (n1.same _ _ eo) hb
include T in
theorem qp3:∃ f fd dT o n t,qgl P w K mg base (CX1 P w) 4 f fd ["self", "time", "value", "many"] (qfj C_Roll C_Rule C_NoNumber)/\FunD K "put" "Roll.put" qfl (.ref dT) f fd/\qqu K C_Roll "put" f/\fd.defaults=.ref dT/\K.lookup dT=some o/\o.data=.seq #[.int 1 t] n:=by
 obtain ⟨f,fd,dT,o,n,t,F,M,h1,h2,h3⟩:=T.f_Roll_put;have nd:=sc_Roll_put.nd;refine ⟨f,fd,dT,o,n,t,(F.okX sc_Roll_put (λvs H Q E h=>?_) (λcdv A outer s H vs Q E hr h=>?_)),F,M,h1,h2,h3⟩
 ·obtain ⟨ro,D,t,v,m,rfl,_⟩:=h;rfl
 ·obtain ⟨ro,D,t,v,m,rfl,A',ok,ht,hm,hY,hZ,ly,lz,hE,q⟩:=h
  obtain ⟨dx,hob⟩:=A'.ob;refine ⟨_,(jB5 (qbd (jC qif (pv 3) qab) (qae (qc2 (qav ⟨rfl,rfl,rfl⟩) rfl T.ex_NoNumber rfl T.mg_NoNumber (jA1 qel))) qao) (jS 4 nd (jF (ql1 T) hr (jA3 (qaw (pv 0) rfl) (qaw (pv 0) rfl) (pv 1)))) (qbd (jC qeq (pv 4) qbr) (qae (qai qox)) qao) (qbd (jC qt1 (jT (pv 4) qab) qab) (qae (qg3 (qeu hr) (qaw (pv 0) rfl) (qbn (jA2 (pv 1) (pv 2))) (qak qa9 (qug (qeu hr) (qaw (pv 0) rfl) (qbn (jA2 (pv 1) (pv 2))) qab ⟨rfl,rfl,rfl,rfl⟩) (pv 3)) rfl)) (qae (qa5 (qo7 (pv 0) T.cl_Roll (qb9 T) (hr.mono (by decide)) (jA2 (pv 4) (jF (qs7 T) hr (jA1 (qc1 (jA1 (qbn (jA2 (pv 2) (pv 3)))))))))))) (qai qox)),?_⟩
  walk_at "r"
  refine qmv (λz=>?_) λz=>?_
  ·exact ⟨by walk_at "c",hE (by simpa using z)⟩
  have z1:1<=m:=by
   have:¬ m<1:=by simpa using z
   omega
  have rok:=hm z1;have lo:=ok.pr.good.lo;refine ⟨_,rfl,ro,C_Roll,dx,_,_,rfl,hob,T.cl_Roll,T.na_Roll_kept_rule,qsg _ _ _ _ _,_,rfl,ro,C_Roll,dx,_,_,rfl,hob,T.cl_Roll,T.na_Roll_kept_edges,qoa _ _ _ _ _,_,rfl,D.ru,D.rl,D.ps,D.g,D.le,D.es,D.ge,t,rfl,A'.rule,A'.ed,ok.es,lo,ok.pr.good.hi,ok.pr.size,ht,λcv o H1 hc cat s1=>?_⟩;have hob1:=s1 _ _ hob;have A1:=A'.same s1
  cases o with
  | none =>
   cases (show cv=.non from cat)
   walk_at "r"
   exact q z1 none hc D H1 (.inl ⟨rfl,rfl⟩) A1 λc o e _ _=>s1 _ _ e
  | some p =>
   obtain ⟨c,rfl,hcv⟩:=cat;have hp:=CellOf.some_ hc (by rw[ok.es];exact lo) λw' hw'=>ok.pr.w1 hw'
   rcases hp with rfl|hp
   ·walk_at "r"
    refine ⟨ro,C_Roll,dx,_,_,rfl,hob1,T.cl_Roll,T.na_Roll_whole_ones,qob _ _ _ _ _,D.dy,rfl,.inr ⟨_,.inl A1.yo⟩,?_⟩
    walk_at "r";intro p2 H2 n2
    have A2:=A1.same n2.same;refine ⟨_,DGet.t (k:=kk t v) A2.yo n2.at_,?_⟩;rw[qBm hY]
    walk_at "r"
    refine ⟨ro,C_Roll,dx,_,_,rfl,n2.same _ _ hob1,T.cl_Roll,T.na_Roll_whole_ones,qob _ _ _ _ _,?_⟩
    walk_at "r";intro p3 H3 n3
    have A3:=A2.same n3.same;refine ⟨D.dy,_,rfl,DPut.t (k:=kk t v) A3.yo n3.at_ (qau (by omega)),?_⟩
    show Q _ _
    exact q z1 (some (t,0)) hc _ _ (.inr (.inl ⟨rfl,rfl⟩)) (A3.putY qb2 qba) λc o e hc1 _=>qb2 _ _ (n3.same _ _ (n2.same _ _ (s1 _ _ e))) hc1
   ·walk_at "r"
    refine qmv (λz=>?_) λz=>?_
    ·exact absurd z (by simp;omega)
    refine ⟨_,rfl,ro,dx,_,rfl,hob1,qoc _ _ _ _ _,_,rfl,?_⟩
    walk_at "r";intro p2 H2 n2
    walk_at "r";intro p3 H3 n3
    refine ⟨p3,_,[(v,m)],rfl,n3.at_,.cons ⟨p2,rfl,n3.same _ _ n2.at_⟩ .nil,(λq hq=>by rw[List.mem_singleton.mp hq];exact rok),by simp,(λe=>by cases e),λ_ h4 a' b' lo' hi' H4 hof n4=>?_⟩;have s4:Same H1 H4:=n2.same.trans (n3.same.trans n4.same);refine ⟨ro,D,c,h4,p.1,p.2,(a',b',lo',hi'),rfl,A1.same s4,s4 _ _ hcv,n4.at_,hZ.same (s1.trans s4),lz,λh5 y H5 e5 po A5 b5=>?_⟩
    show Q _ _
    refine q z1 (some p) hc _ H5 (.inr (.inr ⟨p.1,p.2,h5,y.1,y.2.1,y.2.2.1,y.2.2.2,rfl,hp,rfl,e5,?_⟩)) A5 λc o e _ hc2=>b5 _ _ (s4 _ _ (s1 _ _ e)) hc2
    rcases po with ⟨po1,rfl⟩|⟨h0,x0,e1,e2,rfl⟩
    ·exact .inl ⟨po1,hof⟩
    ·obtain ⟨h0',m0',t0',lo0',hi0',e4,e9⟩:=hZ _ _ e1
     cases e4;rw[s4 _ _ (s1 _ _ e9)] at e2;have e6:v4 (m0',t0',lo0',hi0')=v4 x0:=by injection e2 with e2;injection e2
     have e7:=qwo e6;subst e7;exact .inr ⟨h0,m0',t0',lo0',hi0',a',b',lo',hi',e1,e9,hof,rfl,rfl,rfl,rfl⟩
include T in
theorem qgb:qts P w K mg base C_Roll 4 "put" ["self", "time", "value", "many"] [] (qfj C_Roll C_Rule C_NoNumber):=by
 obtain ⟨f,fd,dT,o,n,t,hf,F,M,h1,h2,h3⟩:=qp3 (P:=P) (w:=w) (base:=base) T;refine ⟨f,fd,hf,M,qg5 h1 h2 h3 λus hl=>?_⟩;obtain ⟨oc,od,kV,doc,pm,an,cdv,ct,osl,rfl,lk,hcd⟩:=F.ex;obtain ⟨_,_,_,_,rfl⟩:=L2.lq4 (us:=us) (by simpa using hl);exact ⟨_,rfl,rfl⟩
include T in
theorem qm3:qdh P w K mg base C_Roll 1 "rule" ["self"] (qu5 C_Roll C_Rule):=by
 obtain ⟨f,fd,F,hm⟩:=T.f_Roll_rule;have nd:=sc_Roll_rule.nd;refine ⟨f,fd,(F.ok sc_Roll_rule (λvs H Q E h=>?_) (λcdv A outer s H vs Q E hr h=>?_)),hm,(F.binds λ_ _ _ _ _ _ us hl=>by obtain ⟨_,rfl⟩:=L2.lq1 hl;rfl)⟩
 ·obtain ⟨ro,D,rfl,_⟩:=h;rfl
 ·obtain ⟨ro,D,rfl,A',q⟩:=h
  obtain ⟨dx,hob⟩:=A'.ob;refine ⟨_,(qae (qai (qaw (pv 0) rfl))),?_⟩;exact ⟨_,rfl,ro,C_Roll,dx,_,_,rfl,hob,T.cl_Roll,T.na_Roll_kept_rule,qsg _ _ _ _ _,q⟩
include T in
theorem qp4:qdh P w K mg base C_Roll 1 "day" ["self"] (qyy C_Roll C_Rule):=by
 obtain ⟨f,fd,F,hm⟩:=T.f_Roll_day;have nd:=sc_Roll_day.nd;refine ⟨f,fd,(F.ok sc_Roll_day (λvs H Q E h=>?_) (λcdv A outer s H vs Q E hr h=>?_)),hm,(F.binds λ_ _ _ _ _ _ us hl=>by obtain ⟨_,rfl⟩:=L2.lq1 hl;rfl)⟩
 ·obtain ⟨ro,D,rfl,_⟩:=h;rfl
 ·obtain ⟨ro,D,rfl,A',q⟩:=h
  obtain ⟨dx,hob⟩:=A'.ob;refine ⟨_,(qae (qai (qaw (pv 0) rfl))),?_⟩;exact ⟨_,rfl,ro,C_Roll,dx,_,_,rfl,hob,T.cl_Roll,T.na_Roll_kept_day,qBk _ _ _ _ _,q⟩
include T in
theorem ql2:qdh P w K mg base C_Roll 1 "edges" ["self"] (qsk C_Roll C_Rule):=by
 obtain ⟨f,fd,F,hm⟩:=T.f_Roll_edges;have nd:=sc_Roll_edges.nd;refine ⟨f,fd,(F.ok sc_Roll_edges (λvs H Q E h=>?_) (λcdv A outer s H vs Q E hr h=>?_)),hm,(F.binds λ_ _ _ _ _ _ us hl=>by obtain ⟨_,rfl⟩:=L2.lq1 hl;rfl)⟩
 ·obtain ⟨ro,D,rfl,_⟩:=h;rfl
 ·obtain ⟨ro,D,rfl,A',q⟩:=h
  obtain ⟨dx,hob⟩:=A'.ob;refine ⟨_,(qae (qai (qbt qci rfl T.b_list qfe (jA1 (qaw (pv 0) rfl))))),?_⟩;exact ⟨_,rfl,ro,C_Roll,dx,_,_,rfl,hob,T.cl_Roll,T.na_Roll_kept_edges,qoa _ _ _ _ _,D.le,_,rfl,.inl (SqL.of A'.ed),q⟩
theorem qwv {H:Hp} {D:qar} {s:Abs} {LY LZ:List (List Int)} (h:RAbs H D s LY LZ) (k:List Int):qcc D.Z (kI k)≠none↔s.z k≠none:=by
 cases e:s.z k with
 | none=>simp[h.zn k e]
 | some p=>obtain ⟨a,e1,_⟩:=h.zs k p e;rw[e1];simp
include T in
theorem ql3:qdh P w K mg base C_Roll 1 "young" ["self"] (qhn C_Roll C_Rule):=by
 obtain ⟨f,fd,F,hm⟩:=T.f_Roll_young;have nd:=sc_Roll_young.nd;refine ⟨f,fd,(F.ok sc_Roll_young (λvs H Q E h=>?_) (λcdv A outer s H vs Q E hr h=>?_)),hm,(F.binds λ_ _ _ _ _ _ us hl=>by obtain ⟨_,rfl⟩:=L2.lq1 hl;rfl)⟩
 ·obtain ⟨ro,D,ab,LY,LZ,rfl,_⟩:=h;rfl
 ·obtain ⟨ro,D,ab,LY,LZ,rfl,A',RA,hL,q⟩:=h
  obtain ⟨dx,hob⟩:=A'.ob;obtain ⟨ks,dk,hks⟩:=RA.yk;have hkl:ks.length<900:=Nat.lt_of_le_of_lt (List.Nodup.length_le_of_subset dk.nd hks) hL;refine ⟨_,(qae (qai (qgh (vars:=[ "key" ]) (frees:=[ "self" ]) (fv:=[0]) rfl (jL1 rfl) ⟨⟨rfl,.inl rfl,rfl,.inl rfl⟩,trivial⟩ (qbb (qag (qe2 rfl) rfl T.b_sorted qcv (jA1 (qaw (pv 0) rfl)))) (qc0 (by decide)) (λ_ _ _ _=>(jM 0 [ "key", "self" ])) (λ_ _ _ _=>qbc) (λ_ _ _ _=>(qak (show OpR _ _ (qrk K) from qnp) (pv 0) (qbn (jA1 (qg2 (by exact qeu hr) (show PE _ _ (qCu K _ _) from qaw (pv 1) rfl) (pv 0) (λ_ _=>rfl))))))))),?_⟩;refine ⟨_,rfl,ro,C_Roll,dx,_,_,rfl,hob,T.cl_Roll,T.na_Roll_whole_ones,qob _ _ _ _ _,D.dy,D.Y,ks,rfl,A'.yo,dk.eq,Nat.lt_trans hkl (by decide),dk.ne',λms zs l1 H1 pm tz n1=>?_⟩;have sk:∀ k,k∈ms↔ab.y k≠none:=λk=>by rw[pm.mem_iff,dk.mem,RA.yv];cases ab.y k<;>simp
  have hml:ms.length=ks.length:=pm.length_eq;have tz1:Tups H1 zs ms:=Tups.same n1.same (show Tups H zs ms from tz);have hzl:=tz1.length;refine ⟨l1,rfl,⟨_,SqL.of n1.at_⟩,qd0 (xs:=zs) (λi ys H2=>Same H1 H2/\Tups H2 ys ((ms.take i).map (qog ab))) (Nat.le_of_lt (qau (by omega))) ⟨Same.refl _,.nil⟩ (λi ys H2 h2=>⟨SqL.of (h2.1 _ _ n1.at_),by have:=h2.2.length;rw[this,List.length_map,List.length_take];omega⟩) ?_ ?_⟩
  ·rintro i x ys H2 hi ⟨s2,ty⟩
   obtain ⟨k,hki,b,rfl,hb⟩:=tz1.get hi;have hkm:k∈ms:=List.mem_of_getElem? hki;have hk2:=dk.ne k (pm.mem_iff.mp hkm);have s02:=n1.same.trans s2;have A2:=A'.same s02;have hb2:=s2 _ _ hb;obtain ⟨n,hn⟩:∃ n,ab.y k=some n:=by
    cases e:ab.y k with
    | none=>exact absurd e ((sk k).mp hkm)
    | some n=>exact ⟨n,rfl⟩
   have hv:qcc D.Y (kI k)=some (.int n):=by rw[RA.yv,hn];rfl
   refine qas (qqc (qdc ?_));refine ⟨_,rfl,_,rfl,ro,C_Roll,dx,_,_,rfl,s02 _ _ hob,T.cl_Roll,T.na_Roll_whole_ones,qob _ _ _ _ _,_,rfl,D.dy,.int n,rfl,?_,(by show 1<=sizeLine;decide),λp3 H3 n3=>?_⟩
   ·have:=DGet.t (k:=kI k) A2.yo (by rw[qBo];exact hb2)
    rw[hv] at this;exact this
   ·refine ⟨b,p3,_,_,rfl,rfl,SqT.of (n3.same _ _ hb2),SqT.of n3.at_,(by intro z;have:=congrArg List.length z;rw[List.length_map,hk2] at this;cases this),(by intro z;cases z),(by rw[List.length_map,hk2];show 2+1<=sizeLine;decide),λp4 H4 n4=>?_⟩
    have s4:=n3.same.trans n4.same;refine ⟨s2.trans s4,?_⟩;rw[qgi _ i _ hki,List.map_append];refine Tups.snoc ⟨p4,rfl,?_⟩ (ty.same s4);rw[n4.at_]
    show some (HO.tup (k.map V.int ++ [V.int n]))=some (.tup ((k ++ [(ab.y k).getD 0]).map V.int))
    rw[hn,List.map_append];rfl
  ·rintro ys H2 l3 H3 ⟨s2,ty⟩ n3
   rw[hzl,List.take_length] at ty;obtain ⟨ms',sk',_⟩:=qe6 (pm.nodup_iff.mpr dk.nd) sk;have pp:ms.Perm ms':=(List.perm_ext_iff_of_nodup (pm.nodup_iff.mpr dk.nd) sk'.nd).mpr λk=>by rw[sk k,sk'.mem]
   exact q l3 ys _ H3 (n1.same.trans (s2.trans n3.same)) ((n1.same.trans s2).free n3.fresh) n3.at_ ⟨ms',sk',pp.map _⟩ (by rw[List.length_map];omega) (ty.same n3.same)
include T in
theorem qds:qdh P w K mg base C_Roll 1 "heaps" ["self"] (qe5 C_Roll C_Rule):=by
 obtain ⟨f,fd,F,hm⟩:=T.f_Roll_heaps;have nd:=sc_Roll_heaps.nd;refine ⟨f,fd,(F.ok sc_Roll_heaps (λvs H Q E h=>?_) (λcdv A outer s H vs Q E hr h=>?_)),hm,(F.binds λ_ _ _ _ _ _ us hl=>by obtain ⟨_,rfl⟩:=L2.lq1 hl;rfl)⟩
 ·obtain ⟨ro,D,ab,LY,LZ,rfl,_⟩:=h;rfl
 ·obtain ⟨ro,D,ab,LY,LZ,rfl,A',RA,hL,q⟩:=h
  obtain ⟨dx,hob⟩:=A'.ob;obtain ⟨ks,dk,hks⟩:=RA.zk;have hkl:ks.length<900:=Nat.lt_of_le_of_lt (List.Nodup.length_le_of_subset dk.nd hks) hL;refine ⟨_,(qae (qai (qgh (vars:=[ "cell" ]) (frees:=[ "self" ]) (fv:=[0]) rfl (jL1 rfl) ⟨⟨rfl,.inl rfl,rfl,.inl rfl⟩,trivial⟩ (qbb (qag (qe2 rfl) rfl T.b_sorted qcv (jA1 (qaw (pv 0) rfl)))) (qc0 (by decide)) (λ_ _ _ _=>(jM 0 [ "cell", "self" ])) (λ_ _ _ _=>qbc) (λ_ _ _ _=>(qak (show OpR _ _ (qrk K) from qnp) (pv 0) (qg2 (by exact qeu hr) (show PE _ _ (qCu K _ _) from qaw (pv 1) rfl) (pv 0) (λ_ _=>rfl))))))),?_⟩;refine ⟨_,rfl,ro,C_Roll,dx,_,_,rfl,hob,T.cl_Roll,T.na_Roll_cell_heaps,qiv _ _ _ _ _,D.dh,D.Z,ks,rfl,A'.he,dk.eq,Nat.lt_trans hkl (by decide),dk.ne',λms zs l1 H1 pm tz n1=>?_⟩;have sk:∀ k,k∈ms↔ab.z k≠none:=λk=>by rw[pm.mem_iff,dk.mem,qwv RA k]
  have hml:ms.length=ks.length:=pm.length_eq;have tz1:Tups H1 zs ms:=Tups.same n1.same (show Tups H zs ms from tz);have hzl:=tz1.length;refine ⟨l1,rfl,⟨_,SqL.of n1.at_⟩,qd0 (xs:=zs) (λi ys H2=>Same H1 H2/\Tups H2 ys ((ms.take i).map (qpv ab))) (Nat.le_of_lt (qau (by omega))) ⟨Same.refl _,.nil⟩ (λi ys H2 h2=>⟨SqL.of (h2.1 _ _ n1.at_),by have:=h2.2.length;rw[this,List.length_map,List.length_take];omega⟩) ?_ ?_⟩
  ·rintro i x ys H2 hi ⟨s2,ty⟩
   obtain ⟨k,hki,b,rfl,hb⟩:=tz1.get hi;have hkm:k∈ms:=List.mem_of_getElem? hki;have hk2:=dk.ne k (pm.mem_iff.mp hkm);have s02:=n1.same.trans s2;have A2:=A'.same s02;have hb2:=s2 _ _ hb;obtain ⟨n,hn⟩:∃ n,ab.z k=some n:=by
    cases e:ab.z k with
    | none=>exact absurd e ((sk k).mp hkm)
    | some n=>exact ⟨n,rfl⟩
   obtain ⟨hh,hv,hht⟩:=RA.zs k n hn;refine qas (qqc (qdc ?_));refine ⟨_,rfl,_,rfl,ro,C_Roll,dx,_,_,rfl,s02 _ _ hob,T.cl_Roll,T.na_Roll_cell_heaps,qiv _ _ _ _ _,?_⟩;refine ⟨_,rfl,D.dh,.ref hh,rfl,?_,?_⟩
   ·have:=DGet.t (k:=kI k) A2.he (by rw[qBo];exact hb2)
    rw[hv] at this;exact this
   ·refine ⟨b,hh,_,_,rfl,rfl,SqT.of hb2,SqT.of (s02 _ _ hht),(by intro z;have:=congrArg List.length z;rw[List.length_map,hk2] at this;cases this),(by intro z;cases z),(by rw[List.length_map,hk2];show 2+4<=sizeLine;decide),λp4 H4 n4=>?_⟩
    refine ⟨s2.trans n4.same,?_⟩;rw[qgi _ i _ hki,List.map_append];refine Tups.snoc ⟨p4,rfl,?_⟩ (ty.same n4.same);rw[n4.at_]
    show some (HO.tup (k.map V.int ++ v4 n))=some (.tup ((k ++ i4 ((ab.z k).getD (0,0,0,0))).map V.int))
    rw[hn,List.map_append];rfl
  ·rintro ys H2 l3 H3 ⟨s2,ty⟩ n3
   rw[hzl,List.take_length] at ty;obtain ⟨ms',sk',_⟩:=qe6 (pm.nodup_iff.mpr dk.nd) sk;have pp:ms.Perm ms':=(List.perm_ext_iff_of_nodup (pm.nodup_iff.mpr dk.nd) sk'.nd).mpr λk=>by rw[sk k,sk'.mem]
   exact q l3 ys _ H3 (n1.same.trans (s2.trans n3.same)) ((n1.same.trans s2).free n3.fresh) n3.at_ ⟨ms',sk',pp.map _⟩ (by rw[List.length_map];omega) (ty.same n3.same)
include T in
theorem qgk:qdh P w K mg base C_Roll 4 "take_heap" ["self", "start", "heap"] (qoh C_Roll C_Rule):=by
 obtain ⟨f,fd,F,hm⟩:=T.f_Roll_take_heap;have nd:=sc_Roll_take_heap.nd;refine ⟨f,fd,(F.ok sc_Roll_take_heap (λvs H Q E h=>?_) (λcdv A outer s H vs Q E hr h=>?_)),hm,(F.binds λ_ _ _ _ _ _ us hl=>by obtain ⟨_,_,_,rfl⟩:=L2.lq3 hl;rfl)⟩
 ·obtain ⟨ro,c,s,LY,LZ,a,h,x,rfl,_⟩:=h;rfl
 ·obtain ⟨ro,c,s',LY,LZ,a,h,x,rfl,⟨Y,Z,A',B'⟩,ok,ha,hh,lz,hz,q⟩:=h
  obtain ⟨dx,hob⟩:=A'.ob;refine ⟨_,(jB2 (jS 3 nd (jF (ql1 T) hr (jA3 (qaw (pv 0) rfl) (qaw (pv 0) rfl) (pv 1)))) (qbd (jC qmq (pv 3) qbr) (qae (qa5 (qo7 (pv 0) T.cl_Roll (qb9 T) (hr.mono (by decide)) (jA2 (pv 3) (pv 2))))) qao)),?_⟩;have lo:=ok.pr.good.lo;refine ⟨_,rfl,ro,C_Roll,dx,_,_,rfl,hob,T.cl_Roll,T.na_Roll_kept_rule,qsg _ _ _ _ _,_,rfl,ro,C_Roll,dx,_,_,rfl,hob,T.cl_Roll,T.na_Roll_kept_edges,qoa _ _ _ _ _,_,rfl,c.ru,c.rl,c.ps,c.g,c.le,c.es,c.ge,a,rfl,A'.rule,A'.ed,ok.es,lo,ok.pr.good.hi,ok.pr.size,ha,λcv o H1 hc cat s1=>?_⟩;have hob1:=s1 _ _ hob;have A1:=A'.same s1;have eo:cellD c a=o:=qj1 (by rw[ok.es];exact lo) hc
  cases o with
  | none =>
   cases (show cv=.non from cat)
   walk_at "r"
   refine q H1 ?_ λb o e _ _=>s1 _ _ e
   unfold qcw;rw[eo];exact ⟨Y,Z,A1,B'.same s1⟩
  | some p =>
   obtain ⟨cc,rfl,hcv⟩:=cat;obtain ⟨b,w'⟩:=p;have B1:=B'.same s1
   walk_at "r"
   refine ⟨ro,dx,_,rfl,hob1,qoc _ _ _ _ _,_,rfl,_,rfl,?_⟩;simp only[qig,List.cons_append,List.nil_append,List.append_nil];refine ⟨ro,_,cc,h,b,w',x,rfl,A1,hcv,s1 _ _ hh,B1.ZOk,Nat.le_trans B1.zlen (by omega),λh2 y H2 hh2 po A2 b2=>?_⟩
   show Q _ _
   have bb:But2 c.dy c.dh H H2:=λz o e _ n2=>b2 _ _ (s1 _ _ e) n2
   refine q H2 ?_ bb;unfold qcw;rw[eo];exact ⟨Y,_,A2,B1.pour po hh2 (λz xs e=>b2 _ _ e (qap e A1.he (by intro z;cases z))) (hz b w' eo)⟩
abbrev IvT (C_Roll C_Rule:Addr) (H1:Hp) (ro r2:Addr) (c:qar) (rs:List (List Int)) (s':Abs) (LY LZ:List (List Int)) (i:Nat) (σ:St) (H3:Hp):Prop:=But2 c.dy c.dh H1 H3/\RR C_Roll C_Rule H3 ro c ((rs.take i).foldl (qcf (cellD c)) s') LY LZ/\∃ v3 v4 v5:Option V,σ=[some (.ref ro),some (.ref r2),v3,v4,v5,none]
abbrev IvU (C_Roll C_Rule:Addr) (H4:Hp) (ro r2:Addr) (c:qar) (rs qs:List (List Int)) (s':Abs) (LY LZ:List (List Int)) (v3 v4 v5:Option V) (i:Nat) (σ:St) (H5:Hp):Prop:=But2 c.dy c.dh H4 H5/\RR C_Roll C_Rule H5 ro c ((qs.take i).foldl (qbo (cellD c)) (rs.foldl (qcf (cellD c)) s')) LY LZ/\∃ v6:Option V,σ=[some (.ref ro),some (.ref r2),v3,v4,v5,v6]
include T in
theorem qcn:qdh P w K mg base C_Roll 5 "take_all" ["self", "roll"] (qc5 C_Roll C_Rule):=by
 obtain ⟨f,fd,F,hm⟩:=T.f_Roll_take_all;have nd:=sc_Roll_take_all.nd;refine ⟨f,fd,(F.ok sc_Roll_take_all (λvs H Q E h=>?_) (λcdv A outer s H vs Q E hr h=>?_)),hm,(F.binds λ_ _ _ _ _ _ us hl=>by obtain ⟨_,_,rfl⟩:=L2.lq2 hl;rfl)⟩
 ·obtain ⟨ro,r2,c,c2,s,s2,LY,LZ,LY2,LZ2,rfl,_⟩:=h;rfl
 ·obtain ⟨ro,r2,c,c2,s',s2,LY,LZ,LY2,LZ2,rfl,R1,R2,ok,ap,ly,lz,ly2,lz2,tk,q⟩:=h
  obtain ⟨dx,hob⟩:=R1.obj;obtain ⟨dx2,hob2⟩:=R2.obj;refine ⟨_,(jB2 (qdb PassesOwn.never rfl (qbb (qax (pv 1) T.cl_Roll (ql3 T) (hr.mono (by decide)))) (jG3 (jN 2 nd) (jN 3 nd) (jN 4 nd)) (qae (qa5 (qb5 (qbz ⟨rfl,rfl,rfl⟩) (pv 0) T.cl_Roll (qgb T) (hr.mono (by decide)) .nil (jA3 (pv 2) (pv 3) (pv 4)))))) (qdb PassesOwn.never rfl (qbb (qax (pv 1) T.cl_Roll (qds T) (hr.mono (by decide)))) (jN 5 nd) (qae (qa5 (qo7 (pv 0) T.cl_Roll (qgk T) (hr.mono (by decide)) (jA2 (jT (pv 5) qab) (qdx qz2 (pv 5) (qee qab) qg0))))))),?_⟩;refine ⟨_,rfl,r2,dx2,_,rfl,hob2,qsj _ _ _ _ _,?_⟩;simp only[qig,List.cons_append,List.nil_append,List.append_nil];refine R2.young ly2 λl xs rs H1 s1 f1 hl tl pr kl=>?_
  have R1a:=R1.same s1;obtain ⟨⟨Y1,hY1⟩,⟨Z1,hZ1⟩⟩:=R1a.dicts;refine ⟨l,rfl,⟨_,SqL.of hl⟩,qch (D:={ nx:=_,rt:=Q }) (xs:=xs) (λi σ H3=>IvT C_Roll C_Rule H1 ro r2 c rs s' LY LZ i σ H3) ⟨But2.refl _ _ _,R1a,none,none,none,rfl⟩ (λi σ H3 _ h3=>SqL.of (h3.1.keep hY1 hZ1 hl (by intro K z;cases z))) ?_ ?_⟩
  ·rintro i x σ H3 hxi ⟨b3,R3,v3,v4,v5,rfl⟩
   obtain ⟨r',hr',ta,rfl,hta⟩:=tl.get hxi;obtain ⟨t,v,m,rfl,rok,hy,hz⟩:=tk.y r' (pr.mem_iff.mp (List.mem_of_getElem? hr'));have hta3:=b3.keep hY1 hZ1 hta (by intro K z;cases z);obtain ⟨dx3,hob3⟩:=R3.obj;refine ⟨ta,_,rfl,SqT.of hta3,rfl,_,_,rfl,_,_,rfl,_,_,rfl,rfl,?_⟩;refine ⟨_,rfl,ro,dx3,_,rfl,hob3,qsh _ _ _ _ _,_,rfl,_,rfl,_,rfl,?_⟩;simp only[qig,List.cons_append,List.nil_append,List.append_nil];refine R3.putX ok rok.1 rok.2.2.1 rok.2 ly lz hy hz λH4 R4 b4=>?_
   refine ⟨b3.trans b4,?_,_,_,_,rfl⟩;rw[qgi _ i _ hr',List.foldl_append];exact R4
  ·rintro σ H3 ⟨b3,R3,v3,v4,v5,rfl⟩
   rw[tl.length,List.take_length] at R3;have R2':=(R2.same s1).frame b3 hY1 hZ1 ap.1 ap.2.1 ap.2.2.1 ap.2.2.2;obtain ⟨dx4,hob4⟩:=R2'.obj;refine ⟨_,rfl,r2,dx4,_,rfl,hob4,qhk _ _ _ _ _,?_⟩;simp only[qig,List.cons_append,List.nil_append,List.append_nil];refine R2'.heaps lz2 λl4 xs4 qs H4 s4 f4 hl4 tl4 pq kl4=>?_
   have R4:=R3.same s4;obtain ⟨⟨Y4,hY4⟩,⟨Z4,hZ4⟩⟩:=R4.dicts;have b04:But2 c.dy c.dh H H4:=λz o e n1 n2=>s4 _ _ (b3 _ _ (s1 _ _ e) n1 n2)
   refine ⟨l4,rfl,⟨_,SqL.of hl4⟩,qch (D:={ nx:=_,rt:=Q }) (xs:=xs4) (λi σ H5=>IvU C_Roll C_Rule H4 ro r2 c rs qs s' LY LZ v3 v4 v5 i σ H5) ⟨But2.refl _ _ _,R4,none,rfl⟩ (λi σ H5 _ h5=>SqL.of (h5.1.keep hY4 hZ4 hl4 (by intro K z;cases z))) ?_ ?_⟩
   ·rintro i x σ H5 hxi ⟨b5,R5,v6,rfl⟩
    obtain ⟨r',hr',ta,rfl,hta⟩:=tl4.get hxi;obtain ⟨a,w',m,t,lo,hi,rfl,ha,hz⟩:=tk.z r' (pq.mem_iff.mp (List.mem_of_getElem? hr'));have hta5:=b5.keep hY4 hZ4 hta (by intro K z;cases z);obtain ⟨dx5,hob5⟩:=R5.obj
    walk_at "r"
    refine ⟨ro,dx5,_,rfl,hob5,qdk _ _ _ _ _ (by decide +kernel) (by decide +kernel) (by decide +kernel) (by decide +kernel) (by decide +kernel),?_⟩
    walk_at "r"
    refine ⟨λz=>by have z1:HT.sIx 6 0 (some 2)=0:=z.1;revert z1;decide,λp hp=>?_⟩;have n6:New H5 (upd H5 p (.tup (qkm (List.map V.int [a,w',m,t,lo,hi]) (some 2) none))) p (.tup (TB.v4 (m,t,lo,hi))):=qa0 hp;simp only[qig,List.cons_append,List.nil_append,List.append_nil];refine ⟨ro,c,_,LY,LZ,a,p,(m,t,lo,hi),rfl,R5.same n6.same,ok,ha,n6.at_,lz,hz,λH7 R7 b7=>?_⟩;refine ⟨λz o e n1 n2=>b7 _ _ (n6.same _ _ (b5 _ _ e n1 n2)) n1 n2,?_,_,rfl⟩;rw[qgi _ i _ hr',List.foldl_append];exact R7
   ·rintro σ H5 ⟨b5,R5,v6,rfl⟩
    rw[tl4.length,List.take_length] at R5;refine q H5 ?_ (b04.trans b5);unfold qeh;rw[<- qlh (qc7 _) pr s',<- qlh (qcs _) pq];exact R5
theorem qy6 (ru:Addr) (day:Int) (le dy dh p:Addr):qek "kept_edges" (.ref p) (rof ru day le dy dh)=rof ru day p dy dh:=by rfl
inductive ql4 (C R:Addr) (vs:List V) (H:Hp) (Q:VK) (E_:XK):Prop
 | mk:∀ (ru rl e:Addr) (ps:List (Int×Int)) (g:Option Int) (day:Int) (EV:List V) (es:List Int) (ge:Option Int),vs=[.ref ru,.int day,.ref e]->RuleAt R H ru rl ps g->Pr ps g->Bd day->H e=some (.lst EV)->(∀ v∈EV,Ed v)->EV.length<=10->EV.length=ps.length+1->EdS EV es ge->es.length=ps.length->(∀ ro c H',RollAt C R H' ro c->c.ps=ps->c.g=g->c.day=day->c.Y=[]->c.Z=[]->EdS (List.zipWith gE (eV ps g day) EV) c.es c.ge->c.es.length=ps.length->Same H H'->H c.dy=none->H c.dh=none->(c.ru=ru/\c.rl=rl/\H c.le=none)->Q (.ref ro) H')->ql4 C R vs H Q E_
include T in
theorem qs8:qbe P w K mg base 6 "begun" ["rule", "day", "edges"] (ql4 C_Roll C_Rule):=by
 obtain ⟨f,fd,F,hm⟩:=T.f_begun;have nd:=sc_begun.nd;refine F.def_ hm (F.ok sc_begun (λvs H Q E h=>?_) (λcdv A outer s H vs Q E hr h=>?_)) (F.binds λ_ _ _ _ _ _ us hl=>by obtain ⟨_,_,_,rfl⟩:=L2.lq3 hl;rfl)
 ·obtain ⟨ru,rl,e,ps,g,day,EV,es,ge,rfl,_⟩:=h;rfl
 ·obtain ⟨ru,rl,e,ps,g,day,EV,es,ge,rfl,R,Pg,hd,he,hEd,h10,hEl,Ee,hln,q⟩:=h
  refine ⟨_,(jB3 (jS 3 nd (qkt (qvd T) (hr.mono (by decide)) rfl .nil (jA2 (pv 0) (pv 1)))) (qby (pv 3) (jF (qh3 T) hr (jA2 (qaw (pv 3) rfl) (pv 2))) rfl) (qai (pv 3))),?_⟩;refine ⟨_,rfl,_,rfl,λro dx H1 s1 f1 d1=>?_⟩;refine ⟨ro,dx,ru,rl,ps,g,day,rfl,d1,R.same s1,Pg,hd,λle dy dh H2 z1 z2 z3 A2 b2=>⟨rfl,?_⟩⟩;have s2:Same H H2:=b2.same s1 f1;obtain ⟨dx2,hob⟩:=A2.ob;have E0':=EdS.of Pg hd;have hob':H2 ro=some (.ins C_Roll dx2 (rof ru day le dy dh)):=hob;have hed:H2 le=some (.lst (eV ps g day)):=by rw[E0'.eq];exact A2.ed
  have l0:(eV ps g day).length=ps.length+1:=by rw[E0'.eq];simp
  have g5:=Pg.good.hi;refine ⟨_,rfl,ro,C_Roll,dx2,_,_,rfl,hob',T.cl_Roll,T.na_Roll_kept_edges,qoa _ _ _ _ _,_,rfl,le,e,_,EV,rfl,hed,s2 _ _ he,E0'.ed,hEd,by rw[l0,hEl],by omega,λp H3 n3=>?_⟩;refine ⟨_,rfl,ro,C_Roll,dx2,_,rfl,n3.same _ _ hob',T.cl_Roll,T.na_Roll_kept_edges,(by show 5<1000;decide),λH4 b4 h4=>?_⟩;rw[qy6] at h4;have A3:=A2.same n3.same;have M:=E0'.max Ee (by rw[List.length_map];exact hln.symm);have hro3:=n3.same _ _ hob';have hp4:H4 p=some (.lst (List.zipWith gE (eV ps g day) EV)):=b4 _ _ n3.at_ (qap n3.at_ hro3 (by intro z;cases z));obtain ⟨dxr,hru⟩:=A3.rule.ob;have nru:ru≠ro:=qap hru hro3 (by intro z;injection z with _ _ z;have:=qla rl (gv g);have z':rf rl (gv g)=rof ru day le dy dh:=z;rw[z'] at this;cases this);have s04:Same H H4:=b4.same (s2.trans n3.same) f1;refine ⟨_,rfl,q ro { qD3 ru rl p dy dh ps g day with es:=_,ge:=_ } H4 ⟨⟨dx2,h4⟩,A3.rule.but2 b4 hro3 qcr (by intro xs z;cases z) nru,?_,b4 _ _ A3.yo (qap A3.yo hro3 (by intro z;cases z)),b4 _ _ A3.he (qap A3.he hro3 (by intro z;cases z)),A3.ne⟩ rfl rfl rfl rfl rfl M ?_ s04 (s1.free z2) (s1.free z3) ⟨rfl,rfl,s2.free n3.fresh⟩⟩
  ·rw[M.eq] at hp4;exact hp4
  ·show (List.zipWith _ _ _).length=ps.length
   rw[List.length_zipWith,List.length_map];omega
theorem EdS.uniq {E:List V} {a b:List Int} {g h:Option Int} (x:EdS E a g) (y:EdS E b h):a=b/\g=h:=by
 have e:=x.eq.symm.trans y.eq;have hl:(a.map V.int).length=(b.map V.int).length:=by have:=congrArg List.length e;simp only[List.length_append,List.length_singleton] at this;omega
 obtain ⟨e1,e2⟩:=List.append_inj e hl;refine ⟨?_,?_⟩
 ·have:∀ {a b:List Int},a.map V.int=b.map V.int->a=b:=fun {a b} e=>by
   induction a generalizing b with
   | nil=>cases b with
    | nil=>rfl
    | cons _ _=>cases e
   | cons x t ih=>cases b with
    | nil=>cases e
    | cons y u=>injection e with h1 h2;injection h1 with h1;rw[h1,ih h2]
  exact this e1
 ·injection e2 with h1 _
  cases g<;>cases h<;>first|rfl|(injection h1 with h1;rw[h1])|cases h1
inductive qh4 (C R:Addr) (vs:List V) (H:Hp) (Q:VK) (E_:XK):Prop
 | mk:∀ (ro:Addr) (c:qar) (s:Abs) (LY LZ LY' LZ':List (List Int)) (d:Int) (fs:List Int) (fg:Option Int),vs=[.ref ro,.int d]->RR C R H ro c s LY LZ->qdl c->EdS (c.es.map V.int ++ [gv c.ge]) c.es c.ge->Bd c.day->Bd d->c.day<=d->LY.length<900->LZ.length<900->EdS (List.zipWith gE (eV c.ps c.g d) (c.es.map V.int ++ [gv c.ge])) fs fg->LY'.length<200->LZ'.length<200->TakeOk (qbi (c.ps.map (·.2)) fs fg) LY' LZ' (qcl s) (qce s)->(∀ r' c' H',c'.ps=c.ps->c'.g=c.g->c'.day=d->c'.es=fs->c'.ge=fg->qdl c'->RR C R H' r' c' (qeh (qbi (c.ps.map (·.2)) fs fg) qpt (qcl s) (qce s)) LY' LZ'->Same H H'->(H c'.dy=none/\H c'.dh=none)->(c'.ru=c.ru/\c'.rl=c.rl/\H c'.le=none)->Q (.ref r') H')->qh4 C R vs H Q E_
include T in
theorem qBw:qbe P w K mg base 7 "aged" ["roll", "day"] (qh4 C_Roll C_Rule):=by
 obtain ⟨f,fd,F,hm⟩:=T.f_aged;have nd:=sc_aged.nd;refine F.def_ hm (F.ok sc_aged (λvs H Q E h=>?_) (λcdv A outer s H vs Q E hr h=>?_)) (F.binds λ_ _ _ _ _ _ us hl=>by obtain ⟨_,_,rfl⟩:=L2.lq2 hl;rfl)
 ·obtain ⟨ro,c,s',LY,LZ,LY',LZ',d,fs,fg,rfl,_⟩:=h;rfl
 ·obtain ⟨ro,c,s',LY,LZ,LY',LZ',d,fs,fg,rfl,R0,ok,E0',hd0,hd,hle,ly,lz,Ef,ly',lz',tk,q⟩:=h
  obtain ⟨dx,hob⟩:=R0.obj;obtain ⟨Y0,Z0,A0,B0⟩:=id R0;have hEl:(c.es.map V.int ++ [gv c.ge]).length=c.ps.length+1:=by simp[ok.es]
  have g5:=ok.pr.good.hi;refine ⟨_,(jB4 (qbd (jC qif (pv 1) (qax (pv 0) T.cl_Roll (qp4 T) (hr.mono (by decide)))) (qae qbs) qao) (jS 2 nd (jF (qs8 T) hr (jA3 (qax (pv 0) T.cl_Roll (qm3 T) (hr.mono (by decide))) (pv 1) (qax (pv 0) T.cl_Roll (ql2 T) (hr.mono (by decide)))))) (qa5 (qo7 (pv 2) T.cl_Roll (qcn T) (hr.mono (by decide)) (jA1 (pv 0)))) (qai (pv 2))),?_⟩
  walk_at "r"
  refine ⟨ro,dx,_,rfl,hob,qyx _ _ _ _ _,ro,_,rfl,A0,?_⟩
  walk_at "r"
  refine qmv (λz=>absurd (of_decide_eq_true z) (by show ¬ d<c.day;omega)) λ_=>?_
  walk_at "r"
  refine ⟨ro,dx,_,rfl,hob,qu3 _ _ _ _ _,ro,_,rfl,A0,?_⟩
  walk_at "r"
  refine ⟨ro,dx,_,rfl,hob,qsi _ _ _ _ _,ro,_,rfl,A0,λle H3 n3=>?_⟩;have s03:=n3.same;refine ⟨c.ru,c.rl,le,c.ps,c.g,d,_,c.es,c.ge,rfl,A0.rule.same s03,ok.pr,hd,n3.at_,E0'.ed,Nat.le_trans (Nat.le_of_eq hEl) (by omega),hEl,E0',ok.es,λr' c' H4 A4 e1 e2 e3 eY eZ Ec hcl s4 f1 f2 w1=>?_⟩;obtain ⟨z1,z2⟩:=EdS.uniq Ec Ef;have okc:qdl c':=⟨by rw[e1,e2];exact ok.pr,by rw[hcl,e1]⟩;have ec:{ c' with Y:=[],Z:=[] }=c':=by
   cases c'
   simp only at eY eZ;rw[eY,eZ]
  have R4:RR C_Roll C_Rule H4 r' c' qpt LY' LZ':=⟨[],[],by rw[ec];exact A4,RAbs.zero rfl rfl⟩;have s04:=s03.trans s4;have ecell:cellD c'=qbi (c.ps.map (·.2)) fs fg:=by unfold cellD;rw[e1,z1,z2]
  obtain ⟨dx4,hob4⟩:=R4.obj;obtain ⟨⟨Yr,hYr⟩,⟨Zr,hZr⟩⟩:=(R0.same s03).dicts
  walk_at "r"
  refine ⟨r',dx4,_,rfl,hob4,qdk _ _ _ _ _ (by decide +kernel) (by decide +kernel) (by decide +kernel) (by decide +kernel) (by decide +kernel),?_⟩
  walk_at "r"
  refine ⟨r',ro,c',c,qpt,s',LY',LZ',LY,LZ,rfl,R4,R0.same s04,okc,⟨qac hYr f1,qac hYr f2,qac hZr f1,qac hZr f2⟩,ly',lz',ly,lz,by rw[ecell];exact tk,λH5 R5 b5=>?_⟩;rw[ecell] at R5
  walk_at "r"
  exact q r' c' H5 e1 e2 e3 z1 z2 okc R5 (λb o e=>b5 _ _ (s04 _ _ e) (qac (s03 _ _ e) f1) (qac (s03 _ _ e) f2)) ⟨s03.free f1,s03.free f2⟩ ⟨w1.1,w1.2.1,s03.free w1.2.2⟩
def qve (cell:Int->Option (Int×Int)) (r:List Int):List Int:=match cell (r.headD 0) with
 | none=>[]
 | some p=>[p.1,p.2]
theorem qy7 {x y:V} (hx:Ed x) (hy:Ed y):gE x (gE x y)=gE x y:=by
 rcases hx with rfl|⟨i,rfl⟩<;>rcases hy with rfl|⟨j,rfl⟩<;>try rfl
 ·show V.int (if i>i then i else i)=V.int i
  split<;>rfl
 ·show V.int (if (if j>i then j else i)>i then (if j>i then j else i) else i)=V.int (if j>i then j else i)
  congr 1
  repeat' split
  all_goals omega
theorem qok:∀ {xs ys:List V},(∀ v∈xs,Ed v)->(∀ v∈ys,Ed v)->List.zipWith gE xs (List.zipWith gE xs ys)=List.zipWith gE xs ys
 | [],ys,_,_=>by simp
 | x :: xs,[],_,_=>rfl
 | x :: xs,y :: ys,h1,h2=>by
  simp only[List.zipWith_cons_cons];rw[qy7 (h1 x List.mem_cons_self) (h2 y List.mem_cons_self),qok (λv hv=>h1 v (List.mem_cons_of_mem _ hv)) λv hv=>h2 v (List.mem_cons_of_mem _ hv)]
theorem RR.skeys {C R:Addr} {H:Hp} {ro:Addr} {c:qar} {s:Abs} {LY LZ:List (List Int)} (h:RR C R H ro c s LY LZ):∃ my mz,SKeys s.y my/\SKeys s.z mz/\(∀ k∈my,k.length=2)/\∀ k∈mz,k.length=2:=by
 obtain ⟨Y,Z,A,B⟩:=h;obtain ⟨ks,dk,_⟩:=B.yk;obtain ⟨js,dj,_⟩:=B.zk;have hy:∀ k,k∈ks↔s.y k≠none:=λk=>by rw[dk.mem,B.yv];cases s.y k<;>simp
 have hz:∀ k,k∈js↔s.z k≠none:=λk=>by rw[dj.mem];exact qwv B k
 obtain ⟨my,sy,_⟩:=qe6 dk.nd hy;obtain ⟨mz,sz,_⟩:=qe6 dj.nd hz;exact ⟨my,mz,sy,sz,λk hk=>dk.ne k ((hy k).mpr ((sy.mem k).mp hk)),λk hk=>dj.ne k ((hz k).mpr ((sz.mem k).mp hk))⟩
theorem qy8 {cell:Int->Option (Int×Int)} {s:Abs} {my mz:List (List Int)} {B N:Int} (h:AbsB B N s) (hB:B<10 ^ 46) (hN:N<10 ^ 45) (sy:SKeys s.y my) (sz:SKeys s.z mz):TakeOk cell my (my.map (qve cell) ++ mz.map (qve cell)) (qcl s) (qce s):=by
 refine ⟨λr hr=>?_,λr hr=>?_⟩
 ·rw[<- qc3 sy] at hr
  obtain ⟨k,hk,rfl⟩:=List.mem_map.mp hr
  cases e:s.y k with
  | none=>exact absurd e ((sy.mem k).mp hk)
  | some n =>
   obtain ⟨t,v,rfl,h1,h2,h3,h4⟩:=h.y k n e;refine ⟨t,v,n,by unfold qog;rw[e];rfl,⟨by unfold qpq;dsimp only;omega,by unfold qu4;dsimp only;omega⟩,hk,λa w ec=>List.mem_append_left _ (List.mem_map.mpr ⟨_,hk,?_⟩)⟩;unfold qve;dsimp only [List.headD];rw[ec]
 ·rw[<- qc4 sz] at hr
  obtain ⟨k,hk,rfl⟩:=List.mem_map.mp hr
  cases e:s.z k with
  | none=>exact absurd e ((sz.mem k).mp hk)
  | some x =>
   obtain ⟨a,w,rfl,h1,h2⟩:=h.z k x e;refine ⟨a,w,x.1,x.2.1,x.2.2.1,x.2.2.2,by unfold qpv i4;rw[e];rfl,by unfold qpq;omega,λb w' ec=>List.mem_append_right _ (List.mem_map.mpr ⟨_,hk,?_⟩)⟩;unfold qve;dsimp only [List.headD];rw[ec]
theorem qy9 {x:V} (hx:Ed x):gE x x=x:=by
 rcases hx with rfl|⟨i,rfl⟩
 ·rfl
 ·show V.int (if i>i then i else i)=V.int i
  split<;>rfl
theorem qol:∀ {xs:List V},(∀ v∈xs,Ed v)->List.zipWith gE xs xs=xs
 | [],_=>rfl
 | x :: xs,h=>by
  rw[List.zipWith_cons_cons,qy9 (h x List.mem_cons_self),qol λv hv=>h v (List.mem_cons_of_mem _ hv)]
theorem qs9 {a b:List Int} (g1 g2:Option Int) (h:a.length=b.length):Later b (List.zipWith mx a b) g2 (qwk g1 g2) where
 len:=by rw[List.length_zipWith];omega
 up:=λi x y hx hy=>by
  obtain ⟨u,v,hu,hv,rfl⟩:=qss hy;rw[hx] at hv;cases hv;exact (qy1 u x).2.1
 gn:=λz hz=>by
  subst hz
  cases g1 with
  | none=>exact ⟨z,rfl,Int.le_refl _⟩
  | some j=>exact ⟨mx j z,rfl,(qy1 j z).2.1⟩
theorem RR.mono {C R:Addr} {H:Hp} {ro:Addr} {c:qar} {s:Abs} {LY LZ LY' LZ':List (List Int)} (h:RR C R H ro c s LY LZ) (a:LY ⊆ LY') (b:LZ ⊆ LZ'):RR C R H ro c s LY' LZ':=
 let ⟨Y,Z,A,B⟩:=h;⟨Y,Z,A,B.mono a b⟩
structure KN (rs:List Rd3):Prop where
 l:rs.length<=96
theorem KN.nil:KN []:=⟨Nat.zero_le _⟩
theorem KN.sub {rs rs':List Rd3} (_:KN rs) (_:∀ r∈rs',r∈rs) (l:rs'.length<=96):KN rs':=⟨l⟩
theorem KN.keys {rs:List Rd3} (h:KN rs) (cell:Int->Option (Int×Int)) {my mz:List (List Int)} (hy:SKeys (qcp cell rs).y my) (hz:SKeys (qcp cell rs).z mz):my.length+mz.length<=96:=Nat.le_trans (qyz (qsq cell rs) hy hz) h.l
theorem RR.fit {C R:Addr} {H:Hp} {ro:Addr} {c:qar} {cell:Int->Option (Int×Int)} {rs:List Rd3} {LY LZ:List (List Int)} (h:RR C R H ro c (qcp cell rs) LY LZ) (kn:KN rs):∃ LY' LZ',LY'.length<=96/\LZ'.length<=96/\RR C R H ro c (qcp cell rs) LY' LZ':=by
 obtain ⟨my,mz,sy,sz,_,_⟩:=h.skeys;have cnt:=kn.keys cell sy sz;obtain ⟨Y,Z,A,B⟩:=h;refine ⟨my,mz,by omega,by omega,Y,Z,A,B.yv,?_,B.zn,B.zs,?_⟩
 ·obtain ⟨ks,dk,_⟩:=B.yk
  exact ⟨ks,dk,λk hk=>(sy.mem k).mpr λz=>(dk.mem k).mp hk (by rw[B.yv k,z];rfl)⟩
 ·obtain ⟨ks,dk,_⟩:=B.zk
  exact ⟨ks,dk,λk hk=>(sz.mem k).mpr λz=>(dk.mem k).mp hk (B.zn k z)⟩
structure R63 (C R:Addr) (H:Hp) (r:Addr) (q:qar) (ps:List (Int×Int)) (g:Option Int) (d:Int) (es:List Int) (ge:Option Int) (rs:List Rd3) (LY LZ:List (List Int)):Prop where
 R:RR C R H r q (qcp (qbi (ps.map (·.2)) es ge) rs) LY LZ
 ok:qdl q
 qp:q.ps=ps
 qg:q.g=g
 qd:q.day=d
 qe:q.es=es
 qh:q.ge=ge
 P:Pr ps g
 wb:∀ p∈ps,p.2<=10 ^ 35
 E:EdS (es.map V.int ++ [gv ge]) es ge
 F:Fall (ps.map (·.2)) es ge
 dom:List.zipWith gE (eV ps g d) (es.map V.int ++ [gv ge])=es.map V.int ++ [gv ge]
 hd:Bd d
 hr:∀ r∈rs,RLt r
 ly:LY.length<=96
 lz:LZ.length<=96
structure qww (ps:List (Int×Int)) (g:Option Int) (D:Int) (EV:List V) (es:List Int) (ge:Option Int) (fs:List Int) (fg:Option Int):Prop where
 Ef:EdS (List.zipWith gE (eV ps g D) EV) fs fg
 F:Fall (ps.map (·.2)) fs fg
 L:Later es fs ge fg
 eq:List.zipWith gE (eV ps g D) EV=fs.map V.int ++ [gv fg]
 dom:List.zipWith gE (eV ps g D) (fs.map V.int ++ [gv fg])=fs.map V.int ++ [gv fg]
 E:EdS (fs.map V.int ++ [gv fg]) fs fg
theorem qDm {ps:List (Int×Int)} {g:Option Int} (P:Pr ps g) {D:Int} (hD:Bd D) {es:List Int} {ge:Option Int} {EV:List V} (E:EdS EV es ge) (F:Fall (ps.map (·.2)) es ge):∃ fs fg,qww ps g D EV es ge fs fg:=by
 have l1:(ps.map λp=>cut D p.1 p.2).length=es.length:=by have:=F.len;rw[List.length_map] at this ⊢;exact this
 have M:=(EdS.of P hD).max E l1;have M':=M;rw[M.eq] at M';refine ⟨_,_,M,(Fall.of P D).max F,qs9 _ _ l1,M.eq,?_,M'⟩;rw[<- M.eq];exact qok (EdS.of P hD).ed E.ed
section
variable {C R N:Addr} {H H':Hp} {r ru rl:Addr} {q:qar} {ps ps2:List (Int×Int)} {g g2:Option Int} {d D:Int} {es fs:List Int} {ge fg:Option Int} {rs:List Rd3} {LY LZ:List (List Int)} {Q:VK} {E:XK}
theorem R63.same (e:Same H H') (h:R63 C R H r q ps g d es ge rs LY LZ):R63 C R H' r q ps g d es ge rs LY LZ:={ h with R:=h.R.same e }
theorem R63.empty (h:R63 C R H r q ps g d es ge [] LY LZ):R63 C R H r q ps g d es ge [] [] []:=by
 obtain ⟨my,mz,sy,sz,_,_⟩:=h.R.skeys;refine { h with R:=?_,ly:=Nat.zero_le _,lz:=Nat.zero_le _ };obtain ⟨Y,Z,A,B⟩:=h.R;refine ⟨Y,Z,A,B.yv,?_,B.zn,B.zs,?_⟩
 ·obtain ⟨ks,dk,_⟩:=B.yk
  exact ⟨ks,dk,λk hk=>absurd (by rw[B.yv k];rfl) ((dk.mem k).mp hk)⟩
 ·obtain ⟨ks,dk,_⟩:=B.zk
  exact ⟨ks,dk,λk hk=>absurd (B.zn k rfl) ((dk.mem k).mp hk)⟩
theorem R63.cellD (h:R63 C R H r q ps g d es ge rs LY LZ):TB.cellD q=qbi (ps.map (·.2)) es ge:=by unfold TB.cellD;rw[h.qp,h.qe,h.qh]
theorem R63.eq (h:R63 C R H r q ps g d es ge rs LY LZ):q.es.map V.int ++ [gv q.ge]=es.map V.int ++ [gv ge]:=by rw[h.qe,h.qh]
theorem R63.len (h:R63 C R H r q ps g d es ge rs LY LZ):1<=es.length:=by have:=h.F.len;have:=h.P.good.lo;rw[List.length_map] at *;omega
theorem R63.take (h:R63 C R H r q ps g d es ge rs LY LZ) (h50:KN rs) (cell':Int->Option (Int×Int)) :
  ∃ LY' LZ',LY'.length<=96/\LZ'.length<=96/\TakeOk cell' LY' LZ' (qcl (qcp (qbi (ps.map (·.2)) es ge) rs)) (qce (qcp (qbi (ps.map (·.2)) es ge) rs)):=by
 obtain ⟨my,mz,sy,sz,h2,hz2⟩:=h.R.skeys;have nr:qCi (10 ^ 36) (qbi (ps.map (·.2)) es ge):=qsp (by rw[List.length_map];exact h.P.good.lo) h.len (by decide) λw hw=>by
  obtain ⟨p,hp,rfl⟩:=List.mem_map.mp hw;obtain ⟨i,hi,e⟩:=List.getElem_of_mem hp;have:=h.wb p hp;exact ⟨(h.P.good.each i p (by rw[<- e];exact List.getElem?_eq_getElem hi)).2,by omega⟩
 have hab:=qsr nr rs (s:=qpt) (N:=0) qDk (by omega) λr hr=>h.hr r hr
 have h90:=h50.l;have hN:0+10 ^ 31*(rs.length:Int)<=10 ^ 33:=by omega
 have hab':AbsB (5*10 ^ 45+10 ^ 36) (10 ^ 33) (qcp (qbi (ps.map (·.2)) es ge) rs):=⟨λk n e=>by obtain ⟨t,v,e1,e2,e3,e4,e5⟩:=hab.y k n e;exact ⟨t,v,e1,e2,e3,e4,by omega⟩,hab.z⟩;have cnt:=h50.keys (qbi (ps.map (·.2)) es ge) sy sz;have tk:=qy8 (cell:=cell') hab' (by omega) (by omega) sy sz;exact ⟨_,_,by omega,by rw[List.length_append,List.length_map,List.length_map];omega,tk⟩
theorem R63.put {t:Rd3} (h:R63 C R H r q ps g d es ge rs LY LZ) (h50:KN (rs ++ [t])) (ht:RLt t) (k:∀ LY' LZ' H',R63 C R H' r q ps g d es ge (rs ++ [t]) LY' LZ'->But2 q.dy q.dh H H'->Q (.bl (qbi (ps.map (·.2)) es ge t.1).isSome) H'):qfj C R N [.ref r,.int t.1,.int t.2.1,.int t.2.2] H Q E:=by
 have l1:=h.ly;have l2:=h.lz;have ht':=ht;obtain ⟨t1,t2⟩:=ht;have ec:=h.cellD;refine (h.R.mono (List.subset_cons_self [t.1,t.2.1] _) (List.subset_cons_self (qD4 (qbi (ps.map (·.2)) es ge) t) _)).putX h.ok (by unfold qpq;omega) t2.2.1 (by unfold qu4;dsimp only;omega) (by rw[List.length_cons];omega) (by rw[List.length_cons];omega) List.mem_cons_self (λa w e=>by rw[ec] at e;unfold qD4;rw[e];exact List.mem_cons_self) λH3 R3 b3=>?_
 rw[ec] at R3 ⊢;rw[<- qpu] at R3;obtain ⟨LY',LZ',l3,l4,R4⟩:=R3.fit h50;exact k LY' LZ' H3 { h with R:=R4,hr:=λr hr=>(List.mem_append.mp hr).elim (h.hr r) λz=>by rw[List.mem_singleton.mp z];exact ht',ly:=l3,lz:=l4 } b3
theorem R63.aged (h:R63 C R H r q ps g d es ge rs LY LZ) (h50:KN rs) (hD:Bd D) (hdD:d<=D) (U:qww ps g D (es.map V.int ++ [gv ge]) es ge fs fg) (k:∀ r' q' LY' LZ' H',Same H H'->R63 C R H' r' q' ps g D fs fg rs LY' LZ'->(H q'.dy=none/\H q'.dh=none)->(q'.ru=q.ru/\q'.rl=q.rl/\H q'.le=none)->Q (.ref r') H'):qh4 C R [.ref r,.int D] H Q E:=by
 have l1:=h.ly;have l2:=h.lz;obtain ⟨LY',LZ',l3,l4,tk⟩:=h.take h50 (qbi (ps.map (·.2)) fs fg);refine ⟨r,q,_,LY,LZ,LY',LZ',D,fs,fg,rfl,h.R,h.ok,by rw[h.eq,h.qe,h.qh];exact h.E,by rw[h.qd];exact h.hd,hD,by rw[h.qd];exact hdD,by omega,by omega,by rw[h.qp,h.qg,h.eq];exact U.Ef,by omega,by omega,by rw[h.qp];exact tk,λr' c' H' e1 e2 e3 e4 e5 ok' R' s f f2=>?_⟩;have hT:=qsx (qhq h.F U.F U.L h.len) rs;rw[h.qp,hT] at R';exact k r' c' LY' LZ' H' s ⟨R',ok',by rw[e1,h.qp],by rw[e2,h.qg],e3,e4,e5,h.P,h.wb,U.E,U.F,U.dom,hD,h.hr,by omega,by omega⟩ f f2
end
theorem qkb {n:Nat} (h:n<=20000):n<=sizeLine:=by rw[sizeLine_eq];omega
def qa4 (n:Int) (x:List Nat):Prop:=1<=x.length/\(x.length:Int)<=n/\∀ c∈x,97<=c/\c<=122
instance (n:Int) (x:List Nat):Decidable (qa4 n x):=inferInstanceAs (Decidable (_/\_/\_))
def qcg (n:Int):V->Bool
 | .str s=>decide (qa4 n s.cps.toList)
 | _=>false
theorem qc8 (n:Int) (x:List Nat):qcg n (.str (S x))=decide (qa4 n x):=rfl
theorem qBx (c:Nat):decide (c∈(Str.ofString "abcdefghijklmnopqrstuvwxyz").cps.toList)=decide (97<=c/\c<=122):=by
 have e:(Str.ofString "abcdefghijklmnopqrstuvwxyz").cps.toList=List.range' 97 26:=by decide +kernel
 rw[e,decide_eq_decide,List.mem_range'_1];omega
def qvf:Sp:=λvs H Q _=>∃ v n,vs=[v,.int n]/\TextV H v/\∀ H',Same H H'->Q (.bl (qcg n v)) H'
include T in
theorem qdt:qbe P w K mg base 1 "is_small_word" ["thing", "longest"] qvf:=by
 obtain ⟨f,fd,F,hm⟩:=T.f_is_small_word;have nd:=sc_is_small_word.nd;refine F.def_ hm (F.ok sc_is_small_word (λvs H Q E h=>?_) (λcdv A outer s H vs Q E hr h=>?_)) (F.binds λ_ _ _ _ _ _ us hl=>by obtain ⟨_,_,rfl⟩:=L2.lq2 hl;rfl)
 ·obtain ⟨v,n,rfl,_⟩:=h;rfl
 ·obtain ⟨v,n,rfl,hv,q⟩:=h
  refine ⟨_,(jB2 (qbd (qda (qcu (qag qev rfl T.b_isinstance qbx (jA2 (pv 0) (qgu (v:=.ty "str") rfl T.b_str qAg rfl))))) (qae (qai qox)) qao) (qai (qfr (jD qxa qab (qag qk1 rfl T.b_len qbw (jA1 (pv 0)))) (qfr (jD qxa (qag qk1 rfl T.b_len qbw (jA1 (pv 0))) (pv 1)) (qil (qag (qno rfl) rfl T.b_all qv5 (jA1 (qgh (vars:=[ "sign" ]) (frees:=[]) (fv:=[]) rfl (jL0 rfl) trivial (qAv (pv 0)) (qc0 (by decide)) (λ_ _ _ _=>(jM 0 [ "sign" ])) (λ_ _ _ _=>qbc) (λ_ _ _ _=>(qqq qAx (pv 0) (qgt (v:=.str "abcdefghijklmnopqrstuvwxyz") rfl T.c_LETTERS.choose_spec ⟨_,rfl⟩) rfl)))))))))),?_⟩
  rcases hv with ⟨x,rfl,hx⟩|hv
  ·have no:¬ qa4 n x->Q (V.bl false) H:=λz=>by
    have:=q H (Same.refl _);rw[qc8,decide_eq_false z] at this;exact this
   refine ⟨_,rfl,_,_,_,_,rfl,.str _,qx8 K,_,rfl,qdy ?_⟩
   walk_at "r"
   refine ⟨qkb (by omega),?_⟩
   walk_at "r"
   by_cases l1:(1:Int)<=x.length
   ·rw[if_pos (decide_eq_true l1)]
    walk_at "r"
    refine ⟨qkb (by omega),?_⟩
    walk_at "r"
    by_cases l2:(x.length:Int)<=n
    ·rw[if_pos (decide_eq_true l2)]
     refine ⟨_,rfl,_,rfl,qAw (x:=x) (λi ys H2=>Same H H2/\ys=(x.take i).map λd=>V.bl (decide (97<=d/\d<=122))) (qkb (by omega)) ⟨Same.refl _,rfl⟩ (λi ys H2 h2=>by rw[h2.2,List.length_map,List.length_take];omega) ?_ ?_⟩
     ·rintro i d ys H2 hi ⟨s2,rfl⟩
      refine qas (qqc (qdc ?_));refine ⟨_,rfl,d,_,rfl,rfl,s2,?_⟩;rw[qBx];exact (qCh _ x i d hi).symm
     ·rintro ys H2 p H3 ⟨s2,rfl⟩ n3
      rw[List.take_length] at n3;refine ⟨p,x.map λd=>decide (97<=d/\d<=122),rfl,SqL.of (by rw[List.map_map];exact n3.at_),?_⟩;have:=q H3 (s2.trans n3.same);have ef:decide (qa4 n x)=(x.map λd=>decide (97<=d/\d<=122)).all id:=by
       rw[Bool.eq_iff_iff,decide_eq_true_iff,List.all_eq_true]
       constructor
       ·intro h b hb
        obtain ⟨d,hd,rfl⟩:=List.mem_map.mp hb;exact decide_eq_true (h.2.2 d hd)
       ·intro h
        refine ⟨by omega,l2,λd hd=>?_⟩;exact of_decide_eq_true (h _ (List.mem_map.mpr ⟨d,hd,rfl⟩))
      rw[qc8,ef] at this;exact this
    ·rw[if_neg (λy=>l2 (of_decide_eq_true y))]
     exact no λh=>l2 h.2.1
   ·rw[if_neg (λy=>l1 (of_decide_eq_true y))]
    exact no λh=>l1 (by have:=h.1;omega)
  ·obtain ⟨t,ty,kt⟩:=OddV.ty (K:=K) hv
   refine ⟨_,rfl,_,_,_,_,rfl,ty,kt,_,rfl,qdc ?_⟩;have:=q H (Same.refl _)
   rcases hv with rfl|⟨i,rfl⟩|⟨b,rfl⟩|⟨p,xs,rfl,h⟩|⟨p,xs,rfl,h⟩<;>exact this
def ql5 (n:Int):Sp:=λvs H Q _=>∃ v,vs=[v]/\TextV H v/\∀ H',Same H H'->Q (.bl (qcg n v)) H'
include T in
theorem ql6:qbe P w K mg base 2 "is_name" ["thing"] (ql5 12):=by
 obtain ⟨f,fd,F,hm⟩:=T.f_is_name;have nd:=sc_is_name.nd;refine F.def_ hm (F.ok sc_is_name (λvs H Q E h=>?_) (λcdv A outer s H vs Q E hr h=>?_)) (F.binds λ_ _ _ _ _ _ us hl=>by obtain ⟨_,rfl⟩:=L2.lq1 hl;rfl)
 ·obtain ⟨v,rfl,_⟩:=h;rfl
 ·obtain ⟨v,rfl,hv,q⟩:=h
  refine ⟨_,(qae (qai (jF (qdt T) hr (jA2 (pv 0) (qgt (v:=.int 12) rfl T.c_LONGEST_NAME.choose_spec ⟨_,rfl⟩))))),?_⟩;exact ⟨_,rfl,v,12,rfl,hv,q⟩
include T in
theorem qta:qbe P w K mg base 2 "is_mark" ["thing"] (ql5 8):=by
 obtain ⟨f,fd,F,hm⟩:=T.f_is_mark;have nd:=sc_is_mark.nd;refine F.def_ hm (F.ok sc_is_mark (λvs H Q E h=>?_) (λcdv A outer s H vs Q E hr h=>?_)) (F.binds λ_ _ _ _ _ _ us hl=>by obtain ⟨_,rfl⟩:=L2.lq1 hl;rfl)
 ·obtain ⟨v,rfl,_⟩:=h;rfl
 ·obtain ⟨v,rfl,hv,q⟩:=h
  refine ⟨_,(qae (qai (jF (qdt T) hr (jA2 (pv 0) (qgt (v:=.int 8) rfl T.c_LONGEST_MARK.choose_spec ⟨_,rfl⟩))))),?_⟩;exact ⟨_,rfl,v,8,rfl,hv,q⟩
theorem qza:(Str.ofString "")=S []:=by decide +kernel
theorem small_iff {n:Int} {v:V}:qcg n v=true↔∃ x,v=tS x/\qa4 n x:=by
 constructor
 ·intro h
  obtain ⟨s,rfl⟩:∃ s,v=.str s:=by
   cases v<;>first|exact ⟨_,rfl⟩|exact Bool.noConfusion h
  exact ⟨s.cps.toList,by rw[show tS s.cps.toList=V.str (S s.cps.toList) from rfl,qDx],of_decide_eq_true h⟩
 ·rintro ⟨x,rfl,h⟩
  rw[qc8];exact decide_eq_true h
def qb3 (vs:List V):Prop:=(∀ v∈vs,qcg 8 v=true)/\vs.Nodup/\vs.length<=8
theorem qj7 {n:Int}:∀ {vs:List V},(∀ v∈vs,qcg n v=true)->∃ ms:List (List Nat),vs=ms.map tS/\∀ m∈ms,qa4 n m
 | [],_=>⟨[],rfl,by simp⟩
 | v :: vs,h=>by
  obtain ⟨x,rfl,hx⟩:=small_iff.mp (h v List.mem_cons_self);obtain ⟨ms,rfl,hm⟩:=qj7 (vs:=vs) λv hv=>h v (List.mem_cons_of_mem _ hv)
  exact ⟨x :: ms,rfl,λm hm'=>by
   rcases List.mem_cons.mp hm' with rfl|z
   ·exact hx
   ·exact hm m z⟩
theorem qbk {a b:List Nat} (h:tS a=tS b):a=b:=qpf (V.str.inj h)
theorem qh5 {α β:Type} {f:α->β} (inj:∀ a b,f a=f b->a=b):∀ {l:List α},(l.map f).Nodup↔l.Nodup
 | []=>by simp
 | x :: l=>by
  rw[List.map_cons,List.nodup_cons,List.nodup_cons,qh5 inj];refine and_congr ⟨λh z=>h (List.mem_map.mpr ⟨x,z,rfl⟩),λh z=>?_⟩ Iff.rfl;obtain ⟨y,hy,e⟩:=List.mem_map.mp z;exact h (inj _ _ e ▸ hy)
theorem ql7 {α:Type} [DecidableEq α]:∀ l:List α,qct l=l.length↔l.Nodup
 | []=>by simp[qct]
 | x :: l=>by
  have:=qez l;have ih:=ql7 l;unfold qct;rw[List.nodup_cons]
  by_cases e:x∈l
  ·rw[if_pos e,List.length_cons]
   exact ⟨λh=>by omega,λh=>absurd e h.1⟩
  ·rw[if_neg e,List.length_cons]
   exact ⟨λh=>⟨e,ih.mp (by omega)⟩,λh=>by have:=ih.mpr h.2;omega⟩
def qtb (N:Addr):Sp:=λvs H Q E=>∃ (l:Addr) (us:List V),vs=[.ref l]/\H l=some (.lst us)/\(∀ v∈us,TextV H v)/\us.length<=60/\(qb3 us->∀ H',Same H H'->Q .non H')/\(¬ qb3 us->∀ H',Same H H'->E (.ref N) none H')
include T in
theorem qj8:qAl P w K mg base 3 "check_marks" ["marks"] [] (qtb C_NoMark):=by
 obtain ⟨f,fd,F,hm⟩:=T.f_check_marks;have nd:=sc_check_marks.nd;refine ⟨f,fd,(F.okX sc_check_marks (λvs H Q E h=>?_) (λcdv A outer s H vs Q E hr h=>?_)),hm,F.kp,(F.binds λ_ _ _ _ _ _ us hl=>by obtain ⟨_,rfl⟩:=L2.lq1 hl;rfl)⟩
 ·obtain ⟨l,us,rfl,_⟩:=h;rfl
 ·obtain ⟨l,us,rfl,hl,hv,hz,q1,q2⟩:=h
  refine ⟨_,(jB3 (qbd (qda (qcu (qag (qno rfl) rfl T.b_all qv5 (jA1 (qgh (vars:=[ "mark" ]) (frees:=[]) (fv:=[]) rfl (jL0 rfl) trivial (qbb (pv 0)) (qc0 (by decide)) (λ_ _ _ _=>(jM 0 [ "mark" ])) (λ_ _ _ _=>qbc) (λ_ _ _ _=>(jF (qta T) hr (jA1 (pv 0))))))))) (qae (qc2 (qav ⟨rfl,rfl,rfl⟩) rfl T.ex_NoMark rfl T.mg_NoMark (jA1 qel))) qao) (qbd (jC qt2 (qag qr2 rfl T.b_len qbw (jA1 (qbt (qha rfl) rfl T.b_set qrp (jA1 (pv 0))))) (qag qal rfl T.b_len qbw (jA1 (pv 0)))) (qae (qc2 (qav ⟨rfl,rfl,rfl⟩) rfl T.ex_NoMark rfl T.mg_NoMark (jA1 qel))) qao) (qbd (jC qxb (qag qal rfl T.b_len qbw (jA1 (pv 0))) (qgt (v:=.int 8) rfl T.c_MOST_MARKS.choose_spec ⟨_,rfl⟩)) (qae (qc2 (qav ⟨rfl,rfl,rfl⟩) rfl T.ex_NoMark rfl T.mg_NoMark (jA1 qel))) qao)),?_⟩;refine ⟨_,rfl,l,rfl,⟨_,SqL.of hl⟩,qd0 (xs:=us) (λi ys H2=>Same H H2/\ys=(us.take i).map λv=>V.bl (qcg 8 v)) (qkb (by omega)) ⟨Same.refl _,rfl⟩ (λi ys H2 h2=>⟨SqL.of (h2.1 _ _ hl),by rw[h2.2,List.length_map,List.length_take];omega⟩) ?_ ?_⟩
  ·rintro i v ys H2 hi ⟨s2,rfl⟩
   refine qas (qqc (qdc ?_));refine ⟨_,rfl,v,rfl,(hv v (List.mem_of_getElem? hi)).same s2,λH3 s3=>⟨s2.trans s3,?_⟩⟩;exact (qCh _ us i v hi).symm
  ·rintro ys H2 p H3 ⟨s2,rfl⟩ n3
   rw[List.take_length] at n3;have s03:=s2.trans n3.same;refine ⟨p,us.map λv=>qcg 8 v,rfl,SqL.of (by rw[List.map_map];exact n3.at_),_,rfl,?_⟩
   by_cases a1:∀ v∈us,qcg 8 v=true
   ·have e1:(us.map λv=>qcg 8 v).all id=true:=by
     rw[List.all_eq_true];intro b hb;obtain ⟨v,hv,rfl⟩:=List.mem_map.mp hb;exact a1 v hv
    rw[e1];refine qdy ?_;obtain ⟨ms,rfl,hm⟩:=qj7 a1;have hl3:=s03 _ _ hl;rw[show (ms.map tS)=(ms.map S).map V.str by rw[List.map_map];rfl] at hl3;refine ⟨_,rfl,l,ms.map S,rfl,SqL.of hl3,by simp at hz ⊢;omega,λst H4 n4=>?_⟩;have hl4:=n4.same _ _ hl3;have su:=qez (ms.map S).reverse;rw[List.length_reverse,List.length_map] at su;rw[List.length_map] at hz;refine ⟨st,_,rfl,n4.at_,(by rw[List.length_map];omega),_,rfl,l,_,rfl,.inl (SqL.of hl4),rfl,_,rfl,?_⟩;have s04:=s03.trans n4.same;have ed:(!decide (V.int (qct (ms.map S).reverse:Nat)=V.int (((ms.map S).map V.str).length:Nat))) = !decide (ms.map tS).Nodup:=by
     congr 1
     rw[decide_eq_decide];rw[qh5 (λ_ _=>qbk),<- qh5 (f:=S) (λ_ _=>qpf),<- (List.reverse_perm (ms.map S)).nodup_iff,<- ql7]
     simp
     omega
    rw[ed]
    by_cases a2:(ms.map tS).Nodup
    ·rw[decide_eq_true a2]
     refine qdy ?_;refine ⟨_,rfl,l,_,rfl,.inl (SqL.of hl4),_,_,rfl,rfl,_,rfl,?_⟩;refine qmv (λz=>?_) λz=>?_
     ·walk_at "r"
      refine q2 (λh=>?_) H4 s04;have:=of_decide_eq_true z;have:=h.2.2
      simp at *
      omega
     ·refine q1 ⟨a1,a2,?_⟩ H4 s04
      have:=of_decide_eq_false (Bool.not_eq_true _ ▸ z)
      simp at *
      omega
    ·rw[decide_eq_false a2]
     refine qdc ?_
     walk_at "r"
     exact q2 (λh=>a2 h.2.1) H4 s04
   ·have e1:(us.map λv=>qcg 8 v).all id=false:=by
     rw[Bool.eq_false_iff];intro h;rw[List.all_eq_true] at h;exact a1 λv hv=>h _ (List.mem_map.mpr ⟨v,hv,rfl⟩)
    rw[e1];refine qdc ?_
    walk_at "r"
    exact q2 (λh=>a1 h.1) H3 s03
abbrev RC:=Addr×qar×List Rd3×List (List Nat)
abbrev qan:=List (List Nat×RC)
structure EdOk (B:BookD) (es:List Int) (ge:Option Int):Prop where
 P:Pr B.ps B.g
 wb:∀ p∈B.ps,p.2<=10 ^ 35
 E:EdS (es.map V.int ++ [gv ge]) es ge
 F:Fall (B.ps.map (·.2)) es ge
 dom:List.zipWith gE (eV B.ps B.g B.day) (es.map V.int ++ [gv ge])=es.map V.int ++ [gv ge]
 hd:Bd B.day
structure RB (CR R:Addr) (H:Hp) (B:BookD) (es:List Int) (ge:Option Int) (e:RC):Prop where
 ex:∃ LY LZ,R63 CR R H e.1 e.2.1 B.ps B.g B.day es ge e.2.2.1 LY LZ
 ru:e.2.1.ru=B.ru
 rl:e.2.1.rl=B.rl
 n50:KN e.2.2.1
structure BkC (C CR R:Addr) (H:Hp) (b:Addr) (B:BookD) (es:List Int) (ge:Option Int) (X:qan):Prop where
 ob:∃ dx,H b=some (.ins C dx (bof B.ru B.day B.le B.dm B.dr))
 rule:RuleAt R H B.ru B.rl B.ps B.g
 ed:H B.le=some (.lst (es.map V.int ++ [gv ge]))
 ms:∃ kvs,H B.dm=some (.dK kvs)/\Ents (λv (e:RC)=>TxtL H v (qay e.2.2.2)) kvs X
 rs:∃ kvs,H B.dr=some (.dK kvs)/\Ents (λv e=>v=.ref e.1/\RB CR R H B es ge e) kvs X
 ne:B.dm≠B.dr
 ok:EdOk B es ge
section
variable {C CR R b:Addr} {B:BookD} {es:List Int} {ge:Option Int} {X:qan} {H H':Hp}
theorem RB.same {e:RC} (h:RB CR R H B es ge e) (s:Same H H'):RB CR R H' B es ge e:=⟨let ⟨a,b,r⟩:=h.ex;⟨a,b,r.same s⟩,h.ru,h.rl,h.n50⟩
theorem BkC.same (h:BkC C CR R H b B es ge X) (s:Same H H'):BkC C CR R H' b B es ge X:=
 ⟨let ⟨dx,e⟩:=h.ob;⟨dx,s _ _ e⟩,h.rule.same s,s _ _ h.ed,let ⟨k,e,r⟩:=h.ms;⟨k,s _ _ e,r.imp λ_ _ q=>q.same s⟩,let ⟨k,e,r⟩:=h.rs;⟨k,s _ _ e,r.imp λ_ _ ⟨e1,e2⟩=>⟨e1,e2.same s⟩⟩,h.ne,h.ok⟩
theorem RB.frame {e:RC} {q:qar} {Y Z:KV} (h:RB CR R H B es ge e) (bu:But2 q.dy q.dh H H') (hy:H q.dy=some (.dT Y)) (hz:H q.dh=some (.dT Z)) (ap:ApartD e.2.1 q):RB CR R H' B es ge e:=
 ⟨let ⟨a,b,r⟩:=h.ex;⟨a,b,{ r with R:=r.R.frame bu hy hz ap.1 ap.2.1 ap.2.2.1 ap.2.2.2 }⟩,h.ru,h.rl,h.n50⟩
theorem TxtL.but2 {v:V} {ms:List (List Nat)} {a c:Addr} {Y Z:KV} (h:TxtL H v ms) (bu:But2 a c H H') (hy:H a=some (.dT Y)) (hz:H c=some (.dT Z)):TxtL H' v ms:=
 let ⟨x,e,q⟩:=h;⟨x,e,bu.keep hy hz q (by intro K z;cases z)⟩
theorem Ents.imp2 {α:Type} {R1 R2:V->α->Prop} {kvs:List (Key×V)} {E:List (List Nat×α)} (h:Ents R1 kvs E) (f:∀ x v a,(x,a)∈E->R1 v a->R2 v a):Ents R2 kvs E:=by
 unfold Ents at h ⊢
 induction h with
 | nil=>exact .nil
 | cons a t ih=>exact .cons ⟨a.1,f _ _ _ List.mem_cons_self a.2⟩ (ih λx v a m=>f x v a (List.mem_cons_of_mem _ m))
theorem BkC.frame {q:qar} {Y Z:KV} (h:BkC C CR R H b B es ge X) (bu:But2 q.dy q.dh H H') (hy:H q.dy=some (.dT Y)) (hz:H q.dh=some (.dT Z)) (ap:∀ x e,(x,e)∈X->ApartD e.2.1 q):BkC C CR R H' b B es ge X:=
 ⟨let ⟨dx,e⟩:=h.ob;⟨dx,bu.keep hy hz e (by intro K z;cases z)⟩,h.rule.keep2 bu hy hz,bu.keep hy hz h.ed (by intro K z;cases z),
  let ⟨k,e,r⟩:=h.ms;⟨k,bu.keep hy hz e (by intro K z;cases z),r.imp λ_ _ z=>z.but2 bu hy hz⟩,let ⟨k,e,r⟩:=h.rs;⟨k,bu.keep hy hz e (by intro K z;cases z),r.imp2 λx v a m ⟨e1,e2⟩=>⟨e1,e2.frame bu hy hz (ap x a m)⟩⟩,h.ne,h.ok⟩
def XOk (X:qan):Prop:=X.Pairwise λp p'=>p.1≠p'.1/\ApartD p.2.2.1 p'.2.2.1
theorem ApartD.symm {a b:qar} (h:ApartD a b):ApartD b a:=⟨h.1.symm,h.2.2.1.symm,h.2.1.symm,h.2.2.2.symm⟩
theorem XOk.one (h:XOk X) {x:List Nat} {e e':RC} (h1:(x,e)∈X) (h2:(x,e')∈X):e=e':=by
 unfold XOk at h
 induction X with
 | nil=>cases h1
 | cons p X ih =>
  rw[List.pairwise_cons] at h
  rcases List.mem_cons.mp h1 with z1|z1<;>rcases List.mem_cons.mp h2 with z2|z2
  ·exact (Prod.mk.inj (z1.trans z2.symm)).2
  ·exact absurd (show p.1=x by rw[<- z1]) (h.1 _ z2).1
  ·exact absurd (show p.1=x by rw[<- z2]) (h.1 _ z1).1
  ·exact ih h.2 z1 z2
theorem XOk.apart (h:XOk X) {x y:List Nat} {e e':RC} (h1:(x,e)∈X) (h2:(y,e')∈X) (n:y≠x):ApartD e'.2.1 e.2.1:=by
 unfold XOk at h
 induction X with
 | nil=>cases h1
 | cons p X ih =>
  rw[List.pairwise_cons] at h
  rcases List.mem_cons.mp h1 with z1|z1<;>rcases List.mem_cons.mp h2 with z2|z2
  ·exact absurd (Prod.mk.inj (z1.trans z2.symm)).1.symm n
  ·have:=(h.1 _ z2).2;rw[<- z1] at this;exact this.symm
  ·have:=(h.1 _ z1).2;rw[<- z2] at this;exact this
  ·exact ih h.2 z1 z2
def qp5 (x:List Nat) (r:Rd3) (p:List Nat×RC):List Nat×RC:=if p.1=x then (p.1,p.2.1,p.2.2.1,p.2.2.2.1 ++ [r],p.2.2.2.2) else p
theorem qwx (x:List Nat) (r:Rd3) (p:List Nat×RC):(qp5 x r p).1=p.1:=by unfold qp5;split<;>rfl
theorem qBy (x:List Nat) (r:Rd3) (p:List Nat×RC):(qp5 x r p).2.1=p.2.1:=by unfold qp5;split<;>rfl
theorem qBz (x:List Nat) (r:Rd3) (p:List Nat×RC):(qp5 x r p).2.2.2.2=p.2.2.2.2:=by unfold qp5;split<;>rfl
theorem Ents.map2 {α β:Type} {R1:V->α->Prop} {R2:V->β->Prop} {kvs:List (Key×V)} {E:List (List Nat×α)} {f:List Nat×α->List Nat×β} (h:Ents R1 kvs E) (h1:∀ p,(f p).1=p.1) (g:∀ p∈E,∀ v,R1 v p.2->R2 v (f p).2):Ents R2 kvs (E.map f):=by
 unfold Ents at h ⊢
 induction h with
 | nil=>exact .nil
 | cons a t ih=>exact .cons ⟨by rw[h1];exact a.1,g _ List.mem_cons_self _ a.2⟩ (ih λp m=>g p (List.mem_cons_of_mem _ m))
theorem BkC.put {x:List Nat} {e:RC} {r:Rd3} {Y Z:KV} (h:BkC C CR R H b B es ge X) (ok:XOk X) (hx:(x,e)∈X) (bu:But2 e.2.1.dy e.2.1.dh H H') (hy:H e.2.1.dy=some (.dT Y)) (hz:H e.2.1.dh=some (.dT Z)) (R':RB CR R H' B es ge (e.1,e.2.1,e.2.2.1 ++ [r],e.2.2.2)):BkC C CR R H' b B es ge (X.map (qp5 x r)):=by
 refine ⟨let ⟨dx,e⟩:=h.ob;⟨dx,bu.keep hy hz e (by intro K z;cases z)⟩,h.rule.keep2 bu hy hz,bu.keep hy hz h.ed (by intro K z;cases z),?_,?_,h.ne,h.ok⟩
 ·obtain ⟨k,e1,q⟩:=h.ms
  exact ⟨k,bu.keep hy hz e1 (by intro K z;cases z),q.map2 (qwx x r) λp _ v z=>by rw[qBz];exact z.but2 bu hy hz⟩
 ·obtain ⟨k,e1,q⟩:=h.rs
  refine ⟨k,bu.keep hy hz e1 (by intro K z;cases z),q.map2 (qwx x r) λp hp v z=>⟨by rw[qBy];exact z.1,?_⟩⟩
  by_cases n:p.1=x
  ·have ep:p.2=e:=ok.one (x:=x) (by rw[<- n];exact hp) hx
   unfold qp5;rw[if_pos n,ep];exact R'
  ·unfold qp5
   rw[if_neg n];exact z.2.frame bu hy hz (ok.apart hx (y:=p.1) hp n)
end
theorem qp6 (es:List Int) (ge:Option Int):Later es es ge ge where
 len:=rfl
 up:=λi x y hx hy=>by rw[hx] at hy;cases hy;exact Int.le_refl _
 gn:=λz hz=>⟨z,hz,Int.le_refl _⟩
theorem EdOk.up {B:BookD} {es:List Int} {ge:Option Int} (h:EdOk B es ge):qww B.ps B.g B.day (es.map V.int ++ [gv ge]) es ge es ge:=
 ⟨by rw[h.dom];exact h.E,h.F,qp6 _ _,h.dom,h.dom,h.E⟩
theorem EdOk.of {ru rl le dm dr:Addr} {ps:List (Int×Int)} {g:Option Int} {day:Int} (P:Pr ps g) (wb:∀ p∈ps,p.2<=10 ^ 35) (hd:Bd day):EdOk ⟨ru,rl,le,dm,dr,ps,g,day⟩ (ps.map λp=>cut day p.1 p.2) (g.map λz=>cut day z (lw ps)):=by
 have Ex:=EdS.of P hd;have Ex':=Ex;rw[Ex.eq] at Ex';refine ⟨P,wb,Ex',Fall.of P day,?_,hd⟩
 show List.zipWith gE (eV ps g day) _=_
 rw[<- Ex.eq];exact qol Ex.ed
inductive ql8 (C CR R:Addr) (vs:List V) (H:Hp) (Q:VK) (E_:XK):Prop
 | mk:∀ (b dx ru rl:Addr) (ps:List (Int×Int)) (g:Option Int) (day:Int),vs=[.ref b,.ref ru,.int day]->H b=some (.ins C dx [])->RuleAt R H ru rl ps g->Pr ps g->(∀ p∈ps,p.2<=10 ^ 35)->Bd day->(∀ le dm dr H',BkC C CR R H' b ⟨ru,rl,le,dm,dr,ps,g,day⟩ (ps.map λp=>cut day p.1 p.2) (g.map λz=>cut day z (lw ps)) []->H le=none->H dm=none->H dr=none->But b H H'->Q .non H')->ql8 C CR R vs H Q E_
include T in
theorem qj9:qCf P w K mg base C_Book 4 "Book" ["self", "rule", "day"] [] (ql8 C_Book C_Roll C_Rule):=by
 obtain ⟨f,fd,F,M⟩:=T.f_Book_init;have nd:=sc_Book_init.nd;refine ⟨f,fd,(F.ok sc_Book_init (λvs H Q E h=>?_) (λcdv A outer s H vs Q E hr h=>?_)),T.mg_Book,M,(F.binds λ_ _ _ _ _ _ us hl=>by obtain ⟨_,_,_,rfl⟩:=L2.lq3 hl;rfl)⟩
 ·obtain ⟨ro,dx,ru,rl,ps,g,day,rfl,_⟩:=h;rfl
 ·obtain ⟨ro,dx,ru,rl,ps,g,day,rfl,hro,R,Pg,wb,hd,q⟩:=h
  obtain ⟨dx2,hru⟩:=R.ob;have nru:ru≠ro:=qap hru hro (by intro z;injection z with _ _ z;have:=qla rl (gv g);rw[z] at this;cases this);refine ⟨_,(jB5 (qby (pv 0) (pv 1) rfl) (qby (pv 0) (pv 2) rfl) (qby (pv 0) (jF (qi3 T) hr (jA2 (pv 1) (pv 2))) rfl) (qby (pv 0) qk0 rfl) (qby (pv 0) qk0 rfl)),?_⟩;refine ⟨_,rfl,_,rfl,ro,C_Book,dx,[],rfl,hro,T.cl_Book,T.na_Book_kept_rule,(by show 0<1000;decide),λH1 b1 h1=>?_⟩;refine ⟨_,rfl,_,rfl,ro,C_Book,dx,_,rfl,h1,T.cl_Book,T.na_Book_kept_day,(by show 1<1000;decide),λH2 b2 h2=>?_⟩;have R2:=(R.but2 b1 hro qcr (by intro xs z;cases z) nru).but2 b2 h1 qcr (by intro xs z;cases z) nru;refine ⟨_,rfl,_,rfl,ru,rl,ps,g,day,rfl,R2,Pg,hd,λle H3 n3=>?_⟩;refine ⟨_,rfl,ro,C_Book,dx,_,rfl,n3.same _ _ h2,T.cl_Book,T.na_Book_kept_edges,(by show 2<1000;decide),λH4 b4 h4=>?_⟩;intro dy H5 n5;refine ⟨_,rfl,ro,C_Book,dx,_,rfl,n5.same _ _ h4,T.cl_Book,T.na_Book_kept_marks,(by show 3<1000;decide),λH6 b6 h6=>?_⟩;intro dh H7 n7;refine ⟨_,rfl,ro,C_Book,dx,_,rfl,n7.same _ _ h6,T.cl_Book,T.na_Book_kept_rolls,(by show 4<1000;decide),λH8 b8 h8=>?_⟩;have R8:=((((R2.same n3.same).but2 b4 (n3.same _ _ h2) qcr (by intro xs z;cases z) nru).same n5.same |>.but2 b6 (n5.same _ _ h4) qcr (by intro xs z;cases z) nru).same n7.same).but2 b8 (n7.same _ _ h6) qcr (by intro xs z;cases z) nru;have bb:But ro H H8:=λb o e hb=>b8 _ _ (n7.same _ _ (b6 _ _ (n5.same _ _ (b4 _ _ (n3.same _ _ (b2 _ _ (b1 _ _ e hb) hb)) hb)) hb)) hb
  have e4:H4 le=some (.lst (eV ps g day)):=b4 _ _ n3.at_ (qap n3.at_ (n3.same _ _ h2) (by intro z;cases z));have e6:H6 dy=some (.dK []):=b6 _ _ n5.at_ (qap n5.at_ (n5.same _ _ h4) (by intro z;cases z));have fb:∀ {G G':Hp} {o:HO},(∀ b o,G b=some o->b≠ro->G' b=some o)->G' ro=some o->∀ b,G' b=none->G b=none:=fun {G G' o} k1 k2 b h0=>by
   cases e:G b with
   | none=>rfl
   | some u =>
    by_cases hb:b=ro
    ·subst hb;rw[k2] at h0;cases h0
    ·rw[k1 b u e hb] at h0;cases h0
  have fr2:=fb (G:=H) (G':=H2) (λb o e hb=>b2 _ _ (b1 _ _ e hb) hb) h2;have fr4:=fb (G:=H2) (G':=H4) (λb o e hb=>b4 _ _ (n3.same _ _ e) hb) h4;have fr6:=fb (G:=H4) (G':=H6) (λb o e hb=>b6 _ _ (n5.same _ _ e) hb) h6;refine q le dy dh H8 ⟨⟨dx,h8⟩,R8,?_,⟨[],?_,.nil⟩,⟨[],?_,.nil⟩,qac e6 n7.fresh,EdOk.of Pg wb hd⟩ (fr2 _ n3.fresh) (fr2 _ (fr4 _ n5.fresh)) (fr2 _ (fr4 _ (fr6 _ n7.fresh))) bb
  ·have e8:=b8 _ _ (n7.same _ _ (b6 _ _ (n5.same _ _ e4) (qap (n5.same _ _ e4) (n5.same _ _ h4) (by intro z;cases z)))) (qap (n7.same _ _ (b6 _ _ (n5.same _ _ e4) (qap (n5.same _ _ e4) (n5.same _ _ h4) (by intro z;cases z)))) (n7.same _ _ h6) (by intro z;cases z))
   show H8 le=some (.lst (((ps.map λp=>cut day p.1 p.2).map V.int) ++ [gv (g.map λz=>cut day z (lw ps))]))
   rw[<- (EdS.of Pg hd).eq];exact e8
  ·exact b8 _ _ (n7.same _ _ e6) (qap (n7.same _ _ e6) (n7.same _ _ h6) (by intro z;cases z))
  ·exact b8 _ _ n7.at_ (qap n7.at_ (n7.same _ _ h6) (by intro z;cases z))
inductive qi4 (C CR R:Addr) (vs:List V) (H:Hp) (Q:VK) (E_:XK):Prop
 | mk:∀ (b:Addr) (B:BookD) (es:List Int) (ge:Option Int) (X:qan),vs=[.ref b]->BkC C CR R H b B es ge X->X.length<64->(∀ l H',New H H' l (.lst ((qay (X.map (·.1))).map tS))->Q (.ref l) H')->qi4 C CR R vs H Q E_
include T in
theorem qbh:qdh P w K mg base C_Book 1 "names" ["self"] (qi4 C_Book C_Roll C_Rule):=by
 obtain ⟨f,fd,F,hm⟩:=T.f_Book_names;have nd:=sc_Book_names.nd;refine ⟨f,fd,(F.ok sc_Book_names (λvs H Q E h=>?_) (λcdv A outer s H vs Q E hr h=>?_)),hm,(F.binds λ_ _ _ _ _ _ us hl=>by obtain ⟨_,rfl⟩:=L2.lq1 hl;rfl)⟩
 ·obtain ⟨b,B,es,ge,X,rfl,_⟩:=h;rfl
 ·obtain ⟨b,B,es,ge,X,rfl,A',hz,q⟩:=h
  obtain ⟨dx,hob⟩:=A'.ob;obtain ⟨kvs,hk,en⟩:=A'.rs;refine ⟨_,(qae (qai (qag (qii rfl) rfl T.b_sorted qcv (jA1 (qaw (pv 0) rfl))))),?_⟩;exact ⟨_,rfl,b,C_Book,dx,_,_,rfl,hob,T.cl_Book,T.na_Book_kept_rolls,qlr _ _ _ _ _,B.dr,kvs,X.map (·.1),rfl,.inl hk,en.keys,by simpa using hz,q⟩
inductive ql9 (C CR R:Addr) (vs:List V) (H:Hp) (Q:VK) (E_:XK):Prop
 | mk:∀ (b:Addr) (B:BookD) (es:List Int) (ge:Option Int) (X:qan),vs=[.ref b]->BkC C CR R H b B es ge X->Q (.ref B.ru) H->ql9 C CR R vs H Q E_
inductive qom (C CR R:Addr) (vs:List V) (H:Hp) (Q:VK) (E_:XK):Prop
 | mk:∀ (b:Addr) (B:BookD) (es:List Int) (ge:Option Int) (X:qan),vs=[.ref b]->BkC C CR R H b B es ge X->Q (.int B.day) H->qom C CR R vs H Q E_
inductive qi5 (C CR R:Addr) (vs:List V) (H:Hp) (Q:VK) (E_:XK):Prop
 | mk:∀ (b:Addr) (B:BookD) (es:List Int) (ge:Option Int) (X:qan),vs=[.ref b]->BkC C CR R H b B es ge X->(∀ p H',New H H' p (.lst (es.map V.int ++ [gv ge]))->Q (.ref p) H')->qi5 C CR R vs H Q E_
include T in
theorem qbp:qdh P w K mg base C_Book 1 "rule" ["self"] (ql9 C_Book C_Roll C_Rule):=by
 obtain ⟨f,fd,F,hm⟩:=T.f_Book_rule;have nd:=sc_Book_rule.nd;refine ⟨f,fd,(F.ok sc_Book_rule (λvs H Q E h=>?_) (λcdv A outer s H vs Q E hr h=>?_)),hm,(F.binds λ_ _ _ _ _ _ us hl=>by obtain ⟨_,rfl⟩:=L2.lq1 hl;rfl)⟩
 ·obtain ⟨b,B,es,ge,X,rfl,_⟩:=h;rfl
 ·obtain ⟨b,B,es,ge,X,rfl,A',q⟩:=h
  obtain ⟨dx,hob⟩:=A'.ob;refine ⟨_,(qae (qai (qaw (pv 0) rfl))),?_⟩;exact ⟨_,rfl,b,C_Book,dx,_,_,rfl,hob,T.cl_Book,T.na_Book_kept_rule,qwq _ _ _ _ _,q⟩
include T in
theorem qd1:qdh P w K mg base C_Book 1 "day" ["self"] (qom C_Book C_Roll C_Rule):=by
 obtain ⟨f,fd,F,hm⟩:=T.f_Book_day;have nd:=sc_Book_day.nd;refine ⟨f,fd,(F.ok sc_Book_day (λvs H Q E h=>?_) (λcdv A outer s H vs Q E hr h=>?_)),hm,(F.binds λ_ _ _ _ _ _ us hl=>by obtain ⟨_,rfl⟩:=L2.lq1 hl;rfl)⟩
 ·obtain ⟨b,B,es,ge,X,rfl,_⟩:=h;rfl
 ·obtain ⟨b,B,es,ge,X,rfl,A',q⟩:=h
  obtain ⟨dx,hob⟩:=A'.ob;refine ⟨_,(qae (qai (qaw (pv 0) rfl))),?_⟩;exact ⟨_,rfl,b,C_Book,dx,_,_,rfl,hob,T.cl_Book,T.na_Book_kept_day,qsz _ _ _ _ _,q⟩
include T in
theorem qdu:qdh P w K mg base C_Book 1 "edges" ["self"] (qi5 C_Book C_Roll C_Rule):=by
 obtain ⟨f,fd,F,hm⟩:=T.f_Book_edges;have nd:=sc_Book_edges.nd;refine ⟨f,fd,(F.ok sc_Book_edges (λvs H Q E h=>?_) (λcdv A outer s H vs Q E hr h=>?_)),hm,(F.binds λ_ _ _ _ _ _ us hl=>by obtain ⟨_,rfl⟩:=L2.lq1 hl;rfl)⟩
 ·obtain ⟨b,B,es,ge,X,rfl,_⟩:=h;rfl
 ·obtain ⟨b,B,es,ge,X,rfl,A',q⟩:=h
  obtain ⟨dx,hob⟩:=A'.ob;refine ⟨_,(qae (qai (qbt qci rfl T.b_list qfe (jA1 (qaw (pv 0) rfl))))),?_⟩;exact ⟨_,rfl,b,C_Book,dx,_,_,rfl,hob,T.cl_Book,T.na_Book_kept_edges,qs0 _ _ _ _ _,B.le,_,rfl,.inl (SqL.of A'.ed),q⟩
def qfp (X:qan) (v:V):Prop:=∃ x,v=tS x/\qa4 12 x/\x∈X.map (·.1)
inductive qi6 (C CR R N:Addr) (vs:List V) (H:Hp) (Q:VK) (E:XK):Prop
 | mk:∀ (b:Addr) (B:BookD) (es:List Int) (ge:Option Int) (X:qan) (v:V),vs=[.ref b,v]->BkC C CR R H b B es ge X->TextV H v->(qfp X v->∀ H',Same H H'->Q .non H')->(¬ qfp X v->∀ H',Same H H'->E (.ref N) none H')->qi6 C CR R N vs H Q E
include T in
theorem qca:qts P w K mg base C_Book 3 "check_enrolled" ["self", "name"] [] (qi6 C_Book C_Roll C_Rule C_NoName):=by
 obtain ⟨f,fd,F,hm⟩:=T.f_Book_check_enrolled;have nd:=sc_Book_check_enrolled.nd;refine ⟨f,fd,(F.okX sc_Book_check_enrolled (λvs H Q E h=>?_) (λcdv A outer s H vs Q E hr h=>?_)),hm,(F.binds λ_ _ _ _ _ _ us hl=>by obtain ⟨_,_,rfl⟩:=L2.lq2 hl;rfl)⟩
 ·obtain ⟨b,B,es,ge,X,v,rfl,_⟩:=h;rfl
 ·obtain ⟨b,B,es,ge,X,v,rfl,A',hv,q1,q2⟩:=h
  obtain ⟨dx,hob⟩:=A'.ob;obtain ⟨kvs,hk,en⟩:=A'.rs;refine ⟨_,(qae (qbd (PW.pt (qke (qda (qcu (jF (ql6 T) hr (jA1 (pv 1))))) (qgv (qqh (qq6 (qeu hr) (pv 1) (qaw (pv 0) rfl)))))) (qae (qc2 (qav ⟨rfl,rfl,rfl⟩) rfl T.ex_NoName rfl T.mg_NoName (jA1 qel))) qao)),?_⟩;refine ⟨_,rfl,v,rfl,hv,λH1 s1=>⟨_,rfl,?_⟩⟩
  cases hs:qcg 12 v with
  | false =>
   refine qdc ?_
   walk_at "r"
   refine q2 (fun ⟨x,e,hx,_⟩=>?_) H1 s1;rw[small_iff.mpr ⟨x,e,hx⟩] at hs;cases hs
  | true =>
   refine qdy ?_;obtain ⟨x,rfl,hx⟩:=small_iff.mp hs;refine ⟨_,rfl,_,rfl,b,C_Book,dx,_,_,rfl,s1 _ _ hob,T.cl_Book,T.na_Book_kept_rolls,qlr _ _ _ _ _,B.dr,_,rfl,DGet.k (k:=kS x) (s1 _ _ hk),_,rfl,?_⟩
   by_cases hin:x∈X.map (·.1)
   ·obtain ⟨u,a,e1,_,_⟩:=en.has hin
    rw[e1];refine qdy ?_;exact q1 ⟨x,rfl,hx,hin⟩ H1 s1
   ·rw[en.hasn hin]
    refine qdc ?_
    walk_at "r"
    refine q2 (fun ⟨y,e,_,hy⟩=>hin ?_) H1 s1;rw[qbk e];exact hy
inductive qon (C CR R N:Addr) (vs:List V) (H:Hp) (Q:VK) (E:XK):Prop
 | mk:∀ (b:Addr) (B:BookD) (es:List Int) (ge:Option Int) (X:qan) (v:V),vs=[.ref b,v]->BkC C CR R H b B es ge X->TextV H v->(∀ x e,v=tS x->qa4 12 x->(x,e)∈X->RB CR R H B es ge e->∀ H',Same H H'->Q (.ref e.1) H')->(¬ qfp X v->∀ H',Same H H'->E (.ref N) none H')->qon C CR R N vs H Q E
include T in
theorem qa3:qts P w K mg base C_Book 4 "own_roll" ["self", "name"] [] (qon C_Book C_Roll C_Rule C_NoName):=by
 obtain ⟨f,fd,F,hm⟩:=T.f_Book_own_roll;have nd:=sc_Book_own_roll.nd;refine ⟨f,fd,(F.okX sc_Book_own_roll (λvs H Q E h=>?_) (λcdv A outer s H vs Q E hr h=>?_)),hm,(F.binds λ_ _ _ _ _ _ us hl=>by obtain ⟨_,_,rfl⟩:=L2.lq2 hl;rfl)⟩
 ·obtain ⟨b,B,es,ge,X,v,rfl,_⟩:=h;rfl
 ·obtain ⟨b,B,es,ge,X,v,rfl,A',hv,q1,q2⟩:=h
  obtain ⟨dx,hob⟩:=A'.ob;refine ⟨_,(jB2 (qa5 (qb5 (qav ⟨rfl,rfl,rfl⟩) (pv 0) T.cl_Book (qca T) (hr.mono (by decide)) .nil (jA1 (pv 1)))) (qai (qg2 (qeu hr) (qaw (pv 0) rfl) (pv 1) (λ_ _=>rfl)))),?_⟩;refine ⟨_,rfl,b,dx,_,rfl,hob,bno,_,rfl,b,B,es,ge,X,v,rfl,A',hv,λhin H1 s1=>?_,λhn H1 s1=>q2 hn H1 s1⟩;obtain ⟨x,rfl,hx,hxE⟩:=hin;obtain ⟨kvs,hk,en⟩:=A'.rs;obtain ⟨u,a,e1,e2,rfl,re⟩:=en.has hxE;have g:=DGet.k (k:=kS x) (s1 _ _ hk);rw[e1] at g;exact ⟨_,rfl,b,C_Book,dx,_,_,rfl,s1 _ _ hob,T.cl_Book,T.na_Book_kept_rolls,qlr _ _ _ _ _,_,rfl,B.dr,_,rfl,g,q1 x a rfl hx e2 re H1 s1⟩
inductive qma (C CR R N:Addr) (vs:List V) (H:Hp) (Q:VK) (E:XK):Prop
 | mk:∀ (b:Addr) (B:BookD) (es:List Int) (ge:Option Int) (X:qan) (v:V),vs=[.ref b,v]->BkC C CR R H b B es ge X->TextV H v->(∀ x e,v=tS x->qa4 12 x->(x,e)∈X->∀ r' q' LY' LZ' H',Same H H'->R63 CR R H' r' q' B.ps B.g B.day es ge e.2.2.1 LY' LZ'->(H q'.dy=none/\H q'.dh=none)->(q'.ru=B.ru/\q'.rl=B.rl/\H q'.le=none)->Q (.ref r') H')->(¬ qfp X v->∀ H',Same H H'->E (.ref N) none H')->qma C CR R N vs H Q E
include T in
theorem qm4:qts P w K mg base C_Book 8 "roll" ["self", "name"] [] (qma C_Book C_Roll C_Rule C_NoName):=by
 obtain ⟨f,fd,F,hm⟩:=T.f_Book_roll;have nd:=sc_Book_roll.nd;refine ⟨f,fd,(F.okX sc_Book_roll (λvs H Q E h=>?_) (λcdv A outer s H vs Q E hr h=>?_)),hm,(F.binds λ_ _ _ _ _ _ us hl=>by obtain ⟨_,_,rfl⟩:=L2.lq2 hl;rfl)⟩
 ·obtain ⟨b,B,es,ge,X,v,rfl,_⟩:=h;rfl
 ·obtain ⟨b,B,es,ge,X,v,rfl,A',hv,q1,q2⟩:=h
  obtain ⟨dx,hob⟩:=A'.ob;refine ⟨_,(qae (qai (jF (qBw T) hr (jA2 (qb5 (qav ⟨rfl,rfl,rfl⟩) (pv 0) T.cl_Book (qa3 T) (hr.mono (by decide)) .nil (jA1 (pv 1))) (qaw (pv 0) rfl))))),?_⟩;refine ⟨_,rfl,b,dx,_,rfl,hob,bno,_,rfl,b,B,es,ge,X,v,rfl,A',hv,λx e ev hx hm re H1 s1=>?_,λhn H1 s1=>q2 hn H1 s1⟩;obtain ⟨LY,LZ,r⟩:=re.ex;refine ⟨_,rfl,b,C_Book,dx,_,_,rfl,s1 _ _ hob,T.cl_Book,T.na_Book_kept_day,qsz _ _ _ _ _,?_⟩;simp only[qig,List.cons_append,List.nil_append,List.append_nil];refine (r.same s1).aged re.n50 A'.ok.hd (Int.le_refl _) A'.ok.up λr' q' LY' LZ' H2 s2 R2 f2 w2=>?_
  exact q1 x e ev hx hm r' q' LY' LZ' H2 (s1.trans s2) R2 ⟨s1.free f2.1,s1.free f2.2⟩ ⟨by rw[w2.1,re.ru],by rw[w2.2.1,re.rl],s1.free w2.2.2⟩
inductive qgq (C CR R N M:Addr) (vs:List V) (H:Hp) (Q:VK) (E:XK):Prop
 | mk:∀ (b:Addr) (B:BookD) (es:List Int) (ge:Option Int) (X:qan) (v:V) (t va m:Int),vs=[.ref b,v,.int t,.int va,.int m]->BkC C CR R H b B es ge X->TextV H v->qpq t->(1<=m->RLt (t,va,m))->(∀ x e,v=tS x->(x,e)∈X->1<=m->KN (e.2.2.1 ++ [(t,va,m)]))->(¬ qfp X v->∀ H',Same H H'->E (.ref N) none H')->(∀ x e,v=tS x->qa4 12 x->(x,e)∈X->m<1->∀ H',Same H H'->E (.ref M) none H')->(∀ x e,v=tS x->qa4 12 x->(x,e)∈X->1<=m->∀ H',But2 e.2.1.dy e.2.1.dh H H'->RB CR R H' B es ge (e.1,e.2.1,e.2.2.1 ++ [(t,va,m)],e.2.2.2)->Q (.bl (qbi (B.ps.map (·.2)) es ge t).isSome) H')->qgq C CR R N M vs H Q E
include T in
theorem qp7:∃ f fd dT o n t,qgl P w K mg base (CX1 P w) 5 f fd ["self", "name", "time", "value", "many"] (qgq C_Book C_Roll C_Rule C_NoName C_NoNumber)/\FunD K "put" "Book.put" qfm (.ref dT) f fd/\qqu K C_Book "put" f/\fd.defaults=.ref dT/\K.lookup dT=some o/\o.data=.seq #[.int 1 t] n:=by
 obtain ⟨f,fd,dT,o,n,t,F,M,h1,h2,h3⟩:=T.f_Book_put;have nd:=sc_Book_put.nd;refine ⟨f,fd,dT,o,n,t,(F.okX sc_Book_put (λvs H Q E h=>?_) (λcdv A outer s H vs Q E hr h=>?_)),F,M,h1,h2,h3⟩
 ·obtain ⟨b,B,es,ge,X,v,t,va,m,rfl,_⟩:=h;rfl
 ·obtain ⟨b,B,es,ge,X,v,t,va,m,rfl,A',hv,ht,hrl,h50,q1,q2,q3⟩:=h
  obtain ⟨dx,hob⟩:=A'.ob;refine ⟨_,(qae (qai (qb5 (qav ⟨rfl,rfl,rfl⟩) (qb5 (qav ⟨rfl,rfl,rfl⟩) (pv 0) T.cl_Book (qa3 T) (hr.mono (by decide)) .nil (jA1 (pv 1))) T.cl_Roll (qgb T) (hr.mono (by decide)) .nil (jA3 (pv 2) (pv 3) (pv 4))))),?_⟩;refine ⟨_,rfl,b,dx,_,rfl,hob,bno,_,rfl,b,B,es,ge,X,v,rfl,A',hv,λx e ev hx hm re H1 s1=>?_,λhn H1 s1=>q1 hn H1 s1⟩;obtain ⟨LY,LZ,r⟩:=re.ex;have r1:=r.same s1;obtain ⟨dx1,hob1⟩:=r1.R.obj;have l1:=r1.ly;have l2:=r1.lz;refine ⟨e.1,dx1,_,rfl,hob1,qsh _ _ _ _ _,_,rfl,_,rfl,_,rfl,?_⟩;simp only[qig,List.cons_append,List.nil_append,List.append_nil]
  by_cases hm1:1<=m
  ·have kn:=h50 x e ev hm hm1
   refine r1.put (t:=(t,va,m)) kn (hrl hm1) λ_ _ H2 R2 b2=>?_
   exact q3 x e ev hx hm hm1 H2 (λc o z n1 n2=>b2 _ _ (s1 _ _ z) n1 n2) ⟨⟨_,_,R2⟩,re.ru,re.rl,kn⟩
  ·exact r1.R.putN r1.ok ht (by omega) (by omega) (by omega) (q2 x e ev hx hm (by omega) H1 s1)
include T in
theorem qmb:∃ t,qts P w K mg base C_Book 5 "put" ["self", "name", "time", "value", "many"] [.int 1 t] (qgq C_Book C_Roll C_Rule C_NoName C_NoNumber):=by
 obtain ⟨f,fd,dT,o,n,t,hf,F,M,h1,h2,h3⟩:=qp7 (P:=P) (w:=w) (base:=base) T;refine ⟨t,f,fd,hf,M,qg5 h1 h2 h3 λus hl=>?_⟩;obtain ⟨oc,od,kV,doc,pm,an,cdv,ct,osl,rfl,lk,hcd⟩:=F.ex;obtain ⟨a,b,c,d,rfl⟩:=L2.lq4 (us:=us) (by simpa using hl);exact ⟨_,rfl,rfl⟩
def rmS (H:Hp) (L:List Addr):Hp:=λc=>if c∈L then none else H c
section
variable {H H':Hp} {L:List Addr}
theorem qco {c:Addr} {o:HO} (h:H c=some o) (n:c ∉ L):rmS H L c=some o:=by unfold rmS;rw[if_neg n];exact h
theorem qh6 {c:Addr} {o:HO} (h:rmS H L c=some o):H c=some o/\c ∉ L:=by
 unfold rmS at h
 split at h
 ·cases h
 ·rename_i n;exact ⟨h,n⟩
theorem qoo (s:Same H H'):Same (rmS H L) (rmS H' L):=λc o e=>qco (s _ _ (qh6 e).1) (qh6 e).2
theorem qtc {d:Addr} (b:But d H H'):But d (rmS H L) (rmS H' L):=λc o e n=>qco (b _ _ (qh6 e).1 n) (qh6 e).2
end
def LsL (H:Hp) (L:List Addr):Prop:=∀ l∈L,∃ zs,H l=some (.lst zs)
theorem LsL.no {H:Hp} {L:List Addr} (h:LsL H L) {c:Addr} {o:HO} (e:H c=some o) (n:∀ zs,o≠.lst zs):c ∉ L:=λz=>by
 obtain ⟨zs,q⟩:=h c z;rw[q] at e;exact n zs (Option.some.inj e).symm
theorem LsL.same {H H':Hp} {L:List Addr} (h:LsL H L) (s:Same H H'):LsL H' L:=λl hl=>let ⟨zs,e⟩:=h l hl;⟨zs,s _ _ e⟩
section
variable {H:Hp} {L:List Addr}
theorem Pairs.rmS (hL:LsL H L):∀ {xs:List V} {ps:List (Int×Int)},Pairs H xs ps->Pairs (TB.rmS H L) xs ps
 | _,_,.nil=>.nil
 | _,_,.cons ⟨a,e,q⟩ t=>.cons ⟨a,e,qco q (hL.no q (by intro zs z;cases z))⟩ (Pairs.rmS hL t)
theorem RuleAt.rmS {R r l:Addr} {ps:List (Int×Int)} {g:Option Int} (hL:LsL H L) (h:RuleAt R H r l ps g) (n:l ∉ L):RuleAt R (TB.rmS H L) r l ps g:=
 ⟨let ⟨dx,e⟩:=h.ob;⟨dx,qco e (hL.no e (by intro zs z;cases z))⟩,let ⟨xs,e,p⟩:=h.ls;⟨xs,qco e n,Pairs.rmS hL p⟩⟩
theorem RR.rmS {C R ro:Addr} {c:qar} {s:Abs} {LY LZ:List (List Int)} (hL:LsL H L) (h:RR C R H ro c s LY LZ) (n1:c.le ∉ L) (n2:c.rl ∉ L):RR C R (TB.rmS H L) ro c s LY LZ:=by
 obtain ⟨Y,Z,A,Bs⟩:=h;obtain ⟨dx,e⟩:=A.ob;refine ⟨Y,Z,⟨⟨dx,qco e (hL.no e (by intro zs z;cases z))⟩,A.rule.rmS hL n2,qco A.ed n1,qco A.yo (hL.no A.yo (by intro zs z;cases z)),qco A.he (hL.no A.he (by intro zs z;cases z)),A.ne⟩,⟨Bs.yv,Bs.yk,Bs.zn,λk x q=>(Bs.zs k x q).imp λ_ z=>⟨z.1,qco z.2 (hL.no z.2 (by intro zs y;cases y))⟩,Bs.zk⟩⟩
theorem RB.rmS {CR R:Addr} {B:BookD} {es:List Int} {ge:Option Int} {e:RC} (hL:LsL H L) (h:RB CR R H B es ge e) (n1:e.2.1.le ∉ L) (n2:e.2.1.rl ∉ L):RB CR R (TB.rmS H L) B es ge e:=
 ⟨let ⟨a,b,r⟩:=h.ex;⟨a,b,{ r with R:=r.R.rmS hL n1 n2 }⟩,h.ru,h.rl,h.n50⟩
end
theorem Ents.mem {α:Type} {R1:V->α->Prop} {kvs:List (Key×V)} {E:List (List Nat×α)} {x:List Nat} {a:α} (h:Ents R1 kvs E) (hx:(x,a)∈E):∃ v,R1 v a:=by
 unfold Ents at h
 induction h with
 | nil=>cases hx
 | cons b t ih =>
  rcases List.mem_cons.mp hx with z|z
  ·rw[<- z] at b;exact ⟨_,b.2⟩
  ·exact ih z
section
variable {C CR R b:Addr} {B:BookD} {es:List Int} {ge:Option Int} {X:qan} {H H':Hp} {L:List Addr}
theorem BkC.dicts (h:BkC C CR R H b B es ge X) {x:List Nat} {e:RC} (hx:(x,e)∈X):(∃ Y,H e.2.1.dy=some (.dT Y))/\∃ Z,H e.2.1.dh=some (.dT Z):=by
 obtain ⟨k,_,q⟩:=h.rs;obtain ⟨v,_,re⟩:=q.mem hx;obtain ⟨_,_,r⟩:=re.ex;exact r.R.dicts
theorem R63.begun {ro:Addr} {c:qar} (A:RollAt CR R H ro c) (ok:EdOk B es ge) (e1:c.ps=B.ps) (e2:c.g=B.g) (e3:c.day=B.day) (eY:c.Y=[]) (eZ:c.Z=[]) (Ec:EdS (List.zipWith gE (eV B.ps B.g B.day) (es.map V.int ++ [gv ge])) c.es c.ge) (hcl:c.es.length=B.ps.length):R63 CR R H ro c B.ps B.g B.day es ge [] [] []:=by
 have ec:{ c with Y:=[],Z:=[] }=c:=by
  cases c;simp only at eY eZ;rw[eY,eZ]
 rw[ok.dom] at Ec;obtain ⟨z1,z2⟩:=EdS.uniq Ec ok.E;exact ⟨⟨[],[],by rw[ec];exact A,RAbs.zero rfl rfl⟩,⟨by rw[e1,e2];exact ok.P,by rw[hcl,e1]⟩,e1,e2,e3,z1,z2,ok.P,ok.wb,ok.E,ok.F,ok.dom,ok.hd,(by intro r h;cases h),Nat.zero_le _,Nat.zero_le _⟩
end
theorem RuleAt.butK {C:Addr} {H H':Hp} {r l a:Addr} {ps:List (Int×Int)} {g:Option Int} {kvs:List (Key×V)} (h:RuleAt C H r l ps g) (b:But a H H') (ha:H a=some (.dK kvs)):RuleAt C H' r l ps g:=
 h.but2 b ha (by intro xs z;cases z) (by intro xs z;cases z) (by obtain ⟨dx,e⟩:=h.ob;exact qap e ha (by intro z;cases z))
theorem TxtL.butK {H H':Hp} {a:Addr} {kvs:List (Key×V)} {v:V} {ms:List (List Nat)} (h:TxtL H v ms) (b:But a H H') (ha:H a=some (.dK kvs)):TxtL H' v ms:=
 let ⟨c,e,q⟩:=h;⟨c,e,b _ _ q (qap q ha (by intro z;cases z))⟩
theorem RR.butK {C R ro a:Addr} {H H':Hp} {c:qar} {s:Abs} {LY LZ:List (List Int)} {kvs:List (Key×V)} (h:RR C R H ro c s LY LZ) (b:But a H H') (ha:H a=some (.dK kvs)):RR C R H' ro c s LY LZ:=by
 obtain ⟨Y,Z,A,Bs⟩:=h;obtain ⟨dx,e⟩:=A.ob;exact ⟨Y,Z,⟨⟨dx,b _ _ e (qap e ha (by intro z;cases z))⟩,A.rule.butK b ha,b _ _ A.ed (qap A.ed ha (by intro z;cases z)),b _ _ A.yo (qap A.yo ha (by intro z;cases z)),b _ _ A.he (qap A.he ha (by intro z;cases z)),A.ne⟩,Bs.tups λx xs e=>b _ _ e (qap e ha (by intro z;cases z))⟩
theorem RB.butK {CR R a:Addr} {H H':Hp} {B:BookD} {es:List Int} {ge:Option Int} {e:RC} {kvs:List (Key×V)} (h:RB CR R H B es ge e) (b:But a H H') (ha:H a=some (.dK kvs)):RB CR R H' B es ge e:=
 ⟨let ⟨x,y,r⟩:=h.ex;⟨x,y,{ r with R:=r.R.butK b ha }⟩,h.ru,h.rl,h.n50⟩
theorem qmc {C CR R:Addr} {G4 G5 G6 G7:Hp} {b l2 ro:Addr} {B:BookD} {es:List Int} {ge:Option Int} {X:qan} {c:qar} {x:List Nat} {ms:List (List Nat)} {km kr:List (Key×V)} (A4:BkC C CR R G4 b B es ge X) (hin:x ∉ X.map (·.1)) (hkm:G4 B.dm=some (.dK km)) (hkr:G4 B.dr=some (.dK kr)) (b5:But B.dm G4 G5) (d5:G5 B.dm=some (.dK (putK km (kS x) (.ref l2)))) (s6:Same G5 G6)
  (b7:But B.dr G6 G7) (d7:G7 B.dr=some (.dK (putK kr (kS x) (.ref ro)))) (tl:TxtL G4 (.ref l2) (qay ms)) (re:RB CR R G6 B es ge (ro,c,[],ms)):BkC C CR R G7 b B es ge (X ++ [(x,(ro,c,[],ms))]):=by
 obtain ⟨dx,hob⟩:=A4.ob;obtain ⟨km',hkm',enm⟩:=A4.ms;obtain ⟨kr',hkr',enr⟩:=A4.rs;rw[hkm] at hkm'
 cases hkm'
 rw[hkr] at hkr'
 cases hkr'
 have hkr6:=s6 _ _ (b5 _ _ hkr (λz=>A4.ne z.symm));have hob6:=s6 _ _ (b5 _ _ hob (qap hob hkm (by intro z;cases z)));refine ⟨⟨dx,b7 _ _ hob6 (qap hob6 hkr6 (by intro z;cases z))⟩,((A4.rule.butK b5 hkm).same s6).butK b7 hkr6,?_,⟨_,b7 _ _ (s6 _ _ d5) A4.ne,(enm.put hin (a:=(ro,c,[],ms)) tl).imp λv e q=>((q.butK b5 hkm).same s6).butK b7 hkr6⟩,⟨_,d7,?_⟩,A4.ne,A4.ok⟩
 ·have e:=s6 _ _ (b5 _ _ A4.ed (qap A4.ed hkm (by intro z;cases z)))
  exact b7 _ _ e (qap e hkr6 (by intro z;cases z))
 ·have en6:Ents (λv (e:RC)=>v=.ref e.1/\RB CR R G6 B es ge e) kr X:=enr.imp λv _ ⟨e,q⟩=>⟨e,(q.butK b5 hkm).same s6⟩
  exact (en6.put hin (a:=(ro,c,[],ms)) ⟨rfl,re⟩).imp λv _ ⟨e,q⟩=>⟨e,q.butK b7 hkr6⟩
def MkV (H:Hp) (v:V) (us:List V):Prop:=(v=.non/\us=[])\/∃ l,v=.ref l/\H l=some (.lst us)
theorem qzb {us:List V} {m:V} {σ:St} {H:Hp} {Kt:VK} (hσ:σ[2]?=some (some m)) (hm:MkV H m us) (k:∀ l H2,Same H H2->H2 l=some (.lst us)->Kt (.ref l) H2) :
  tIf (qxc (tOp (λx y H Q=>y=V.non/\Q (V.bl (decide (x=V.non))) H) (qB8 2) (tC V.non))) (qAj qig) (qB8 2) σ H Kt:=by
 rcases hm with ⟨rfl,rfl⟩|⟨l,rfl,hl⟩
 ·exact ⟨_,hσ,rfl,_,rfl,qdc ⟨Nat.zero_le _,λl H2 n2=>k l H2 n2.same n2.at_⟩⟩
 ·exact ⟨_,hσ,rfl,_,rfl,qdy ⟨_,hσ,k l H (Same.refl _) hl⟩⟩
inductive qcy (C CR R N M:Addr) (vs:List V) (H:Hp) (Q:VK) (E:XK):Prop
 | mk:∀ (b:Addr) (B:BookD) (es:List Int) (ge:Option Int) (X:qan) (v m:V) (us:List V),vs=[.ref b,v,m]->BkC C CR R H b B es ge X->TextV H v->MkV H m us->(∀ u∈us,TextV H u)->us.length<=60->X.length<=60->((qcg 12 v=false\/qfp X v)->∀ H',Same H H'->E (.ref N) none H')->(¬ (qcg 12 v=false\/qfp X v)->¬ qb3 us->∀ H',Same H H'->E (.ref M) none H')->(∀ x ms,v=tS x->qa4 12 x->x ∉ X.map (·.1)->us=ms.map tS->qb3 us->∀ ro c H',But2 B.dm B.dr H H'->H c.dy=none->H c.dh=none->BkC C CR R H' b B es ge (X ++ [(x,(ro,c,[],ms))])->(∀ L,LsL H L->BkC C CR R (rmS H L) b B es ge X->BkC C CR R (rmS H' L) b B es ge (X ++ [(x,(ro,c,[],ms))]))->Q .non H')->qcy C CR R N M vs H Q E
include T in
theorem qgc:∃ f fd dT o n,qgl P w K mg base (CX1 P w) 7 f fd ["self", "name", "marks"] (qcy C_Book C_Roll C_Rule C_NoName C_NoMark)/\FunD K "enrol" "Book.enrol" qdp (.ref dT) f fd/\qqu K C_Book "enrol" f/\fd.defaults=.ref dT/\K.lookup dT=some o/\o.data=.seq #[.none] n:=by
 obtain ⟨f,fd,dT,o,n,F,M,h1,h2,h3⟩:=T.f_Book_enrol;have nd:=sc_Book_enrol.nd;refine ⟨f,fd,dT,o,n,(F.okX sc_Book_enrol (λvs H Q E h=>?_) (λcdv A outer s H vs Q E hr h=>?_)),F,M,h1,h2,h3⟩
 ·obtain ⟨b,B,es,ge,X,v,m,us,rfl,_⟩:=h;rfl
 ·obtain ⟨b,B,es,ge,X,v,m,us,rfl,A',hv,hm,hu,hz,hE,q1,q2,q3⟩:=h
  obtain ⟨dx,hob⟩:=A'.ob;obtain ⟨kr,hkr,enr⟩:=A'.rs;refine ⟨_,(jB5 (qbd (PW.pt (qke (qda (qcu (jF (ql6 T) hr (jA1 (pv 1))))) (qgv (qqh (qvu (qeu hr) (pv 1) (qaw (pv 0) rfl)))))) (qae (qc2 (qav ⟨rfl,rfl,rfl⟩) rfl T.ex_NoName rfl T.mg_NoName (jA1 qel))) qao) (jS 3 nd (qnc (jC qeq (pv 2) qbr) (qc1 qes) (pv 2))) (qa5 (jW (qj8 T) hr (jA1 (pv 3)))) (qg3 (qeu hr) (qaw (pv 0) rfl) (pv 1) (qag qjo rfl T.b_sorted qcv (jA1 (pv 3))) rfl) (qg3 (qeu hr) (qaw (pv 0) rfl) (pv 1) (jF (qs8 T) hr (jA3 (qaw (pv 0) rfl) (qaw (pv 0) rfl) (qaw (pv 0) rfl))) rfl)),?_⟩;refine ⟨_,rfl,v,rfl,hv,λH1 s1=>⟨_,rfl,?_⟩⟩
  cases hs:qcg 12 v with
  | false =>
   refine qdc ?_
   walk_at "r"
   exact q1 (.inl hs) H1 s1
  | true =>
   refine qdy ?_;obtain ⟨x,rfl,hx⟩:=small_iff.mp hs;refine ⟨_,rfl,_,rfl,b,C_Book,dx,_,_,rfl,s1 _ _ hob,T.cl_Book,T.na_Book_kept_rolls,qlr _ _ _ _ _,B.dr,_,rfl,DGet.k (k:=kS x) (s1 _ _ hkr),_,rfl,?_⟩
   by_cases hin:x∈X.map (·.1)
   ·obtain ⟨u,a,e1,_,_⟩:=enr.has hin
    rw[e1];refine qdc ?_
    walk_at "r"
    exact q1 (.inr ⟨x,rfl,hx,hin⟩) H1 s1
   ·rw[enr.hasn hin]
    refine qdy ?_;have hm1:MkV H1 m us:=by
     rcases hm with h|⟨l,e,hl⟩
     ·exact .inl h
     ·exact .inr ⟨l,e,s1 _ _ hl⟩
    refine qzb rfl hm1 λl H2 s2 hl=>qas ?_
    have s02:=s1.trans s2;refine ⟨_,rfl,l,us,rfl,hl,λu hu'=>(hu u hu').same s02,hz,λok H3 s3=>?_,λbad H3 s3=>q2 (λh=>?_) bad H3 (s02.trans s3)⟩
    case refine_2 =>
     rcases h with h|⟨y,e,_,hy⟩
     ·rw[hs] at h;cases h
     ·exact hin (qbk e ▸ hy)
    obtain ⟨ms,rfl,_⟩:=qj7 ok.1;have s03:=s02.trans s3;rw[List.length_map] at hz;refine ⟨_,rfl,l,ms,rfl,SqL.of (s3 _ _ hl),by omega,λl2 H4 n4=>?_⟩;have s04:=s03.trans n4.same;have A4:=A'.same s04;obtain ⟨km,hkm,enm⟩:=A4.ms;obtain ⟨kr4,hkr4,enr4⟩:=A4.rs;have lm:=enm.len;have lr:=enr4.len;refine ⟨_,rfl,b,C_Book,dx,_,_,rfl,s04 _ _ hob,T.cl_Book,T.na_Book_kept_marks,qwr _ _ _ _ _,_,rfl,B.dm,_,rfl,DPut.k (k:=kS x) hkm (by rw[sizeLine_eq];omega),?_⟩
    generalize h5:upd H4 B.dm (.dK (putK km (kS x) (.ref l2)))=H5
    have b5:But B.dm H4 H5:=by rw[<- h5];exact qb2
    have d5:H5 B.dm=some (.dK (putK km (kS x) (.ref l2))):=by rw[<- h5];exact qba
    have hob5:=b5 _ _ (s04 _ _ hob) (qap (s04 _ _ hob) hkm (by intro z;cases z));have E0':=A'.ok.E;have l0:(es.map V.int ++ [gv ge]).length=B.ps.length+1:=by have:=A'.ok.F.len;rw[List.length_map] at this;simp;omega
    have l9:es.length=B.ps.length:=by have:=A'.ok.F.len;rw[List.length_map] at this;omega
    have g5:=A'.ok.P.good.hi;refine ⟨_,rfl,b,C_Book,dx,_,_,rfl,hob5,T.cl_Book,T.na_Book_kept_rule,qwq _ _ _ _ _,_,rfl,b,C_Book,dx,_,_,rfl,hob5,T.cl_Book,T.na_Book_kept_day,qsz _ _ _ _ _,_,rfl,b,C_Book,dx,_,_,rfl,hob5,T.cl_Book,T.na_Book_kept_edges,qs0 _ _ _ _ _,B.ru,B.rl,B.le,B.ps,B.g,B.day,_,_,_,rfl,A4.rule.butK b5 hkm,A'.ok.P,A'.ok.hd,b5 _ _ A4.ed (qap A4.ed hkm (by intro z;cases z)),E0'.ed,by omega,l0,E0',l9,λro c H6 A6 e1 e2 e3 eY eZ Ec hcl s6 f1 f2 w1=>?_⟩;have hkr6:=s6 _ _ (b5 _ _ hkr4 (λz=>A'.ne z.symm));refine ⟨_,rfl,b,C_Book,dx,_,_,rfl,s6 _ _ hob5,T.cl_Book,T.na_Book_kept_rolls,qlr _ _ _ _ _,_,rfl,B.dr,_,rfl,DPut.k (k:=kS x) hkr6 (by rw[sizeLine_eq];omega),?_⟩
    generalize h7:upd H6 B.dr (.dK (putK kr4 (kS x) (.ref ro)))=H7
    have b7:But B.dr H6 H7:=by rw[<- h7];exact qb2
    have d7:H7 B.dr=some (.dK (putK kr4 (kS x) (.ref ro))):=by rw[<- h7];exact qba
    have re:RB C_Roll C_Rule H6 B es ge (ro,c,[],ms):=⟨⟨[],[],R63.begun A6 A'.ok e1 e2 e3 eY eZ Ec hcl⟩,w1.1,w1.2.1,KN.nil⟩;have tl:TxtL H4 (.ref l2) (qay ms):=⟨l2,rfl,n4.at_⟩;have fr:∀ a,H5 a=none->H a=none:=λa z=>by
     cases e:H a with
     | none=>rfl
     | some o =>
      by_cases na:a=B.dm
      ·rw[na,d5] at z;cases z
      ·rw[b5 _ _ (s04 _ _ e) na] at z;cases z
    refine q3 x ms rfl hx hin rfl ok ro c H7 (λc' o e n1 n2=>b7 _ _ (s6 _ _ (b5 _ _ (s04 _ _ e) n1)) n2) (fr _ f1) (fr _ f2) (qmc A4 hin hkm hkr4 b5 d5 s6 b7 d7 tl re) λL hL Ar=>?_
    have hL4:=hL.same s04;have nd1:B.dm ∉ L:=hL4.no hkm (by intro zs z;cases z);have nd2:B.dr ∉ L:=hL4.no hkr4 (by intro zs z;cases z);have hL5:LsL H5 L:=λl hl=>let ⟨zs,e⟩:=hL4 l hl;⟨zs,b5 _ _ e (λz=>nd1 (z ▸ hl))⟩
    have A4r:=Ar.same (qoo s04);have nl2:l2 ∉ L:=λz=>by obtain ⟨zs,e⟩:=hL.same s03 l2 z;rw[n4.fresh] at e;cases e
    have nle:c.le ∉ L:=λz=>by obtain ⟨zs,e⟩:=hL5 c.le z;rw[w1.2.2] at e;cases e
    have nrl:c.rl ∉ L:=by rw[w1.2.1];obtain ⟨xs,e,_⟩:=Ar.rule.ls;exact (qh6 e).2
    exact qmc A4r hin (qco hkm nd1) (qco hkr4 nd2) (qtc b5) (qco d5 nd1) (qoo s6) (qtc b7) (qco d7 nd2) ⟨l2,rfl,qco n4.at_ nl2⟩ (re.rmS (hL5.same s6) nle nrl)
include T in
theorem qeb:qts P w K mg base C_Book 7 "enrol" ["self", "name", "marks"] [.none] (qcy C_Book C_Roll C_Rule C_NoName C_NoMark):=by
 obtain ⟨f,fd,dT,o,n,hf,F,M,h1,h2,h3⟩:=qgc (P:=P) (w:=w) (base:=base) T;refine ⟨f,fd,hf,M,qg5 h1 h2 h3 λus hl=>?_⟩;obtain ⟨oc,od,kV,doc,pm,an,cdv,ct,osl,rfl,lk,hcd⟩:=F.ex;obtain ⟨_,_,rfl⟩:=L2.lq2 (us:=us) (by simpa using hl);exact ⟨_,rfl,rfl⟩
theorem TextV.small {H:Hp} {x:List Nat} (h:qa4 12 x):TextV H (tS x):=.inl ⟨x,rfl,by have:=h.2.1;omega⟩
theorem qm5 {F:St->Hp->Prop} {σ σ':St} {H:Hp} (e:σ=σ') (h:F σ' H):F σ H:=e ▸ h
theorem qtd:∀ {a b:List (List Nat)},a.map tS=b.map tS->a=b
 | [],[],_=>rfl
 | [],_ :: _,e=>by cases e
 | _ :: _,[],e=>by cases e
 | u :: a,w :: b,e=>by
  rw[List.map_cons,List.map_cons] at e;injection e with e1 e2
  rw[qbk e1,qtd e2]
theorem qi7 {a b:List (List Nat)} (p:a.Perm b) (h:qb3 (b.map tS)):qb3 (a.map tS):=by
 have pm:=p.map tS;exact ⟨λv hv=>h.1 v (pm.mem_iff.mp hv),pm.nodup_iff.mpr h.2.1,by rw[pm.length_eq];exact h.2.2⟩
theorem qi8 {α:Type} {l:List α} {j:Nat} {x:α} (nd:l.Nodup) (h:l[j]?=some x):x ∉ l.take j:=λz=>by
 obtain ⟨i,hi,ei⟩:=List.getElem_of_mem z;rw[List.length_take] at hi;rw[List.getElem_take] at ei;obtain ⟨jl,ej⟩:=List.getElem?_eq_some_iff.mp h;have:=(List.getElem_inj (xs:=l) (i:=i) (j:=j) (h₀:=by omega) (h₁:=jl) nd).mp (by rw[ei,ej]);omega
theorem XOk.nd {X:qan} (h:XOk X):(X.map (·.1)).Nodup:=by
 unfold List.Nodup;rw[List.pairwise_map];exact h.imp λz=>z.1
theorem qtu {s u:TS} {D:Ends} {σ:St} {H:Hp} (h:∀ N:St->Hp->Prop,(∀ σ' H',u D σ' H'->N σ' H')->s { D with nx:=N } σ H):qed s u D σ H:=h (u D) λ_ _ z=>z
section
variable {C CR R N M b l:Addr} {B:BookD} {es:List Int} {ge:Option Int} {X:qan} {H:Hp} {Q:VK} {E:XK} {x:List Nat} {ms:List (List Nat)} {vs:List V}
theorem XOk.snoc {ro:Addr} {c:qar} {rs:List Rd3} (xk:XOk X) (A:BkC C CR R H b B es ge X) (hni:x ∉ X.map (·.1)) (c1:H c.dy=none) (c2:H c.dh=none):XOk (X ++ [(x,(ro,c,rs,ms))]):=by
 unfold XOk;rw[List.pairwise_append];refine ⟨xk,by simp,λp hp p' hp'=>?_⟩;rw[List.mem_singleton.mp hp'];obtain ⟨⟨Y,hY⟩,⟨Z,hZ⟩⟩:=A.dicts (x:=p.1) (e:=p.2) hp;exact ⟨λe=>hni (List.mem_map.mpr ⟨p,hp,e⟩),qac hY c1,qac hY c2,qac hZ c1,qac hZ c2⟩
theorem qB0 (hv:vs=[.ref b,tS x,.ref l]) (A:BkC C CR R H b B es ge X) (xk:XOk X) (hsx:qa4 12 x) (hni:x ∉ X.map (·.1)) (lX:X.length<=60) (hl:H l=some (.lst (ms.map tS))) (mk:qb3 (ms.map tS))
  (k:∀ ro c H',But2 B.dm B.dr H H'->H c.dy=none->H c.dh=none->BkC C CR R H' b B es ge (X ++ [(x,(ro,c,[],ms))])->XOk (X ++ [(x,(ro,c,[],ms))])->Q .non H'):qcy C CR R N M vs H Q E:=by
 refine ⟨b,B,es,ge,X,tS x,.ref l,_,hv,A,.small hsx,.inr ⟨l,rfl,hl⟩,λu hu=>?_,Nat.le_trans mk.2.2 (by decide),lX,λz=>?_,λ_ z=>absurd mk z,λy2 ms2 ey2 _ _ eu _ ro c H' b' c1 c2 B' _=>?_⟩
 ·obtain ⟨m,hm',rfl⟩:=List.mem_map.mp hu
  have:=mk.1 (tS m) hu;rw[qc8] at this;exact .inl ⟨m,rfl,by have:=(of_decide_eq_true this).2.1;omega⟩
 ·rcases z with z|⟨y,e,_,hy'⟩
  ·rw[qc8,decide_eq_true hsx] at z;cases z
  ·exact absurd (qbk e ▸ hy') hni
 have ey2:=qbk ey2;subst ey2;have ems:ms=ms2:=qtd eu;subst ems;exact k ro c H' b' c1 c2 B' (xk.snoc A hni c1 c2)
theorem putX {e:RC} {r:Rd3} (hv:vs=[.ref b,tS x,.int r.1,.int r.2.1,.int r.2.2]) (A:BkC C CR R H b B es ge X) (xk:XOk X) (he:(x,e)∈X) (hsx:qa4 12 x) (hl:KN (e.2.2.1 ++ [r])) (hlt:RLt r)
  (k:∀ H',But2 e.2.1.dy e.2.1.dh H H'->RB CR R H' B es ge (e.1,e.2.1,e.2.2.1 ++ [r],e.2.2.2)->BkC C CR R H' b B es ge (X.map (qp5 x r))->Q (.bl (qbi (B.ps.map (·.2)) es ge r.1).isSome) H'):qgq C CR R N M vs H Q E:=by
 have m1:1<=r.2.2:=hlt.2.2.1;refine ⟨b,B,es,ge,X,tS x,r.1,r.2.1,r.2.2,hv,A,.small hsx,(by have:=hlt.1;exact ⟨by omega,by omega⟩),λ_=>hlt,(λy e' ey he' _=>by have ey:=qbk ey;subst ey;rw[xk.one he' he];exact hl),λz=>absurd ⟨x,rfl,hsx,List.mem_map.mpr ⟨_,he,rfl⟩⟩ z,λy e' _ _ _ h1=>absurd h1 (by omega),λy e' ey hy he' _ H' b' R'=>?_⟩;have ey:=qbk ey;subst ey;have ee:=xk.one he' he;subst ee;obtain ⟨⟨Y,hY⟩,⟨Z,hZ⟩⟩:=A.dicts he;exact k H' b' R' (A.put xk he b' hY hZ R')
end
inductive qi9 (C CR R N:Addr) (vs:List V) (H:Hp) (Q:VK) (E:XK):Prop
 | mk:∀ (b:Addr) (B:BookD) (es:List Int) (ge:Option Int) (X:qan) (v:V),vs=[.ref b,v]->BkC C CR R H b B es ge X->TextV H v->(∀ x e,v=tS x->qa4 12 x->(x,e)∈X->∀ l H',Same H H'->H l=none->H' l=some (.lst ((qay e.2.2.2).map tS))->Q (.ref l) H')->(¬ qfp X v->∀ H',Same H H'->E (.ref N) none H')->qi9 C CR R N vs H Q E
include T in
theorem qgd:qts P w K mg base C_Book 4 "marks" ["self", "name"] [] (qi9 C_Book C_Roll C_Rule C_NoName):=by
 obtain ⟨f,fd,F,hm⟩:=T.f_Book_marks;have nd:=sc_Book_marks.nd;refine ⟨f,fd,(F.okX sc_Book_marks (λvs H Q E h=>?_) (λcdv A outer s H vs Q E hr h=>?_)),hm,(F.binds λ_ _ _ _ _ _ us hl=>by obtain ⟨_,_,rfl⟩:=L2.lq2 hl;rfl)⟩
 ·obtain ⟨b,B,es,ge,X,v,rfl,_⟩:=h;rfl
 ·obtain ⟨b,B,es,ge,X,v,rfl,A',hv,q1,q2⟩:=h
  obtain ⟨dx,hob⟩:=A'.ob;refine ⟨_,(jB2 (qa5 (qb5 (qav ⟨rfl,rfl,rfl⟩) (pv 0) T.cl_Book (qca T) (hr.mono (by decide)) .nil (jA1 (pv 1)))) (qai (qbt qci rfl T.b_list qfe (jA1 (qg2 (qeu hr) (qaw (pv 0) rfl) (pv 1) (λ_ _=>rfl)))))),?_⟩;refine ⟨_,rfl,b,dx,_,rfl,hob,bno,_,rfl,b,B,es,ge,X,v,rfl,A',hv,λhin H1 s1=>?_,λhn H1 s1=>q2 hn H1 s1⟩;obtain ⟨x,rfl,hx,hxE⟩:=hin;obtain ⟨kvs,hk,en⟩:=A'.ms;obtain ⟨u,a,e1,e2,l,rfl,hl⟩:=en.has hxE;have g:=DGet.k (k:=kS x) (s1 _ _ hk);rw[e1] at g;exact ⟨_,rfl,b,C_Book,dx,_,_,rfl,s1 _ _ hob,T.cl_Book,T.na_Book_kept_marks,qwr _ _ _ _ _,_,rfl,B.dm,_,rfl,g,l,_,rfl,.inl (SqL.of (s1 _ _ hl)),λl2 H2 n2=>q1 x a rfl hx e2 l2 H2 (s1.trans n2.same) (s1.free n2.fresh) n2.at_⟩
theorem qzc (ru:Addr) (day:Int) (le dm dr p:Addr):qek "kept_edges" (.ref p) (bof ru day le dm dr)=bof ru day p dm dr:=by rfl
inductive qmd (C CR R:Addr) (vs:List V) (H:Hp) (Q:VK) (E_:XK):Prop
 | mk:∀ (ru rl e:Addr) (ps:List (Int×Int)) (g:Option Int) (day:Int) (es fs:List Int) (ge fg:Option Int),vs=[.ref ru,.int day,.ref e]->RuleAt R H ru rl ps g->Pr ps g->(∀ p∈ps,p.2<=10 ^ 35)->Bd day->H e=some (.lst (es.map V.int ++ [gv ge]))->EdS (es.map V.int ++ [gv ge]) es ge->es.length=ps.length->qww ps g day (es.map V.int ++ [gv ge]) es ge fs fg->(∀ b le dm dr H',BkC C CR R H' b ⟨ru,rl,le,dm,dr,ps,g,day⟩ fs fg []->Same H H'->H b=none->H le=none->H dm=none->H dr=none->Q (.ref b) H')->qmd C CR R vs H Q E_
include T in
theorem qge:qbe P w K mg base 6 "begun_book" ["rule", "day", "edges"] (qmd C_Book C_Roll C_Rule):=by
 obtain ⟨f,fd,F,hm⟩:=T.f_begun_book;have nd:=sc_begun_book.nd;refine F.def_ hm (F.ok sc_begun_book (λvs H Q E h=>?_) (λcdv A outer s H vs Q E hr h=>?_)) (F.binds λ_ _ _ _ _ _ us hl=>by obtain ⟨_,_,_,rfl⟩:=L2.lq3 hl;rfl)
 ·obtain ⟨ru,rl,e,ps,g,day,es,fs,ge,fg,rfl,_⟩:=h;rfl
 ·obtain ⟨ru,rl,e,ps,g,day,es,fs,ge,fg,rfl,R,Pg,wb,hd,he,Ee,hln,U,q⟩:=h
  refine ⟨_,(jB3 (jS 3 nd (qkt (qj9 T) (hr.mono (by decide)) rfl .nil (jA2 (pv 0) (pv 1)))) (qby (pv 3) (jF (qh3 T) hr (jA2 (qaw (pv 3) rfl) (pv 2))) rfl) (qai (pv 3))),?_⟩;refine ⟨_,rfl,_,rfl,λb dx H1 s1 f1 d1=>?_⟩;refine ⟨b,dx,ru,rl,ps,g,day,rfl,d1,R.same s1,Pg,wb,hd,λle dm dr H2 A2 z1 z2 z3 b2=>⟨rfl,?_⟩⟩;have s2:Same H H2:=b2.same s1 f1;obtain ⟨dx2,hob⟩:=A2.ob;have E0':=EdS.of Pg hd;have g5:=Pg.good.hi;have l0:(eV ps g day).length=ps.length+1:=by rw[E0'.eq];simp
  have hEl:(es.map V.int ++ [gv ge]).length=ps.length+1:=by simp[hln]
  have hed:H2 le=some (.lst (eV ps g day)):=by rw[E0'.eq];exact A2.ed
  refine qas ?_;refine ⟨_,rfl,b,C_Book,dx2,_,_,rfl,hob,T.cl_Book,T.na_Book_kept_edges,qs0 _ _ _ _ _,_,rfl,le,e,_,_,rfl,hed,s2 _ _ he,E0'.ed,Ee.ed,by rw[l0,hEl],by omega,λp H3 n3=>?_⟩;refine ⟨_,rfl,b,C_Book,dx2,_,rfl,n3.same _ _ hob,T.cl_Book,T.na_Book_kept_edges,(by show 5<1000;decide),λH4 b4 h4=>?_⟩;rw[qzc] at h4;have A3:=A2.same n3.same;have hb3:=n3.same _ _ hob;obtain ⟨dxr,hru⟩:=A3.rule.ob;have nru:ru≠b:=qap hru hb3 (by intro z;injection z with _ _ z;have:=qla rl (gv g);have z':rf rl (gv g)=bof ru day le dm dr:=z;rw[z'] at this;cases this);have s04:Same H H4:=b4.same (s2.trans n3.same) f1;have hp4:H4 p=some (.lst (List.zipWith gE (eV ps g day) (es.map V.int ++ [gv ge]))):=b4 _ _ n3.at_ (qap n3.at_ hb3 (by intro z;cases z));rw[U.eq] at hp4;obtain ⟨km,hkm,enm⟩:=A3.ms;obtain ⟨kr,hkr,enr⟩:=A3.rs;refine ⟨_,rfl,q b p dm dr H4 ⟨⟨dx2,h4⟩,A3.rule.but2 b4 hb3 qcr (by intro xs z;cases z) nru,hp4,⟨km,b4 _ _ hkm (qap hkm hb3 (by intro z;cases z)),?_⟩,⟨kr,b4 _ _ hkr (qap hkr hb3 (by intro z;cases z)),?_⟩,A3.ne,⟨Pg,wb,U.E,U.F,U.dom,hd⟩⟩ s04 f1 (s2.free n3.fresh) (s1.free z2) (s1.free z3)⟩
  ·cases enm;exact .nil
  ·cases enr;exact .nil
include T in
theorem qec:qts P w K mg base C_Book 7 "enrol" ["self", "name", "marks"] [] (qcy C_Book C_Roll C_Rule C_NoName C_NoMark):=by
 obtain ⟨f,fd,dT,o,n,hf,F,M,h1,h2,h3⟩:=qgc (P:=P) (w:=w) (base:=base) T;refine ⟨f,fd,hf,M,qg5 h1 h2 h3 λus hl=>?_⟩;obtain ⟨oc,od,kV,doc,pm,an,cdv,ct,osl,rfl,lk,hcd⟩:=F.ex;obtain ⟨_,_,_,rfl⟩:=L2.lq3 (us:=us) (by simpa using hl);exact ⟨_,rfl,rfl⟩
theorem R63.moved {C R:Addr} {H:Hp} {r ro:Addr} {q c:qar} {ps ps2:List (Int×Int)} {g g2:Option Int} {d D:Int} {es fs:List Int} {ge fg:Option Int} {rs:List Rd3} {LY LZ:List (List Int)} {Q:VK} {E:XK} (h:R63 C R H r q ps g d es ge rs LY LZ) (N:R63 C R H ro c ps2 g2 D fs fg [] [] []) (h50:KN rs) (hw:ps2.map (·.2)=ps.map (·.2)) (L:Later es fs ge fg) (ap:ApartD q c)
  (k:∀ LY' LZ' H',R63 C R H' ro c ps2 g2 D fs fg rs LY' LZ'->But2 c.dy c.dh H H'->Q .non H'):qc5 C R [.ref ro,.ref r] H Q E:=by
 have l1:=h.ly;have l2:=h.lz;obtain ⟨LY',LZ',l3,l4,tk⟩:=h.take h50 (qbi (ps2.map (·.2)) fs fg);have ec:=N.cellD;refine ⟨ro,r,c,q,qpt,_,LY',LZ',LY,LZ,rfl,N.R.mono (List.nil_subset _) (List.nil_subset _),h.R,N.ok,ap,by omega,by omega,by omega,by omega,by rw[ec];exact tk,λH' R' b'=>?_⟩;have F0:=h.F;rw[<- hw] at F0;have hT:=qsx (qhq F0 N.F L h.len) rs;rw[hw] at hT;rw[ec,hw,hT,<- hw] at R';exact k LY' LZ' H' { N with R:=R',hr:=h.hr,ly:=l3,lz:=l4 } b'
def qc9 (x:List Nat) (rs:List Rd3) (p:List Nat×RC):List Nat×RC:=if p.1=x then (p.1,p.2.1,p.2.2.1,rs,p.2.2.2.2) else p
theorem qh7 (x:List Nat) (rs:List Rd3) (p:List Nat×RC):(qc9 x rs p).1=p.1:=by unfold qc9;split<;>rfl
theorem qte (x:List Nat) (rs:List Rd3) (p:List Nat×RC):(qc9 x rs p).2.2.1=p.2.2.1:=by unfold qc9;split<;>rfl
theorem qB1 (x:List Nat) (rs:List Rd3) (p:List Nat×RC):(qc9 x rs p).2.1=p.2.1:=by unfold qc9;split<;>rfl
theorem qwy (x:List Nat) (rs:List Rd3) (p:List Nat×RC):(qc9 x rs p).2.2.2.2=p.2.2.2.2:=by unfold qc9;split<;>rfl
theorem BkC.set {C CR R b:Addr} {B:BookD} {es:List Int} {ge:Option Int} {X:qan} {H H':Hp} {x:List Nat} {e:RC} {rs:List Rd3} {Y Z:KV} (h:BkC C CR R H b B es ge X) (ok:XOk X) (hx:(x,e)∈X) (bu:But2 e.2.1.dy e.2.1.dh H H') (hy:H e.2.1.dy=some (.dT Y)) (hz:H e.2.1.dh=some (.dT Z)) (R':RB CR R H' B es ge (e.1,e.2.1,rs,e.2.2.2)):BkC C CR R H' b B es ge (X.map (qc9 x rs)):=by
 refine ⟨let ⟨dx,e⟩:=h.ob;⟨dx,bu.keep hy hz e (by intro K z;cases z)⟩,h.rule.keep2 bu hy hz,bu.keep hy hz h.ed (by intro K z;cases z),?_,?_,h.ne,h.ok⟩
 ·obtain ⟨k,e1,q⟩:=h.ms
  exact ⟨k,bu.keep hy hz e1 (by intro K z;cases z),q.map2 (qh7 x rs) λp _ v z=>by rw[qwy];exact z.but2 bu hy hz⟩
 ·obtain ⟨k,e1,q⟩:=h.rs
  refine ⟨k,bu.keep hy hz e1 (by intro K z;cases z),q.map2 (qh7 x rs) λp hp v z=>⟨by rw[qB1];exact z.1,?_⟩⟩
  by_cases n:p.1=x
  ·have ep:p.2=e:=ok.one (x:=x) (by rw[<- n];exact hp) hx
   unfold qc9;rw[if_pos n,ep];exact R'
  ·unfold qc9
   rw[if_neg n];exact z.2.frame bu hy hz (ok.apart hx (y:=p.1) hp n)
theorem qtf {X:qan} {x:List Nat} {ro:Addr} {c:qar} {rs:List Rd3} {ms:List (List Nat)} (hn:x ∉ X.map (·.1)):(X ++ [(x,(ro,c,[],ms))]).map (qc9 x rs)=X ++ [(x,(ro,c,rs,ms))]:=by
 rw[List.map_append]
 congr 1
 ·have:X.map (qc9 x rs)=X.map id:=List.map_congr_left λp hp=>by
   unfold qc9;rw[if_neg (λe=>hn (List.mem_map.mpr ⟨p,hp,e⟩))];rfl
  rw[this,List.map_id]
 ·show [qc9 x rs (x,(ro,c,[],ms))]=_
  unfold qc9;rw[if_pos rfl]
structure qme (X:qan):Prop where
 ok:XOk X
 sm:∀ p∈X,qa4 12 p.1
 mm:∀ p∈X,qb3 (p.2.2.2.2.map tS)
 ln:X.length<=20
 rs:∀ p∈X,KN p.2.2.2.1
structure qB2 (X X':qan):Prop where
 nm:X'.map (·.1)=qay (X.map (·.1))
 en:∀ p∈X',∃ e:RC,(p.1,e)∈X/\p.2.2.2.1=e.2.2.1/\p.2.2.2.2=qay e.2.2.2
inductive qop (C CR R:Addr) (vs:List V) (H:Hp) (Q:VK) (E_:XK):Prop
 | mk:∀ (b:Addr) (B:BookD) (es:List Int) (ge:Option Int) (X:qan) (ru rl:Addr) (ps:List (Int×Int)) (g:Option Int) (day:Int) (fs:List Int) (fg:Option Int),vs=[.ref b,.ref ru,.int day]->BkC C CR R H b B es ge X->qme X->RuleAt R H ru rl ps g->Pr ps g->(∀ p∈ps,p.2<=10 ^ 35)->ps.map (·.2)=B.ps.map (·.2)->Bd day->qww ps g day (es.map V.int ++ [gv ge]) es ge fs fg->(∀ b' le dm dr X' H',BkC C CR R H' b' ⟨ru,rl,le,dm,dr,ps,g,day⟩ fs fg X'->XOk X'->qB2 X X'->(∀ p∈X',H p.2.2.1.dy=none/\H p.2.2.1.dh=none)->Same H H'->H b'=none->H le=none->H dm=none->H dr=none->Q (.ref b') H')->qop C CR R vs H Q E_
include T in
theorem qtg:qbe P w K mg base 8 "moved" ["book", "rule", "day"] (qop C_Book C_Roll C_Rule):=by
 obtain ⟨f,fd,F,hm⟩:=T.f_moved;have nd:=sc_moved.nd;refine F.def_ hm (F.ok sc_moved (λvs H Q E h=>?_) (λcdv A outer s H vs Q E hr h=>?_)) (F.binds λ_ _ _ _ _ _ us hl=>by obtain ⟨_,_,_,rfl⟩:=L2.lq3 hl;rfl)
 ·obtain ⟨b,B,es,ge,X,ru,rl,ps,g,day,fs,fg,rfl,_⟩:=h;rfl
 ·obtain ⟨b,B,es,ge,X,ru,rl,ps,g,day,fs,fg,rfl,A',XG,R,Pg,wb,hw,hd,U,q⟩:=h
  obtain ⟨dx,hob⟩:=A'.ob;have hln:es.length=ps.length:=by have:=A'.ok.F.len;have e:=congrArg List.length hw;rw[List.length_map,List.length_map] at e;rw[List.length_map] at this;omega
  have x20:=XG.ln;refine ⟨_,(jB3 (jS 3 nd (jF (qge T) hr (jA3 (pv 1) (pv 2) (qax (pv 0) T.cl_Book (qdu T) (hr.mono (by decide)))))) (qdb PassesOwn.never rfl (qbb (qax (pv 0) T.cl_Book (qbh T) (hr.mono (by decide)))) (jN 4 nd) (jB2 (qa5 (qb5 (qbz ⟨rfl,rfl,rfl⟩) (pv 3) T.cl_Book (qec T) (hr.mono (by decide)) .nil (jA2 (pv 4) (qb5 (qbz ⟨rfl,rfl,rfl⟩) (pv 0) T.cl_Book (qgd T) (hr.mono (by decide)) .nil (jA1 (pv 4)))))) (qa5 (qo7 (qb5 (qbz ⟨rfl,rfl,rfl⟩) (pv 3) T.cl_Book (qa3 T) (hr.mono (by decide)) .nil (jA1 (pv 4))) T.cl_Roll (qcn T) (hr.mono (by decide)) (jA1 (qb5 (qbz ⟨rfl,rfl,rfl⟩) (pv 0) T.cl_Book (qa3 T) (hr.mono (by decide)) .nil (jA1 (pv 4)))))))) (qai (pv 3))),?_⟩;refine qtu λN hN=>?_
  refine ⟨_,rfl,_,rfl,_,rfl,b,dx,_,rfl,hob,bno,b,B,es,ge,X,rfl,A',λe H1 n1=>?_⟩;refine ⟨ru,rl,e,ps,g,day,es,fs,ge,fg,rfl,R.same n1.same,Pg,wb,hd,n1.at_,A'.ok.E,hln,U,λb' le dm dr H2 B2 s2 f1 f2 f3 f4=>qas (hN _ _ ?_)⟩;refine qm5 (σ':=[some (.ref b),some (.ref ru),some (.int day),some (.ref b'),none]) rfl ?_;refine qtu λN hN=>?_
  have s02:=n1.same.trans s2;have A2:=A'.same s02;refine ⟨_,rfl,b,dx,_,rfl,s02 _ _ hob,bno,b,B,es,ge,X,rfl,A2,by omega,λln H3 n3=>?_⟩;have s03:=s02.trans n3.same;have g1:H b'=none:=n1.same.free f1;have g2:H le=none:=n1.same.free f2;have g3:H dm=none:=n1.same.free f3;have g4:H dr=none:=n1.same.free f4;have snm:∀ y∈qay (X.map (·.1)),y∈X.map (·.1):=λy hy=>(qah _).mem_iff.mp hy
  have snd:(qay (X.map (·.1))).Nodup:=(qah _).nodup_iff.mpr XG.ok.nd;refine ⟨ln,rfl,⟨_,SqL.of n3.at_⟩,qch (xs:=(qay (X.map (·.1))).map tS) (λj σ H'=>∃ (X':qan) (v4:Option V),Same H H'/\H' ln=some (.lst ((qay (X.map (·.1))).map tS))/\BkC C_Book C_Roll C_Rule H' b' ⟨ru,rl,le,dm,dr,ps,g,day⟩ fs fg X'/\XOk X'/\X'.map (·.1)=(qay (X.map (·.1))).take j/\(∀ p∈X',∃ e:RC,(p.1,e)∈X/\p.2.2.2.1=e.2.2.1/\p.2.2.2.2=qay e.2.2.2)/\(∀ p∈X',H p.2.2.1.dy=none/\H p.2.2.1.dh=none)/\σ=[some (.ref b),some (.ref ru),some (.int day),some (.ref b'),v4]) ⟨[],_,s03,n3.at_,B2.same n3.same,.nil,rfl,(by intro p h;cases h),(by intro p h;cases h),rfl⟩ (λj σ H' _ ⟨_,_,_,z,_⟩=>SqL.of z) ?_ ?_⟩
  ·rintro j x' σ H4 hxj ⟨X',v4,s4,hln4,B4,xk,nm,en,fr,rfl⟩
   obtain ⟨x,hxs,rfl⟩:∃ x,(qay (X.map (·.1)))[j]?=some x/\x'=tS x:=by
    rw[List.getElem?_map] at hxj;obtain ⟨x,e1,e2⟩:=Option.map_eq_some_iff.mp hxj;exact ⟨x,e1,e2.symm⟩
   obtain ⟨⟨x0,e0⟩,he0,ex0⟩:=List.mem_map.mp (snm x (List.mem_of_getElem? hxs));have ex0:x0=x:=ex0;subst ex0;have hsx:=XG.sm _ he0;have hmk:=XG.mm _ he0;have tx:∀ {H:Hp},TextV H (tS x0):=.inl ⟨x0,rfl,by have:=hsx.2.1;dsimp only at this;omega⟩;have inx:qfp X (tS x0):=⟨x0,rfl,hsx,List.mem_map.mpr ⟨_,he0,rfl⟩⟩;have hni:x0 ∉ X'.map (·.1):=by rw[nm];exact qi8 snd hxs
   have lX':X'.length<=20:=by
    have:=congrArg List.length nm;rw[List.length_map,List.length_take,(qah _).length_eq,List.length_map] at this;omega
   refine qas ?_;refine qm5 (σ':=[some (.ref b),some (.ref ru),some (.int day),some (.ref b'),some (tS x0)]) rfl ?_;refine qtu λN hN=>?_
   obtain ⟨dx',hob'⟩:=B4.ob;refine ⟨_,rfl,b',dx',_,rfl,hob',bno,_,rfl,_,rfl,b,dx,_,rfl,s4 _ _ hob,bno,_,rfl,b,B,es,ge,X,tS x0,rfl,A'.same s4,tx,λy e' ey hy hm l H5 s5 f5 h5=>?_,λz=>absurd inx z⟩;have ey:=qbk ey;subst ey;have ee:=XG.ok.one hm he0;subst ee;have ok5:qb3 ((qay e'.2.2.2).map tS):=qi7 (qah _) hmk;refine qB0 rfl (B4.same s5) xk hsx hni (by omega) h5 ok5 λro c H6 b6 c1 c2 B6 xk6=>hN _ _ ?_
   obtain ⟨ms,ems⟩:∃ ms,qay e'.2.2.2=ms:=⟨_,rfl⟩;rw[ems] at B6 xk6;have s45:Same H H5:=s4.trans s5;have s06:Same H H6:=λz o e=>b6 _ _ (s45 _ _ e) (qac e g3) (qac e g4)
   have m6:(x0,((ro,c,[],ms):RC))∈X' ++ [(x0,((ro,c,[],ms):RC))]:=List.mem_append_right _ (List.mem_singleton.mpr rfl);obtain ⟨dx6,hob6⟩:=B6.ob;have inx6:qfp (X' ++ [(x0,((ro,c,[],ms):RC))]) (tS x0):=⟨x0,rfl,hsx,List.mem_map.mpr ⟨_,m6,rfl⟩⟩;refine ⟨_,rfl,b',dx6,_,rfl,hob6,bno,_,rfl,b',_,fs,fg,_,tS x0,rfl,B6,tx,λy3 e3 ey3 hy3 hm3 re3 H7 s7=>?_,λz=>absurd inx6 z⟩;have ey3:=qbk ey3;subst ey3;have ee3:=xk6.one hm3 m6;subst ee3;obtain ⟨LY6,LZ6,N6⟩:=re3.ex;have N7:=N6.same s7;obtain ⟨dxo,hro⟩:=N7.R.obj;refine ⟨ro,dxo,_,rfl,hro,qdk _ _ _ _ _ (by decide +kernel) (by decide +kernel) (by decide +kernel) (by decide +kernel) (by decide +kernel),_,rfl,b,dx,_,rfl,s7 _ _ (s06 _ _ hob),bno,_,rfl,b,B,es,ge,X,tS x0,rfl,(A'.same s06).same s7,tx,λy4 e4 ey4 hy4 hm4 re4 H8 s8=>?_,λz=>absurd inx z⟩;have ey4:=qbk ey4;subst ey4;have ee4:=XG.ok.one hm4 he0;subst ee4;obtain ⟨LY4,LZ4,R4⟩:=re4.ex;simp only[qig,List.cons_append,List.nil_append,List.append_nil];have N8:=N7.same s8;have N8':R63 C_Roll C_Rule H8 ro c ps g day fs fg [] [] []:=N8.empty;obtain ⟨⟨Yo,hYo⟩,⟨Zo,hZo⟩⟩:=(A'.same s45).dicts he0;refine (R4.same s8).moved N8' (XG.rs _ he0) hw U.L ⟨qac hYo c1,qac hYo c2,qac hZo c1,qac hZo c2⟩ λLY9 LZ9 H9 R9 b9=>?_
   have s68:=s7.trans s8;obtain ⟨⟨Y8,hY8⟩,⟨Z8,hZ8⟩⟩:=N8.R.dicts;have B9:=(B6.same s68).set xk6 m6 b9 hY8 hZ8 (rs:=e4.2.2.1) ⟨⟨_,_,R9⟩,re3.ru,re3.rl,XG.rs _ he0⟩;rw[qtf hni] at B9;have g5:H c.dy=none:=s45.free c1;have g6:H c.dh=none:=s45.free c2;refine ⟨X' ++ [(x0,(ro,c,e4.2.2.1,ms))],_,λz o e=>b9 _ _ (s68 _ _ (s06 _ _ e)) (qac e g5) (qac e g6),?_,B9,?_,?_,λp hp=>?_,λp hp=>?_,rfl⟩
   ·obtain ⟨km,hkm,_⟩:=(B4.same s5).ms
    obtain ⟨kr,hkr,_⟩:=(B4.same s5).rs;have e5:=s5 _ _ hln4;have e6:=s68 _ _ (b6 _ _ e5 (qap e5 hkm (by intro z;cases z)) (qap e5 hkr (by intro z;cases z)));exact b9.keep hY8 hZ8 e6 (by intro K z;cases z)
   ·have:=xk6
    unfold XOk at this ⊢;rw[List.pairwise_append] at this ⊢;refine ⟨this.1,by simp,λp hp p' hp'=>?_⟩;have z:=this.2.2 p hp _ (List.mem_singleton.mpr rfl);rw[List.mem_singleton.mp hp'];exact z
   ·rw[List.map_append,nm,List.take_add_one,hxs];rfl
   ·rcases List.mem_append.mp hp with z|z
    ·exact en p z
    ·rw[List.mem_singleton.mp z];exact ⟨e4,he0,rfl,ems.symm⟩
   ·rcases List.mem_append.mp hp with z|z
    ·exact fr p z
    ·rw[List.mem_singleton.mp z];exact ⟨g5,g6⟩
  ·rintro σ H4 ⟨X',v4,s4,hln4,B4,xk,nm,en,fr,rfl⟩
   refine hN _ _ ?_;rw[List.length_map,List.take_length] at nm;exact ⟨_,rfl,q b' le dm dr X' H4 B4 xk ⟨nm,en⟩ fr s4 g1 g2 g3 g4⟩
inductive qoq (C CR R:Addr) (vs:List V) (H:Hp) (Q:VK) (E_:XK):Prop
 | mk:∀ (b:Addr) (B:BookD) (es:List Int) (ge:Option Int) (X:qan) (d:Int) (fs:List Int) (fg:Option Int),vs=[.ref b,.int d]->BkC C CR R H b B es ge X->qme X->Bd d->B.day<=d->qww B.ps B.g d (es.map V.int ++ [gv ge]) es ge fs fg->(∀ b' le dm dr X' H',BkC C CR R H' b' ⟨B.ru,B.rl,le,dm,dr,B.ps,B.g,d⟩ fs fg X'->XOk X'->qB2 X X'->(∀ p∈X',H p.2.2.1.dy=none/\H p.2.2.1.dh=none)->Same H H'->H b'=none->H le=none->H dm=none->H dr=none->Q (.ref b') H')->qoq C CR R vs H Q E_
include T in
theorem qm6:qbe P w K mg base 9 "aged_book" ["book", "day"] (qoq C_Book C_Roll C_Rule):=by
 obtain ⟨f,fd,F,hm⟩:=T.f_aged_book;have nd:=sc_aged_book.nd;refine F.def_ hm (F.ok sc_aged_book (λvs H Q E h=>?_) (λcdv A outer s H vs Q E hr h=>?_)) (F.binds λ_ _ _ _ _ _ us hl=>by obtain ⟨_,_,rfl⟩:=L2.lq2 hl;rfl)
 ·obtain ⟨b,B,es,ge,X,d,fs,fg,rfl,_⟩:=h;rfl
 ·obtain ⟨b,B,es,ge,X,d,fs,fg,rfl,A',XG,hd,hle,U,q⟩:=h
  obtain ⟨dx,hob⟩:=A'.ob;refine ⟨_,(jB2 (qbd (jC qif (pv 1) (qax (pv 0) T.cl_Book (qd1 T) (hr.mono (by decide)))) (qae qbs) qao) (qai (jF (qtg T) hr (jA3 (pv 0) (qax (pv 0) T.cl_Book (qbp T) (hr.mono (by decide))) (pv 1))))),?_⟩;refine ⟨_,rfl,_,rfl,b,dx,_,rfl,hob,bno,b,B,es,ge,X,rfl,A',_,_,rfl,rfl,_,rfl,?_⟩;rw[decide_eq_false (show ¬ d<B.day by omega)];refine qdy ?_;refine ⟨_,rfl,_,rfl,b,dx,_,rfl,hob,bno,b,B,es,ge,X,rfl,A',_,rfl,?_⟩;exact ⟨b,B,es,ge,X,B.ru,B.rl,B.ps,B.g,d,fs,fg,rfl,A',XG,A'.rule,A'.ok.P,A'.ok.wb,rfl,hd,U,q⟩
theorem ints_rep {F:Frag} {H:Hp} {l:Addr} {ns:List Int} (h:H l=some (.lst (ns.map V.int))):Rep F H (.ref l) (.list (ns.map PyData.int)):=.lst (SqL.of h) (qk7 ns)
theorem qor (ns:List Int):(PyData.list (ns.map PyData.int)).canLay0=true:=by simp only[PyData.canLay0,qk8]
theorem qvg (ns:List Int):(PyData.list (ns.map PyData.int)).depth<=20:=by simp[PyData.depth,qk9]
theorem qos:∀ ns ms:List Int,PyData.eqvAll (ns.map PyData.int) (ms.map PyData.int)=decide (ns=ms)
 | [],[]=>by simp[PyData.eqvAll]
 | [],_ :: _=>by simp[PyData.eqvAll]
 | _ :: _,[]=>by simp[PyData.eqvAll]
 | n :: ns,m :: ms=>by
  rw[List.map_cons,List.map_cons,PyData.eqvAll,qos ns ms]
  by_cases h1:n=m<;>by_cases h2:ns=ms<;>simp[h1,h2,PyData.eqv]
theorem qvh (ns ms:List Int):PyData.eqv (.list (ns.map PyData.int)) (.list (ms.map PyData.int))=decide (ns=ms):=by
 rw[PyData.eqv,qos]
inductive qh8 (R:Addr) (vs:List V) (H:Hp) (Q:VK) (E_:XK):Prop
 | mk:∀ (ru rl:Addr) (ps:List (Int×Int)) (g:Option Int),vs=[.ref ru]->RuleAt R H ru rl ps g->ps.length<=5->(∀ p H',Same H H'->H' p=some (.lst ((ps.map (·.2)).map V.int))->Q (.ref p) H')->qh8 R vs H Q E_
include T in
theorem qh9:qbe P w K mg base 3 "widths_of" ["rule"] (qh8 C_Rule):=by
 obtain ⟨f,fd,F,hm⟩:=T.f_widths_of;have nd:=sc_widths_of.nd;refine F.def_ hm (F.ok sc_widths_of (λvs H Q E h=>?_) (λcdv A outer s H vs Q E hr h=>?_)) (F.binds λ_ _ _ _ _ _ us hl=>by obtain ⟨_,rfl⟩:=L2.lq1 hl;rfl)
 ·obtain ⟨ru,rl,ps,g,rfl,_⟩:=h;rfl
 ·obtain ⟨ru,rl,ps,g,rfl,R,h5,q⟩:=h
  obtain ⟨dxr,hru⟩:=R.ob;obtain ⟨xr,hxl,hxr⟩:=R.ls;have nst:(rf rl (gv g)).lookup ("steps" : Str)=none:=TB.qjv _ _ (by decide +kernel) (by decide +kernel);refine ⟨_,(qae (qai (qgh (vars:=[ "age", "width" ]) (frees:=[]) (fv:=[]) rfl (jL0 rfl) trivial (qbb (qax (pv 0) T.cl_Rule (qbq T) (hr.mono (by decide)))) (qdi (by decide) (by decide)) (λ_ _ _ _=>(jG2 (jM 0 [ "age", "width" ]) (jM 1 [ "age", "width" ]))) (λ_ _ _ _=>qbc) (λ_ _ _ _=>(pv 1))))),?_⟩;refine ⟨_,rfl,ru,dxr,_,rfl,hru,nst,ru,rl,ps,g,xr,rfl,R,hxl,λl1 H1 n1=>?_⟩;refine ⟨l1,rfl,⟨_,SqL.of n1.at_⟩,qgo (λp=>p.2) n1.at_ (hxr.same n1.same) (by omega) (λp _ Q' q'=>⟨_,rfl,q'⟩) λa H2 n2=>?_⟩;exact q a H2 (n1.same.trans n2.same) (by rw[n2.at_])
inductive qmf (C CR R:Addr) (vs:List V) (H:Hp) (Q:VK) (E_:XK):Prop
 | mk:∀ (b:Addr) (B:BookD) (es:List Int) (ge:Option Int) (X:qan) (ru rl:Addr) (ps:List (Int×Int)) (g:Option Int) (fs:List Int) (fg:Option Int),vs=[.ref b,.ref ru]->BkC C CR R H b B es ge X->qme X->RuleAt R H ru rl ps g->Pr ps g->(∀ p∈ps,p.2<=10 ^ 35)->ps.map (·.2)=B.ps.map (·.2)->qww ps g B.day (es.map V.int ++ [gv ge]) es ge fs fg->(∀ b' le dm dr X' H',BkC C CR R H' b' ⟨ru,rl,le,dm,dr,ps,g,B.day⟩ fs fg X'->XOk X'->qB2 X X'->(∀ p∈X',H p.2.2.1.dy=none/\H p.2.2.1.dh=none)->Same H H'->H b'=none->H le=none->H dm=none->H dr=none->Q (.ref b') H')->qmf C CR R vs H Q E_
include T in
theorem qmg:qbe P w K mg base 9 "book_under" ["book", "rule"] (qmf C_Book C_Roll C_Rule):=by
 obtain ⟨f,fd,F,hm⟩:=T.f_book_under;have nd:=sc_book_under.nd;refine F.def_ hm (F.ok sc_book_under (λvs H Q E h=>?_) (λcdv A outer s H vs Q E hr h=>?_)) (F.binds λ_ _ _ _ _ _ us hl=>by obtain ⟨_,_,rfl⟩:=L2.lq2 hl;rfl)
 ·obtain ⟨b,B,es,ge,X,ru,rl,ps,g,fs,fg,rfl,_⟩:=h;rfl
 ·obtain ⟨b,B,es,ge,X,ru,rl,ps,g,fs,fg,rfl,A',XG,Ru,Pg,wb,hw,U,q⟩:=h
  obtain ⟨dx,hob⟩:=A'.ob;refine ⟨_,(jB2 (qbd (jC (qvx hr.units) (jF (qh9 T) hr (jA1 (qax (pv 0) T.cl_Book (qbp T) (hr.mono (by decide))))) (jF (qh9 T) hr (jA1 (pv 1)))) (qae qbs) qao) (qai (jF (qtg T) hr (jA3 (pv 0) (pv 1) (qax (pv 0) T.cl_Book (qd1 T) (hr.mono (by decide))))))),?_⟩;refine ⟨_,rfl,b,dx,_,rfl,hob,bno,b,B,es,ge,X,rfl,A',?_⟩;refine ⟨B.ru,B.rl,B.ps,B.g,rfl,A'.rule,A'.ok.P.good.hi,λp1 H1 s1 hp1=>?_⟩;refine ⟨_,rfl,ru,rl,ps,g,rfl,Ru.same s1,Pg.good.hi,λp2 H2 s2 hp2=>?_⟩;refine ⟨_,_,ints_rep (s2 _ _ hp1),ints_rep hp2,qor _,qor _,qvg _,_,rfl,?_⟩
  show if (!PyData.eqv _ _)=true then _ else _
  rw[qvh];have s02:=s1.trans s2;rw[decide_eq_true hw.symm];refine qdy ?_;refine ⟨_,rfl,_,rfl,_,rfl,b,dx,_,rfl,s02 _ _ hob,bno,b,B,es,ge,X,rfl,A'.same s02,?_⟩;exact ⟨b,B,es,ge,X,ru,rl,ps,g,B.day,fs,fg,rfl,A'.same s02,XG,Ru.same s02,Pg,wb,hw,A'.ok.hd,U,λb' le dm dr X' H' B' xk mv fr s z1 z2 z3 z4=>q b' le dm dr X' H' B' xk mv (λp hp=>⟨s02.free (fr p hp).1,s02.free (fr p hp).2⟩) (s02.trans s) (s02.free z1) (s02.free z2) (s02.free z3) (s02.free z4)⟩
theorem R63.poured {C R:Addr} {H:Hp} {r ro:Addr} {q c:qar} {ps ps2:List (Int×Int)} {g g2:Option Int} {d D:Int} {es fs:List Int} {ge fg:Option Int} {rs rs0:List Rd3} {LY LZ LY0 LZ0:List (List Int)} {Q:VK} {E:XK} (h:R63 C R H r q ps g d es ge rs LY LZ) (N:R63 C R H ro c ps2 g2 D fs fg rs0 LY0 LZ0) (h50:KN (rs0 ++ rs)) (hw:ps2.map (·.2)=ps.map (·.2)) (L:Later es fs ge fg) (ap:ApartD q c)
  (k:∀ LY' LZ' H',R63 C R H' ro c ps2 g2 D fs fg (rs0 ++ rs) LY' LZ'->But2 c.dy c.dh H H'->Q .non H'):qc5 C R [.ref ro,.ref r] H Q E:=by
 have l1:=h.ly;have l2:=h.lz;have m1:=N.ly;have m2:=N.lz;obtain ⟨LY',LZ',l3,l4,tk⟩:=h.take (h50.sub (λr hr=>List.mem_append_right _ hr) (by have:=h50.1;rw[List.length_append] at this;omega)) (qbi (ps2.map (·.2)) fs fg);have ec:=N.cellD;have s1:LY' ⊆ LY' ++ LY0:=List.subset_append_left _ _;have s2:LZ' ⊆ LZ' ++ LZ0:=List.subset_append_left _ _;refine ⟨ro,r,c,q,_,_,LY' ++ LY0,LZ' ++ LZ0,LY,LZ,rfl,N.R.mono (List.subset_append_right _ _) (List.subset_append_right _ _),h.R,N.ok,ap,by rw[List.length_append];omega,by rw[List.length_append];omega,by omega,by omega,by rw[ec];exact tk.mono s1 s2,λH' R' b'=>?_⟩;have F0:=h.F;rw[<- hw] at F0;have hT:=qsw (qhq F0 N.F L h.len) rs (qcp (qbi (ps2.map (·.2)) fs fg) rs0);rw[hw] at hT;rw[ec,hw,hT,<- hw] at R';have e2:rs.foldl (qcd (qbi (ps2.map (·.2)) fs fg)) (qcp (qbi (ps2.map (·.2)) fs fg) rs0)=qcp (qbi (ps2.map (·.2)) fs fg) (rs0 ++ rs):=by
  unfold qcp;rw[List.foldl_append]
 rw[e2] at R';obtain ⟨LY9,LZ9,l5,l6,R9⟩:=R'.fit h50;refine k LY9 LZ9 H' { N with R:=R9,hr:=λt ht=>?_,ly:=l5,lz:=l6 } b'
 rcases List.mem_append.mp ht with z|z
 ·exact N.hr t z
 ·exact h.hr t z
inductive qmh (R:Addr) (vs:List V) (H:Hp) (Q:VK) (E_:XK):Prop
 | mk:∀ (ru rl ru2 rl2:Addr) (ps ps2:List (Int×Int)) (g g2:Option Int),vs=[.ref ru,.ref ru2]->RuleAt R H ru rl ps g->RuleAt R H ru2 rl2 ps2 g2->(∀ H',Same H H'->Q (.bl (decide (ps=ps2/\g=g2))) H')->qmh R vs H Q E_
include T in
theorem qmi:qbe P w K mg base 3 "same_rules" ["one", "other"] (qmh C_Rule):=by
 obtain ⟨f,fd,F,hm⟩:=T.f_same_rules;have nd:=sc_same_rules.nd;refine F.def_ hm (F.ok sc_same_rules (λvs H Q E h=>?_) (λcdv A outer s H vs Q E hr h=>?_)) (F.binds λ_ _ _ _ _ _ us hl=>by obtain ⟨_,_,rfl⟩:=L2.lq2 hl;rfl)
 ·obtain ⟨ru,rl,ru2,rl2,ps,ps2,g,g2,rfl,_⟩:=h;rfl
 ·obtain ⟨ru,rl,ru2,rl2,ps,ps2,g,g2,rfl,R1,R2,q⟩:=h
  obtain ⟨dx1,hru1⟩:=R1.ob;obtain ⟨xr1,hxl1,hxr1⟩:=R1.ls;obtain ⟨dx2,hru2⟩:=R2.ob;obtain ⟨xr2,hxl2,hxr2⟩:=R2.ls;have nst:∀ l g,(rf l (gv g)).lookup ("steps" : Str)=none:=λ_ _=>TB.qjv _ _ (by decide +kernel) (by decide +kernel)
  have ngo:∀ l g,(rf l (gv g)).lookup ("gone" : Str)=none:=λ_ _=>TB.qjv _ _ (by decide +kernel) (by decide +kernel)
  refine ⟨_,(qae (qai (qfr (jD (qvw hr.units) (qax (pv 0) T.cl_Rule (qbq T) (hr.mono (by decide))) (qax (pv 1) T.cl_Rule (qbq T) (hr.mono (by decide)))) (qil (jD (qvw hr.units) (qax (pv 0) T.cl_Rule (qej T) (hr.mono (by decide))) (qax (pv 1) T.cl_Rule (qej T) (hr.mono (by decide)))))))),?_⟩;refine ⟨_,rfl,ru,dx1,_,rfl,hru1,nst _ _,ru,rl,ps,g,xr1,rfl,R1,hxl1,λl1 H1 n1=>?_⟩;refine ⟨_,rfl,ru2,dx2,_,rfl,n1.same _ _ hru2,nst _ _,ru2,rl2,ps2,g2,xr2,rfl,R2.same n1.same,n1.same _ _ hxl2,λl2 H2 n2=>?_⟩;have s02:=n1.same.trans n2.same;refine ⟨qd7 ps,qd7 ps2,Pairs.rep (n2.same _ _ n1.at_) (hxr1.same s02),Pairs.rep n2.at_ (hxr2.same s02),qk6 _,qk6 _,qsa _,_,rfl,?_⟩
  show if (PyData.eqv _ _)=true then _ else _
  rw[qsu];have q2:=q H2 s02
  by_cases h1:ps=ps2
  ·rw[decide_eq_true h1]
   refine qdc ?_;refine ⟨_,rfl,ru,dx1,_,rfl,s02 _ _ hru1,ngo _ _,ru,rl,ps,g,rfl,R1.same s02,?_⟩;refine ⟨_,rfl,ru2,dx2,_,rfl,s02 _ _ hru2,ngo _ _,ru2,rl2,ps2,g2,rfl,R2.same s02,?_⟩;refine ⟨dV (gv g),dV (gv g2),qsn g,qsn g2,qwn g,qwn g2,qBq g,?_⟩
   show Q (V.bl (PyData.eqv _ _)) H2
   rw[qBr];have e:decide (ps=ps2/\g=g2)=decide (g=g2):=by simp[h1]
   rw[e] at q2;exact q2
  ·rw[decide_eq_false h1]
   refine qdy ?_;have e:decide (ps=ps2/\g=g2)=false:=by simp[h1]
   rw[e] at q2;exact q2
theorem qB3 (w:List Nat) (ms:List (List Nat)):inV (tS w) (ms.map tS)=decide (w∈ms):=by
 unfold inV;rw[Bool.eq_iff_iff,List.any_eq_true,decide_eq_true_iff]
 constructor
 ·rintro ⟨v,hv,e⟩
  obtain ⟨m,hm,rfl⟩:=List.mem_map.mp hv;have e2:S m=S w:=beq_iff_eq.mp e;rw[<- qpf e2];exact hm
 ·intro h
  exact ⟨tS w,List.mem_map.mpr ⟨w,h,rfl⟩,beq_iff_eq.mpr rfl⟩
theorem qvi (ms:List (List Nat)):(ms.map tS).all qjf=true:=List.all_eq_true.mpr λv hv=>by
 obtain ⟨m,_,rfl⟩:=List.mem_map.mp hv
 rfl
theorem qot {α:Type} [DecidableEq α]:∀ {d ks:List α},d.Nodup->(∀ x∈d,x∈ks)->d.length<=ks.length
 | [],_,_,_=>Nat.zero_le _
 | x :: d,ks,nd,sb=>by
  have hx:x∈ks:=sb x (by simp);have n2:=List.nodup_cons.mp nd;have p:=(List.perm_cons_erase hx).length_eq;have:=qot (d:=d) (ks:=ks.erase x) n2.2 λy hy=>(List.mem_erase_of_ne (λe:y=x=>n2.1 (e ▸ hy))).mpr (sb y (List.mem_cons_of_mem _ hy))
  simp at p ⊢
  omega
theorem qEz {s u:TS} {D:Ends} {σ:St} {H:Hp} (J:St->Hp->Prop) (h1:∀ N:St->Hp->Prop,(∀ σ' H',J σ' H'->N σ' H')->s { D with nx:=N } σ H) (h2:∀ σ' H',J σ' H'->u D σ' H'):qed s u D σ H:=h1 (u D) h2
theorem qp8 {X:qan} {x:List Nat} {ro:Addr} {c:qar} {rs rs0:List Rd3} {ms:List (List Nat)} (hn:x ∉ X.map (·.1)):(X ++ [(x,(ro,c,rs0,ms))]).map (qc9 x rs)=X ++ [(x,(ro,c,rs,ms))]:=by
 rw[List.map_append]
 congr 1
 ·have:X.map (qc9 x rs)=X.map id:=List.map_congr_left λp hp=>by
   unfold qc9;rw[if_neg (λe=>hn (List.mem_map.mpr ⟨p,hp,e⟩))];rfl
  rw[this,List.map_id]
 ·show [qc9 x rs (x,(ro,c,rs0,ms))]=_
  unfold qc9;rw[if_pos rfl]
theorem two_flat {β:Type} (hold:Nat->Bool) (f:Nat->List β) (h:∀ k,k<2->k ∉ (List.range 2).filter hold->f k=[]):((List.range 2).filter hold).flatMap f=f 0 ++ f 1:=by
 have h0:=h 0 (by decide);have h1:=h 1 (by decide);have e:List.range 2=[0,1]:=rfl;rw[e] at h0 h1 ⊢
 cases e0:hold 0<;>cases e1:hold 1<;>simp[List.filter_cons,e0,e1] at h0 h1 ⊢
 ·rw[h0,h1];exact ⟨rfl,rfl⟩
 ·exact h0
 ·exact h1
theorem qth {α:Type} {f:Nat->List α} {n:Nat}:∀ {l:List Nat},(∀ k∈l,(f k).length<=n)->(l.flatMap f).length<=n*l.length
 | [],_=>by simp
 | k :: l,h=>by
  have h1:=h k (by simp);have h2:=qth (l:=l) λk hk=>h k (List.mem_cons_of_mem _ hk)
  rw[List.flatMap_cons,List.length_append,List.length_cons,Nat.mul_succ];omega
def f2 {α:Type} (a b:α):Nat->α
 | 0=>a
 | _=>b
def rowOf (X:qan) (x:List Nat):List RC:=(X.filter λp=>decide (p.1=x)).map (·.2)
def rsB (X:qan) (x:List Nat):List Rd3:=(rowOf X x).flatMap (·.2.2.1)
def mkB (X:qan) (x:List Nat):List (List Nat):=(rowOf X x).flatMap λe=>qay e.2.2.2
theorem qgr {X:qan} {x:List Nat} (h:x ∉ X.map (·.1)):rowOf X x=[]:=by
 unfold rowOf;rw[List.filter_eq_nil_iff.mpr λp hp e=>h (List.mem_map.mpr ⟨p,hp,of_decide_eq_true e⟩)]
 rfl
theorem qd2:∀ {X:qan} {x:List Nat} {e:RC},XOk X->(x,e)∈X->rowOf X x=[e]
 | p :: X,x,e,ok,hx=>by
  obtain ⟨h1,h2⟩:=List.pairwise_cons.mp ok;unfold rowOf
  rcases List.mem_cons.mp hx with z|z
  ·subst z
   rw[List.filter_cons,if_pos (by simp)];have:=qgr (X:=X) (x:=x) λhm=>by
    obtain ⟨q,hq,eq⟩:=List.mem_map.mp hm;exact (h1 q hq).1 eq.symm
   unfold rowOf at this;rw[List.map_cons,this]
  ·rw[List.filter_cons,if_neg (by
    intro hd;exact (h1 _ z).1 (of_decide_eq_true hd))]
   exact qd2 h2 z
def qwz (XX:Nat->qan):Prop:=∃ x,8<(qr1 (mkB (XX 0) x ++ mkB (XX 1) x)).length
structure qw0 (XX:Nat->qan) (X':qan):Prop where
 nd:(X'.map (·.1)).Nodup
 nm:∀ x,x∈X'.map (·.1)↔x∈(XX 0).map (·.1)\/x∈(XX 1).map (·.1)
 rs:∀ p∈X',p.2.2.2.1=rsB (XX 0) p.1 ++ rsB (XX 1) p.1
 ms:∀ p∈X',qb3 (p.2.2.2.2.map tS)/\∀ m,m∈p.2.2.2.2↔m∈mkB (XX 0) p.1\/m∈mkB (XX 1) p.1
structure T2 (C CR R:Addr) (H:Hp) (bs:Nat->Addr) (BB:Nat->BookD) (eF:Nat->List Int) (gF:Nat->Option Int) (XX:Nat->qan):Prop where
 bk:∀ i,i<2->BkC C CR R H (bs i) (BB i) (eF i) (gF i) (XX i)
 go:∀ i,i<2->qme (XX i)
 kn:∀ x,KN (rsB (XX 0) x ++ rsB (XX 1) x)
inductive qia (C CR R N M:Addr) (vs:List V) (H:Hp) (Q:VK) (E:XK):Prop
 | mk:∀ (bs:Nat->Addr) (BB:Nat->BookD) (eF:Nat->List Int) (gF:Nat->Option Int) (XX:Nat->qan),vs=[.ref (bs 0),.ref (bs 1)]->T2 C CR R H bs BB eF gF XX->(¬ ((BB 0).ps=(BB 1).ps/\(BB 0).g=(BB 1).g)->∀ H',Same H H'->E (.ref N) none H')->((BB 0).ps=(BB 1).ps/\(BB 0).g=(BB 1).g->(qwz XX->∀ H',Same H H'->E (.ref M) none H')/\∀ b le dm dr X' fs fg H',List.zipWith gE (eV (BB 0).ps (BB 0).g (if (BB 1).day>(BB 0).day then (BB 1).day else (BB 0).day)) (List.zipWith gE ((eF 0).map V.int ++ [gv (gF 0)]) ((eF 1).map V.int ++ [gv (gF 1)]))=fs.map V.int ++ [gv fg]->BkC C CR R H' b ⟨(BB 0).ru,(BB 0).rl,le,dm,dr,(BB 0).ps,(BB 0).g,if (BB 1).day>(BB 0).day then (BB 1).day else (BB 0).day⟩ fs fg X'->XOk X'->qw0 XX X'->(∀ p∈X',H p.2.2.1.dy=none/\H p.2.2.1.dh=none)->Same H H'->H b=none->H le=none->H dm=none->H dr=none->Q (.ref b) H')->qia C CR R N M vs H Q E
include T in
theorem qgf:qAl P w K mg base 9 "both_books" ["one", "other"] [] (qia C_Book C_Roll C_Rule C_NoRule C_NoMark):=by
 obtain ⟨f,fd,F,hm⟩:=T.f_both_books;have nd:=sc_both_books.nd;refine ⟨f,fd,(F.okX sc_both_books (λvs H Q E h=>?_) (λcdv A outer s H vs Q E hr h=>?_)),hm,F.kp,(F.binds λ_ _ _ _ _ _ us hl=>by obtain ⟨_,_,rfl⟩:=L2.lq2 hl;rfl)⟩
 ·obtain ⟨bs,BB,eF,gF,XX,rfl,_⟩:=h;rfl
 ·obtain ⟨bs,BB,eF,gF,XX,rfl,TT,qN,q⟩:=h
  have A0:=TT.bk 0 (by decide);have A1:=TT.bk 1 (by decide);obtain ⟨dx0,hob0⟩:=A0.ob;obtain ⟨dx1,hob1⟩:=A1.ob;have x0:=(TT.go 0 (by decide)).ln;have x1:=(TT.go 1 (by decide)).ln;refine ⟨_,(jB4 (qbd (qda (qcu (jF (qmi T) hr (jA2 (qax (pv 0) T.cl_Book (qbp T) (hr.mono (by decide))) (qax (pv 1) T.cl_Book (qbp T) (hr.mono (by decide))))))) (qae (qc2 (qav ⟨rfl,rfl,rfl⟩) rfl T.ex_NoRule rfl T.mg_NoRule (jA1 qel))) qao) (jS 2 nd (jF (qge T) hr (jA3 (qax (pv 0) T.cl_Book (qbp T) (hr.mono (by decide))) (qag (qer rfl) rfl T.b_max qkv (jA2 (qax (pv 0) T.cl_Book (qd1 T) (hr.mono (by decide))) (qax (pv 1) T.cl_Book (qd1 T) (hr.mono (by decide))))) (jF (qh3 T) hr (jA2 (qax (pv 0) T.cl_Book (qdu T) (hr.mono (by decide))) (qax (pv 1) T.cl_Book (qdu T) (hr.mono (by decide)))))))) (qdb (qjj ⟨rfl,rfl,rfl⟩) rfl (qbb (qag (qd6 rfl) rfl T.b_sorted qcv (jA1 (qbt (qha rfl) rfl T.b_set qrp (jA1 (qak qmw (qax (pv 0) T.cl_Book (qbh T) (hr.mono (by decide))) (qax (pv 1) T.cl_Book (qbh T) (hr.mono (by decide))))))))) (qja (i:=3) nd rfl (Or.inr rfl)) (jB5 (qew (i:=4) (vars:=[ "book" ]) (frees:=[ "name" ]) (fv:=[3]) nd rfl (Or.inl rfl) rfl (jL1 rfl) ⟨⟨rfl,.inl rfl,rfl,.inl rfl⟩,trivial⟩ (qz0 (qbn (jA2 (pv 0) (pv 1)))) (qc0 (by decide)) (λ_ _ _ _=>(jM 0 [ "book", "name" ])) (λ_ _ _ _=>(qra (qqr (show OpR _ _ (rIn K false) from qq2) (pv 1) (qax (pv 0) T.cl_Book (qbh T) (hr.mono (by decide))) rfl))) (λ_ _ _ _=>(pv 0))) (jS 5 nd (qc1 qes)) (qdb (qjj ⟨rfl,rfl,rfl⟩) rfl (qbb (pv 4)) (jN 6 nd) (qae (qa5 (qxn PySem.F.plainAttrs_list PySem.F.slot_list_extend PySem.F.type_list_extend qpe (pv 5) (jA1 (qb5 (qav ⟨rfl,rfl,rfl⟩) (pv 6) T.cl_Book (qgd T) (hr.mono (by decide)) .nil (jA1 (pv 3)))))))) (qa5 (qb5 (qav ⟨rfl,rfl,rfl⟩) (pv 2) T.cl_Book (qec T) (hr.mono (by decide)) .nil (jA2 (pv 3) (qag (qd6 rfl) rfl T.b_sorted qcv (jA1 (qbt (qha rfl) rfl T.b_set qrp (jA1 (pv 5)))))))) (qdb (qjj ⟨rfl,rfl,rfl⟩) rfl (qbb (pv 4)) (jN 6 nd) (qae (qa5 (qo7 (qb5 (qav ⟨rfl,rfl,rfl⟩) (pv 2) T.cl_Book (qa3 T) (hr.mono (by decide)) .nil (jA1 (pv 3))) T.cl_Roll (qcn T) (hr.mono (by decide)) (jA1 (qb5 (qav ⟨rfl,rfl,rfl⟩) (pv 6) T.cl_Book (qa3 T) (hr.mono (by decide)) .nil (jA1 (pv 3)))))))))) (qai (pv 2))),?_⟩;refine qtu λN hN=>?_
  refine ⟨_,rfl,bs 0,dx0,_,rfl,hob0,bno,bs 0,BB 0,_,_,_,rfl,A0,?_⟩;refine ⟨_,rfl,bs 1,dx1,_,rfl,hob1,bno,bs 1,BB 1,_,_,_,rfl,A1,?_⟩;refine ⟨_,_,_,_,_,_,_,_,rfl,A0.rule,A1.rule,λH1 s1=>?_⟩
  by_cases hsame:(BB 0).ps=(BB 1).ps/\(BB 0).g=(BB 1).g
  case neg =>
   rw[decide_eq_false hsame];refine ⟨_,rfl,qdc ?_⟩;exact ⟨by walk_at "c",qN hsame H1 s1⟩
  rw[decide_eq_true hsame];refine ⟨_,rfl,qdy (hN _ _ ?_)⟩;refine qtu λN hN=>?_
  obtain ⟨qM,q⟩:=q hsame;have hl0:(eF 0).length=(BB 0).ps.length:=by have:=A0.ok.F.len;rw[List.length_map] at this;omega
  have hl1:(eF 1).length=(BB 0).ps.length:=by have:=A1.ok.F.len;rw[List.length_map,<- hsame.1] at this;omega
  refine ⟨_,rfl,bs 0,dx0,_,rfl,s1 _ _ hob0,bno,bs 0,BB 0,_,_,_,rfl,A0.same s1,?_⟩;refine ⟨_,rfl,bs 0,dx0,_,rfl,s1 _ _ hob0,bno,bs 0,BB 0,_,_,_,rfl,A0.same s1,?_⟩;refine ⟨_,rfl,bs 1,dx1,_,rfl,s1 _ _ hob1,bno,bs 1,BB 1,_,_,_,rfl,A1.same s1,?_⟩;refine ⟨_,_,rfl,?_⟩;refine ⟨_,rfl,bs 0,dx0,_,rfl,s1 _ _ hob0,bno,bs 0,BB 0,_,_,_,rfl,A0.same s1,λp2 H2 n2=>?_⟩;have s12:=s1.trans n2.same;refine ⟨_,rfl,bs 1,dx1,_,rfl,s12 _ _ hob1,bno,bs 1,BB 1,_,_,_,rfl,A1.same s12,λp3 H3 n3=>?_⟩;have s13:=s12.trans n3.same;refine ⟨p2,p3,_,_,rfl,n3.same _ _ n2.at_,n3.at_,A0.ok.E.ed,A1.ok.E.ed,by simp;omega,by simp;have:=A0.ok.P.good.hi;omega,λp4 H4 n4=>?_⟩;have s14:=s13.trans n4.same;have wEq:(BB 1).ps.map (·.2)=(BB 0).ps.map (·.2):=by rw[hsame.1]
  have F1:=A1.ok.F;rw[wEq] at F1;have M:=A0.ok.E.max A1.ok.E (show (eF 0).length=(eF 1).length by omega);have FM:=A0.ok.F.max F1;obtain ⟨day,eday⟩:∃ day,day=if (BB 1).day>(BB 0).day then (BB 1).day else (BB 0).day:=⟨_,rfl⟩
  have hD:Bd day:=by rw[eday];split;exact A1.ok.hd;exact A0.ok.hd
  have he4:=n4.at_;rw[M.eq] at he4;have M':=M;rw[M.eq] at M';obtain ⟨fs,fg,U⟩:=qDm A0.ok.P hD M' FM;have L0:Later (eF 0) fs (gF 0) fg:=(Later.max _ _ (by omega)).trans U.L;have L1:Later (eF 1) fs (gF 1) fg:=(qs9 _ _ (by omega)).trans U.L;have LL:∀ i,i<2->Later (eF i) fs (gF i) fg:=λi hi=>by
   match i,hi with
   | 0,_=>exact L0
   | 1,_=>exact L1
  have wW:∀ i,i<2->(BB 0).ps.map (·.2)=(BB i).ps.map (·.2):=λi hi=>by
   match i,hi with
   | 0,_=>rfl
   | 1,_=>exact wEq.symm
  have eU:=U.eq;rw[<- M.eq] at eU;rw[<- eday] at q ⊢;refine ⟨(BB 0).ru,(BB 0).rl,p4,(BB 0).ps,(BB 0).g,day,_,fs,_,fg,rfl,A0.rule.same s14,A0.ok.P,A0.ok.wb,hD,he4,M',by rw[List.length_zipWith];omega,U,λb' le dm dr H5 B5 s5 f1 f2 f3 f4=>qas (hN _ _ ?_)⟩;refine qm5 (σ':=[some (.ref (bs 0)),some (.ref (bs 1)),some (.ref b'),none,none,none,none]) rfl ?_;refine qtu λN hN=>?_
  have s05:=s14.trans s5;have g1:H b'=none:=s14.free f1;have g2:H le=none:=s14.free f2;have g3:H dm=none:=s14.free f3;have g4:H dr=none:=s14.free f4;refine ⟨_,rfl,bs 0,dx0,_,rfl,s05 _ _ hob0,bno,bs 0,BB 0,_,_,_,rfl,A0.same s05,by omega,λl6 H6 n6=>?_⟩;have s06:=s05.trans n6.same;refine ⟨_,rfl,bs 1,dx1,_,rfl,s06 _ _ hob1,bno,bs 1,BB 1,_,_,_,rfl,A1.same s06,by omega,λl7 H7 n7=>?_⟩;have s07:=s06.trans n7.same;have n0l:(qay ((XX 0).map (·.1))).length<=20:=by rw[(qah _).length_eq,List.length_map];omega
  have n1l:(qay ((XX 1).map (·.1))).length<=20:=by rw[(qah _).length_eq,List.length_map];omega
  refine ⟨l6,l7,_,_,rfl,rfl,n7.same _ _ n6.at_,n7.at_,qkb (by simp only[List.length_map];omega),λl8 H8 n8=>?_⟩;obtain ⟨nn,enn⟩:∃ nn,nn=qay ((XX 0).map (·.1)) ++ qay ((XX 1).map (·.1)):=⟨_,rfl⟩;have h8:H8 l8=some (.lst ((nn.map S).map V.str)):=by
   have:=n8.at_;rw[<- List.map_append,<- enn] at this;rw[this,List.map_map];rfl
  have nnl:nn.length<64:=by rw[enn,List.length_append];omega
  refine ⟨l8,nn.map S,rfl,SqL.of h8,by rw[List.length_map];omega,λa9 H9 n9=>?_⟩;refine ⟨a9,nn,rfl,n9.at_,nnl,λks l10 H10 nd mem n10=>?_⟩;have s010:=s07.trans (n8.same.trans (n9.same.trans n10.same));have s510:=n6.same.trans (n7.same.trans (n8.same.trans (n9.same.trans n10.same)));have mem2:∀ x,x∈ks↔x∈(XX 0).map (·.1)\/x∈(XX 1).map (·.1):=λx=>by
   rw[mem x,enn,List.mem_append,(qah _).mem_iff,(qah _).mem_iff]
  have snd:(qay ks).Nodup:=(qah _).nodup_iff.mpr nd;have ksl:ks.length<=40:=by
   have:=qot nd λx hx=>(mem x).mp hx
   rw[enn,List.length_append] at this;omega
  refine ⟨l10,rfl,⟨_,SqL.of n10.at_⟩,qch (D:={ nx:=_,rt:=Q }) (xs:=(qay ks).map tS) (λj σ H'=>∃ (X':qan) (v3 v4 v5 v6:Option V),Same H H'/\H' l10=some (.lst ((qay ks).map tS))/\BkC C_Book C_Roll C_Rule H' b' ⟨(BB 0).ru,(BB 0).rl,le,dm,dr,(BB 0).ps,(BB 0).g,day⟩ fs fg X'/\XOk X'/\X'.map (·.1)=(qay ks).take j/\(∀ p∈X',p.2.2.2.1=rsB (XX 0) p.1 ++ rsB (XX 1) p.1/\qb3 (p.2.2.2.2.map tS)/\∀ m,m∈p.2.2.2.2↔m∈mkB (XX 0) p.1\/m∈mkB (XX 1) p.1)/\(∀ p∈X',H p.2.2.1.dy=none/\H p.2.2.1.dh=none)/\σ=[some (.ref (bs 0)),some (.ref (bs 1)),some (.ref b'),v3,v4,v5,v6]) ⟨[],_,_,_,_,s010,n10.at_,B5.same s510,.nil,rfl,(by intro p h;cases h),(by intro p h;cases h),rfl⟩ (λj σ H' _ ⟨_,_,_,_,_,_,z,_⟩=>SqL.of z) ?_ ?_⟩
  ·rintro j x' σ H4 hxj ⟨X',v3,v4,v5,v6,s4,hl4,B4,xk,nm,en,fr,rfl⟩
   obtain ⟨x,hxs,rfl⟩:∃ x,(qay ks)[j]?=some x/\x'=tS x:=by
    rw[List.getElem?_map] at hxj;obtain ⟨x,e1,e2⟩:=Option.map_eq_some_iff.mp hxj;exact ⟨x,e1,e2.symm⟩
   have hx2:=(mem2 x).mp ((qah _).mem_iff.mp (List.mem_of_getElem? hxs));have hsx:qa4 12 x:=by
    rcases hx2 with z|z
    ·obtain ⟨p,hp,rfl⟩:=List.mem_map.mp z
     exact (TT.go 0 (by decide)).sm p hp
    ·obtain ⟨p,hp,rfl⟩:=List.mem_map.mp z
     exact (TT.go 1 (by decide)).sm p hp
   have tx:∀ {H:Hp},TextV H (tS x):=.inl ⟨x,rfl,by have:=hsx.2.1;omega⟩;have hni:x ∉ X'.map (·.1):=by
    rw[nm];intro z;obtain ⟨i,hi,ei⟩:=List.getElem_of_mem z;rw[List.length_take] at hi;rw[List.getElem_take] at ei;have jl:=(List.getElem?_eq_some_iff.mp hxs).1;have ej:=(List.getElem?_eq_some_iff.mp hxs).2;have:=(List.getElem_inj (xs:=qay ks) (i:=i) (j:=j) (h₀:=by omega) (h₁:=jl) snd).mp (by rw[ei,ej]);omega
   have lX':X'.length<=40:=by
    have:=congrArg List.length nm;rw[List.length_map,List.length_take,(qah _).length_eq] at this;omega
   refine qas ?_;refine qm5 (σ':=[some (.ref (bs 0)),some (.ref (bs 1)),some (.ref b'),some (tS x),v4,v5,v6]) rfl ?_;refine qtu λN hN=>?_
   obtain ⟨hold,ehold⟩:∃ hold:Nat->Bool,hold=λk=>decide (x∈(XX k).map (·.1)):=⟨_,rfl⟩
   refine ⟨_,rfl,_,rfl,qkb (by simp),λtp H5 n5'=>⟨tp,rfl,⟨_,SqT.of n5'.at_⟩,qAi (xs:=[.ref (bs 0),.ref (bs 1)]) (λi ys H'=>Same H5 H'/\ys=((List.range i).filter hold).map λk=>V.ref (bs k)) (qkb (by simp)) ⟨Same.refl _,rfl⟩ (λi ys H' h'=>⟨SqT.of (h'.1 _ _ n5'.at_),by rw[h'.2,List.length_map];exact Nat.le_trans (List.length_filter_le _ _) (by simp)⟩) ?_ ?_⟩⟩
   ·rintro i v ys H6' hi ⟨s6,rfl⟩
    obtain ⟨il,rfl⟩:i<2/\v=.ref (bs i):=by
     match i,hi with
     | 0,h=>cases h;exact ⟨by decide,rfl⟩
     | 1,h=>cases h;exact ⟨by decide,rfl⟩
    have Ai:=(TT.bk i il).same (s4.trans (n5'.same.trans s6));have xi:=(TT.go i il).ln;obtain ⟨dxi,hobi⟩:=Ai.ob;refine qas ⟨_,rfl,_,rfl,bs i,dxi,_,rfl,hobi,bno,bs i,BB i,_,_,_,rfl,Ai,by omega,λln H7' n7'=>?_⟩;refine ⟨ln,_,rfl,.inl (SqL.of n7'.at_),rfl,qvi _,_,rfl,?_⟩;rw[if_neg Bool.false_ne_true,qB3];have e1:decide (x∈qay ((XX i).map (·.1)))=hold i:=by rw[ehold];simp only[(qah _).mem_iff]
    rw[e1,List.range_succ,List.filter_append,List.map_append]
    cases hh:hold i
    ·refine qdy ⟨s6.trans n7'.same,?_⟩
     simp[hh]
    ·refine qdc ⟨_,rfl,s6.trans n7'.same,?_⟩
     simp[hh]
   rintro ys H6' lh ⟨s6,rfl⟩ fh;obtain ⟨hs,ehs⟩:∃ hs,hs=(List.range 2).filter hold:=⟨_,rfl⟩;have hs2:∀ k∈hs,k<2/\x∈(XX k).map (·.1):=λk hk=>by
    rw[ehs] at hk;obtain ⟨a,b⟩:=List.mem_filter.mp hk;rw[ehold] at b;exact ⟨List.mem_range.mp a,of_decide_eq_true b⟩
   have hsl:hs.length<=2:=by rw[ehs];exact Nat.le_trans (List.length_filter_le _ _) (by simp)
   have fmk:∀ k,k<2->k ∉ hs->rowOf (XX k) x=[]:=λk hk hn=>qgr λhx=>hn (by rw[ehs];exact List.mem_filter.mpr ⟨List.mem_range.mpr hk,by rw[ehold];exact decide_eq_true hx⟩)
   show _
   have nh:=qa0 (o:=HO.lst (((List.range [V.ref (bs 0),V.ref (bs 1)].length).filter hold).map λk=>V.ref (bs k))) fh
   generalize upd H6' lh (HO.lst (((List.range [V.ref (bs 0),V.ref (bs 1)].length).filter hold).map λk=>V.ref (bs k)))=H7' at nh ⊢
   have hlh:H7' lh=some (.lst (hs.map λk=>V.ref (bs k))):=by rw[ehs];exact nh.at_
   have s47:Same H4 H7':=n5'.same.trans (s6.trans nh.same);clear nh;refine qas (hN _ _ ?_);refine qm5 (σ':=[some (.ref (bs 0)),some (.ref (bs 1)),some (.ref b'),some (tS x),some (.ref lh),v5,v6]) rfl ?_;refine qtu λN hN=>?_
   refine ⟨Nat.zero_le _,λlm H8' n8'=>qas (hN _ _ ?_)⟩;refine qm5 (σ':=[some (.ref (bs 0)),some (.ref (bs 1)),some (.ref b'),some (tS x),some (.ref lh),some (.ref lm),v6]) rfl ?_;have mkl:∀ k∈hs,(mkB (XX k) x).length<=8:=λk hk=>by
    obtain ⟨k2,hxk⟩:=hs2 k hk;obtain ⟨⟨x1,e1⟩,he1,ex1⟩:=List.mem_map.mp hxk;have ex1:x1=x:=ex1;subst ex1;unfold mkB;rw[qd2 (TT.go k k2).ok he1];have:=((TT.go k k2).mm _ he1).2.2;rw[List.length_map] at this
    simp[(qah _).length_eq]
    exact this
   dsimp only;refine qEz (λσ H'=>Same H7' H'/\H' lm=some (.lst ((hs.flatMap λk=>mkB (XX k) x).map tS))/\∃ v6:Option V,σ=[some (.ref (bs 0)),some (.ref (bs 1)),some (.ref b'),some (tS x),some (.ref lh),some (.ref lm),v6]) (λN' hN'=>?_) ?_
   ·refine ⟨_,rfl,lh,rfl,⟨_,SqL.of (n8'.same _ _ hlh)⟩,qch (D:={ nx:=N',rt:=Q }) (xs:=hs.map λk=>V.ref (bs k)) (λi σ H'=>Same H7' H'/\H' lm=some (.lst (((hs.take i).flatMap λk=>mkB (XX k) x).map tS))/\∃ v6:Option V,σ=[some (.ref (bs 0)),some (.ref (bs 1)),some (.ref b'),some (tS x),some (.ref lh),some (.ref lm),v6]) ⟨n8'.same,n8'.at_,_,rfl⟩ (λi σ H' _ h'=>SqL.of (h'.1 _ _ hlh)) ?_ ?_⟩
    ·rintro i v σ H9' hvi ⟨s9,hlm9,w6,rfl⟩
     rw[List.getElem?_map] at hvi;obtain ⟨k,hki,rfl⟩:=Option.map_eq_some_iff.mp hvi;obtain ⟨k2,hxk⟩:=hs2 k (List.mem_of_getElem? hki);obtain ⟨⟨x1,e1⟩,he1,ex1⟩:=List.mem_map.mp hxk;have ex1:x1=x:=ex1;subst ex1;have Ak:=(TT.bk k k2).same (s4.trans (s47.trans s9));obtain ⟨dxk,hobk⟩:=Ak.ob;have inx:qfp (XX k) (tS x1):=⟨x1,rfl,hsx,hxk⟩;refine qas (qm5 (σ':=[some (.ref (bs 0)),some (.ref (bs 1)),some (.ref b'),some (tS x1),some (.ref lh),some (.ref lm),some (.ref (bs k))]) rfl ?_);refine ⟨_,rfl,.inl ⟨rfl,_,SqL.of hlm9⟩,_,rfl,bs k,dxk,_,rfl,hobk,bno,_,rfl,bs k,BB k,_,_,_,tS x1,rfl,Ak,tx,λy e' ey hy hm l H10' s10' f10 h10=>?_,λz=>absurd inx z⟩;have ey:=qbk ey;subst ey;have emk:mkB (XX k) x1=qay e'.2.2.2:=by
      unfold mkB;rw[qd2 (TT.go k k2).ok hm]
      simp
     have hb:=qth (f:=λk=>mkB (XX k) x1) (n:=8) (l:=hs.take i) λk hk=>mkl k (List.mem_of_mem_take hk)
     have hb2:=mkl k (List.mem_of_getElem? hki);rw[emk] at hb2;have hil:(hs.take i).length<=2:=by rw[List.length_take];omega
     refine ⟨lm,l,_,_,rfl,rfl,s10' _ _ hlm9,h10,qkb (by rw[List.length_map,List.length_map];omega),λH11' b11 h11=>⟨b11.same (s9.trans s10') n8'.fresh,?_,_,rfl⟩⟩;rw[h11,qgi _ i _ hki,List.flatMap_append,List.map_append]
     simp[emk]
    ·rintro σ H9' ⟨s9,hlm9,w6,rfl⟩
     rw[List.length_map,List.take_length] at hlm9;exact hN' _ _ ⟨s9,hlm9,w6,rfl⟩
   rintro σ H9' ⟨s9,hlm9,w6,rfl⟩;refine qtu λN hN=>?_
   have two:∀ {β:Type} (f:Nat->List β),(∀ k,k<2->k ∉ hs->f k=[])->hs.flatMap f=f 0 ++ f 1:=fun {β} f h=>by rw[ehs] at h ⊢;exact two_flat hold f h
   have emm:=two (λk=>mkB (XX k) x) λk hk hn=>by unfold mkB;rw[fmk k hk hn];rfl
   have mml:=qth (f:=λk=>mkB (XX k) x) (n:=8) (l:=hs) mkl;rw[emm] at hlm9 mml;obtain ⟨mm,em⟩:∃ mm,mm=mkB (XX 0) x ++ mkB (XX 1) x:=⟨_,rfl⟩;have mml2:mm.length<=16:=by rw[em];omega
   rw[<- em] at hlm9;have s49:=s47.trans s9;have B9:=B4.same s49;obtain ⟨dx',hob'⟩:=B9.ob;have hm9:H9' lm=some (.lst ((mm.map S).map V.str)):=by rw[hlm9,List.map_map];rfl
   refine ⟨_,rfl,b',dx',_,rfl,hob',bno,_,rfl,_,rfl,lm,mm.map S,rfl,SqL.of hm9,by rw[List.length_map];omega,λa10 H10' n10'=>?_⟩;refine ⟨a10,mm,rfl,n10'.at_,by omega,λms l11 H11' nd11 mem11 n11=>?_⟩;have s411:=s49.trans (n10'.same.trans n11.same);have s011:=s4.trans s411;have B11:=B4.same s411;have memm:∀ m,m∈ms↔m∈mkB (XX 0) x\/m∈mkB (XX 1) x:=λm=>by rw[mem11 m,em,List.mem_append]
   have sm8:∀ k,k<2->∀ m∈mkB (XX k) x,qa4 8 m:=λk k2 m hm=>by
    by_cases hxk:x∈(XX k).map (·.1)
    ·obtain ⟨⟨x1,e1⟩,he1,ex1⟩:=List.mem_map.mp hxk
     have ex1:x1=x:=ex1;subst ex1;unfold mkB at hm;rw[qd2 (TT.go k k2).ok he1] at hm;have hm2:m∈e1.2.2.2:=by simpa [(qah _).mem_iff] using hm
     have:=((TT.go k k2).mm _ he1).1 (tS m) (List.mem_map.mpr ⟨m,hm2,rfl⟩);rw[qc8] at this;exact of_decide_eq_true this
    ·unfold mkB at hm
     rw[qgr hxk] at hm;cases hm
   have smm:∀ m∈ms,qa4 8 m:=λm hm=>((memm m).mp hm).elim (sm8 0 (by decide) m) (sm8 1 (by decide) m)
   have msl:ms.length<=16:=Nat.le_trans (qot nd11 λm hm=>(mem11 m).mp hm) mml2;have okm:ms.length<=8->qb3 ((qay ms).map tS):=λh8=>by
    refine qi7 (qah _) ⟨λv hv=>?_,?_,?_⟩
    ·obtain ⟨m,hm,rfl⟩:=List.mem_map.mp hv
     show qcg 8 (.str (S m))=true
     rw[qc8];exact decide_eq_true (smm m hm)
    ·exact List.Pairwise.map _ (λa b n e=>n (qbk e)) nd11
    ·rw[List.length_map];exact h8
   refine ⟨b',_,fs,fg,X',tS x,.ref l11,_,rfl,B11,tx,.inr ⟨l11,rfl,n11.at_⟩,λu hu=>?_,by rw[List.length_map,(qah _).length_eq];omega,by omega,λz=>?_,λ_ z H' s'=>qM ?_ H' (s011.trans s'),λy2 ms2 ey2 hy2 hn2 eu ok ro c H12' b12 c1 c2 B12 _=>hN _ _ ?_⟩
   ·obtain ⟨m,hm',rfl⟩:=List.mem_map.mp hu
    have:=smm m ((qah _).mem_iff.mp hm');exact .inl ⟨m,rfl,by have:=this.2.1;omega⟩
   ·rcases z with z|⟨y,e,_,hy'⟩
    ·rw[qc8,decide_eq_true hsx] at z;cases z
    ·exact absurd (qbk e ▸ hy') hni
   ·refine ⟨x,?_⟩
    have h8:¬ ms.length<=8:=λh=>z (okm h)
    have:=qot nd11 λm hm=>(qe1 (mkB (XX 0) x ++ mkB (XX 1) x) m).mpr (List.mem_append.mpr ((memm m).mp hm))
    omega
   have ey2:=qbk ey2;subst ey2;have ems:qay ms=ms2:=qtd eu;have s012:Same H H12':=λz o e=>b12 _ _ (s011 _ _ e) (qac e g3) (qac e g4)
   obtain ⟨km,hkm,_⟩:=B11.ms;obtain ⟨kr,hkr,_⟩:=B11.rs;have kp12:∀ {z:Addr} {o:HO},H11' z=some o->(∀ k,o≠.dK k)->H12' z=some o:=λe n=>b12 _ _ e (qap e hkm (n _)) (qap e hkr (n _))
   have hlh12:H12' lh=some (.lst (hs.map λk=>V.ref (bs k))):=kp12 (n11.same _ _ (n10'.same _ _ (s9 _ _ hlh))) (by intro k z;cases z);have hl12:H12' l10=some (.lst ((qay ks).map tS)):=kp12 (s411 _ _ hl4) (by intro k z;cases z);have g5:H c.dy=none:=s011.free c1;have g6:H c.dh=none:=s011.free c2;have xkk:∀ rs:List Rd3,XOk (X' ++ [(x,(ro,c,rs,ms2))]):=λrs=>by
    unfold XOk;rw[List.pairwise_append];refine ⟨xk,by simp,λp hp p' hp'=>?_⟩;rw[List.mem_singleton.mp hp'];obtain ⟨⟨Y,hY⟩,⟨Z,hZ⟩⟩:=B11.dicts (x:=p.1) (e:=p.2) hp;exact ⟨λe=>hni (List.mem_map.mpr ⟨p,hp,e⟩),qac hY c1,qac hY c2,qac hZ c1,qac hZ c2⟩
   refine ⟨_,rfl,lh,rfl,⟨_,SqL.of hlh12⟩,qch (D:={ nx:=_,rt:=Q }) (xs:=hs.map λk=>V.ref (bs k)) (λi σ H'=>Same H H'/\H' lh=some (.lst (hs.map λk=>V.ref (bs k)))/\H' l10=some (.lst ((qay ks).map tS))/\BkC C_Book C_Roll C_Rule H' b' ⟨(BB 0).ru,(BB 0).rl,le,dm,dr,(BB 0).ps,(BB 0).g,day⟩ fs fg (X' ++ [(x,(ro,c,(hs.take i).flatMap (λk=>rsB (XX k) x),ms2))])/\∃ w6:Option V,σ=[some (.ref (bs 0)),some (.ref (bs 1)),some (.ref b'),some (tS x),some (.ref lh),some (.ref lm),w6]) ⟨s012,hlh12,hl12,B12,_,rfl⟩ (λi σ H' _ h'=>SqL.of h'.2.1) ?_ ?_⟩
   ·rintro i v σ H13' hvi ⟨s13',hlh13,hl13,B13,u6,rfl⟩
    rw[List.getElem?_map] at hvi;obtain ⟨k,hki,rfl⟩:=Option.map_eq_some_iff.mp hvi;have il:=(List.getElem?_eq_some_iff.mp hki).1;obtain ⟨k2,hxk⟩:=hs2 k (List.mem_of_getElem? hki);have Ak:=(TT.bk k k2).same s13';obtain ⟨dxk,hobk⟩:=Ak.ob;have inxk:qfp (XX k) (tS x):=⟨x,rfl,hsx,hxk⟩;obtain ⟨dx13,hob13⟩:=B13.ob;obtain ⟨R0,eR0⟩:∃ R0,R0=(hs.take i).flatMap λk=>rsB (XX k) x:=⟨_,rfl⟩
    rw[<- eR0] at B13;have m13:(x,((ro,c,R0,ms2):RC))∈X' ++ [(x,((ro,c,R0,ms2):RC))]:=List.mem_append_right _ (List.mem_singleton.mpr rfl);have inx13:qfp (X' ++ [(x,((ro,c,R0,ms2):RC))]) (tS x):=⟨x,rfl,hsx,List.mem_map.mpr ⟨_,m13,rfl⟩⟩;refine qas (qm5 (σ':=[some (.ref (bs 0)),some (.ref (bs 1)),some (.ref b'),some (tS x),some (.ref lh),some (.ref lm),some (.ref (bs k))]) rfl ?_);refine ⟨_,rfl,b',dx13,_,rfl,hob13,bno,_,rfl,b',_,fs,fg,_,tS x,rfl,B13,tx,λy3 e3 ey3 hy3 hm3 re3 H14' s14'=>?_,λz=>absurd inx13 z⟩;have ey3:=qbk ey3;subst ey3;have ee3:=(xkk R0).one hm3 m13;subst ee3;obtain ⟨LY6,LZ6,N6⟩:=re3.ex;have N7:=N6.same s14';obtain ⟨dxo,hro⟩:=N7.R.obj;refine ⟨ro,dxo,_,rfl,hro,qdk _ _ _ _ _ (by decide +kernel) (by decide +kernel) (by decide +kernel) (by decide +kernel) (by decide +kernel),_,rfl,bs k,dxk,_,rfl,s14' _ _ hobk,bno,_,rfl,bs k,BB k,_,_,_,tS x,rfl,Ak.same s14',tx,λy4 e4 ey4 hy4 hm4 re4 H15' s15'=>?_,λz=>absurd inxk z⟩;have ey4:=qbk ey4;subst ey4;obtain ⟨LY4,LZ4,R4⟩:=re4.ex;simp only[qig,List.cons_append,List.nil_append,List.append_nil];have N8:=N7.same s15';have ersk:rsB (XX k) x=e4.2.2.1:=by
     unfold rsB;rw[qd2 (TT.go k k2).ok hm4]
     simp
    have e5:(hs.take (i+1)).flatMap (λk=>rsB (XX k) x)=R0 ++ e4.2.2.1:=by
     rw[qgi _ i _ hki,List.flatMap_append,<- eR0,<- ersk]
     simp
    have kn4:KN (R0 ++ e4.2.2.1):=by
     have full:=two (λk=>rsB (XX k) x) λk hk hn=>by unfold rsB;rw[fmk k hk hn];rfl
     have k0:=TT.kn x;rw[<- full] at k0;rw[<- e5];refine k0.sub (λr hr=>?_) ?_
     ·obtain ⟨j,hj,hr⟩:=List.mem_flatMap.mp hr
      exact List.mem_flatMap.mpr ⟨j,List.mem_of_mem_take hj,hr⟩
     ·have k1:=k0.1
      rw[<- List.take_append_drop (i+1) hs,List.flatMap_append,List.length_append] at k1;omega
    obtain ⟨⟨Yo,hYo⟩,⟨Zo,hZo⟩⟩:=(TT.bk k k2).dicts hm4;refine (R4.same s15').poured N8 kn4 (wW k k2) (LL k k2) ⟨qac hYo g5,qac hYo g6,qac hZo g5,qac hZo g6⟩ λLY9 LZ9 H16' R16 b16=>?_
    have s68:=s14'.trans s15';obtain ⟨⟨Y8,hY8⟩,⟨Z8,hZ8⟩⟩:=N8.R.dicts;have B16:=(B13.same s68).set (xkk R0) m13 b16 hY8 hZ8 (rs:=R0 ++ e4.2.2.1) ⟨⟨_,_,R16⟩,re3.ru,re3.rl,kn4⟩;rw[qp8 hni] at B16;refine ⟨λz o e=>b16 _ _ (s68 _ _ (s13' _ _ e)) (qac e g5) (qac e g6),b16.keep hY8 hZ8 (s68 _ _ hlh13) (by intro K z;cases z),b16.keep hY8 hZ8 (s68 _ _ hl13) (by intro K z;cases z),?_,_,rfl⟩;rw[e5];exact B16
   ·rintro σ H13' ⟨s13',_,hl13,B13,u6,rfl⟩
    rw[List.length_map,List.take_length] at B13;refine ⟨_,_,_,_,_,s13',hl13,B13,xkk _,?_,λp hp=>?_,λp hp=>?_,rfl⟩
    ·rw[List.map_append,nm,List.take_add_one,hxs];rfl
    ·rcases List.mem_append.mp hp with z|z
     ·exact en p z
     ·rw[List.mem_singleton.mp z]
      refine ⟨two (λk=>rsB (XX k) x) λk hk hn=>by unfold rsB;rw[fmk k hk hn];rfl,by rw[<- ems];exact ok,λm=>?_⟩;rw[<- ems,(qah _).mem_iff];exact memm m
    ·rcases List.mem_append.mp hp with z|z
     ·exact fr p z
     ·rw[List.mem_singleton.mp z];exact ⟨g5,g6⟩
  ·rintro σ H11 ⟨X',v3,v4,v5,v6,s11,_,B11,xk,nm,en,fr,rfl⟩
   refine hN _ _ ?_;rw[List.length_map,List.take_length] at nm;refine ⟨_,rfl,q b' le dm dr X' fs fg H11 eU B11 xk ⟨by rw[nm];exact snd,λx=>?_,λp hp=>(en p hp).1,λp hp=>(en p hp).2⟩ fr s11 g1 g2 g3 g4⟩;rw[nm,(qah _).mem_iff];exact mem2 x
include T in
theorem qmj:qbe P w K mg base 1 "most_cells" ["step", "behind"] qsc:=by
 obtain ⟨f,fd,F,hm⟩:=T.f_most_cells;have nd:=sc_most_cells.nd;refine F.def_ hm (F.ok sc_most_cells (λvs H Q E h=>?_) (λcdv A outer s H vs Q E hr h=>?_)) (F.binds λ_ _ _ _ _ _ us hl=>by obtain ⟨_,_,rfl⟩:=L2.lq2 hl;rfl)
 ·obtain ⟨x,y,p,e,rfl,_⟩:=h;rfl
 ·obtain ⟨x,y,p,e,rfl,⟨a,rfl,ha⟩,⟨b,rfl,hb⟩,h1,h2,q⟩:=h
  refine ⟨_,(qae (qai (qak qnj (qak qgw (qak qa9 (qak qgw (jT (pv 1) qab) (jT (pv 0) qab)) (jT (pv 1) qab)) qab) (jT (pv 0) qab)))),?_⟩;exact ⟨_,rfl,b,_,0,_,rfl,rfl,SqT.of hb,rfl,_,rfl,a,_,0,_,rfl,rfl,SqT.of ha,rfl,_,_,rfl,rfl,_,rfl,b,_,1,_,rfl,rfl,SqT.of hb,rfl,_,_,rfl,rfl,_,_,rfl,rfl,_,rfl,a,_,1,_,rfl,rfl,SqT.of ha,rfl,_,_,rfl,rfl,⟨by show 0<p.2;omega,by show p.2<10 ^ 100;omega⟩,q⟩
include T in
theorem qib:qdh P w K mg base C_Rule 2 "room" ["self"] (qsd C_Rule):=by
 obtain ⟨f,fd,F,hm⟩:=T.f_Rule_room;have nd:=sc_Rule_room.nd;refine ⟨f,fd,(F.ok sc_Rule_room (λvs H Q E h=>?_) (λcdv A outer s H vs Q E hr h=>?_)),hm,(F.binds λ_ _ _ _ _ _ us hl=>by obtain ⟨_,rfl⟩:=L2.lq1 hl;rfl)⟩
 ·obtain ⟨r,l,ps,g,rfl,_⟩:=h;rfl
 ·obtain ⟨r,l,ps,g,rfl,R,Pg,q⟩:=h
  obtain ⟨dx,hob⟩:=R.ob;obtain ⟨xs,hl,hx⟩:=R.ls;obtain ⟨p,hp,ep⟩:=Pg.last;obtain ⟨v,hv,a,rfl,ha⟩:=hx.get' hp;have hlen:=hx.length;have g1:=Pg.good.lo;have g5:=Pg.good.hi;refine ⟨_,(jB3 (qbd (jC qeq (qaw (pv 0) rfl) qbr) (qae (qai qbr)) qao) (jS 1 nd (qak qmw (qdx qji (qaw (pv 0) rfl) (qee qab) qg0) (qc1 (jA1 (qbn (jA2 (qaw (pv 0) rfl) (jT (jI (qaw (pv 0) rfl) (qjb qep qab)) qab))))))) (qai (qag (qex rfl) rfl T.b_sum qks (jA1 (qgh (vars:=[ "step", "behind" ]) (frees:=[]) (fv:=[]) rfl (jL0 rfl) trivial (qnl rfl T.b_zip (jA2 (qaw (pv 0) rfl) (pv 1))) (qdi (by decide) (by decide)) (λ_ _ _ _=>(jG2 (jM 0 [ "step", "behind" ]) (jM 1 [ "step", "behind" ]))) (λ_ _ _ _=>qbc) (λ_ _ _ _=>(jF (qmj T) hr (jA2 (pv 0) (pv 1))))))))),?_⟩
  cases g with
  | none=>exact ⟨_,rfl,r,C_Rule,dx,_,_,rfl,hob,T.cl_Rule,T.na_Rule_gone_age,qu0 _ _,rfl,_,rfl,qdc (q H (Same.refl _))⟩
  | some z =>
   refine ⟨_,rfl,r,C_Rule,dx,_,_,rfl,hob,T.cl_Rule,T.na_Rule_gone_age,qu0 _ _,rfl,_,rfl,qdy ?_⟩;refine ⟨_,rfl,r,C_Rule,dx,_,_,rfl,hob,T.cl_Rule,T.na_Rule_kept_steps,qla _ _,_,rfl,l,xs,rfl,SqL.of hl,λl1 H1 n1=>?_⟩;refine ⟨_,rfl,r,C_Rule,dx,_,_,rfl,n1.same _ _ hob,T.cl_Rule,T.na_Rule_gone_age,qu0 _ _,_,rfl,r,C_Rule,dx,_,_,rfl,n1.same _ _ hob,T.cl_Rule,T.na_Rule_kept_steps,qla _ _,_,rfl,l,xs,-1,_,rfl,rfl,SqL.of (n1.same _ _ hl),qhe (by rw[hlen];exact hv),a,_,1,_,rfl,rfl,SqT.of (n1.same _ _ ha),rfl,by show 2<=sizeLine;decide,λt H2 n2=>⟨by show 1<=sizeLine;decide,λl2 H3 n3=>?_⟩⟩;have hcut:(qkm xs (some 1) none).length<=xs.length:=qef _ _ _;refine ⟨l1,l2,_,_,rfl,rfl,n3.same _ _ (n2.same _ _ n1.at_),n3.at_,Nat.le_of_lt (qau (by simp only[List.length_singleton];omega)),λen H4 n4=>?_⟩;have s4:Same H H4:=n1.same.trans (n2.same.trans (n3.same.trans n4.same));have pe:Pairs H4 (qkm xs (some 1) none ++ [.ref t]) (qb0 ps z):=by
    unfold qb0;rw[qDh,qjt hp];exact Pairs.snoc (p:=(z,p.2)) ⟨t,rfl,n4.same _ _ (n3.same _ _ n2.at_)⟩ ((hx.same s4).drop 1)
   have hle:=pe.length;rw[qgn g1] at hle;refine ⟨_,rfl,r,C_Rule,dx,_,_,rfl,s4 _ _ hob,T.cl_Rule,T.na_Rule_kept_steps,qla _ _,_,rfl,l,en,xs,_,rfl,SqL.of (s4 _ _ hl),SqL.of n4.at_,qse (xs:=xs) (λi ys H5=>Same H4 H5/\ys=((qij ps z).take i).map V.int) (Nat.le_of_lt (qau (by omega))) ⟨Same.refl _,rfl⟩ (λi ys H5 h5=>⟨SqL.of (h5.1 _ _ (s4 _ _ hl)),SqL.of (h5.1 _ _ n4.at_),by rw[h5.2];simp;omega⟩) ?_ ?_⟩
   ·rintro i x y zs H5 p5 H6 hxi hyi n6 ⟨s5,rfl⟩
    obtain ⟨p1,hp1,hx1⟩:=hx.get hxi;obtain ⟨e1,he1,hy1⟩:=pe.get hyi;have hs:=Pg.size i p1 hp1;have s6:Same H4 H6:=s5.trans n6.same;refine ⟨p5,_,rfl,SqT.of n6.at_,rfl,_,_,rfl,_,_,rfl,rfl,qqc (qdc ?_)⟩;exact ⟨_,rfl,_,rfl,x,y,p1,e1,rfl,hx1.same (s4.trans s6),hy1.same s6,hs.2.2.1,hs.2.2.2,s6,(qCh _ _ i _ (qjy hp1 he1)).symm⟩
   ·rintro i zs H5 p5 H6 hi ⟨s5,rfl⟩ n6
    have e:(qij ps z).take i=qij ps z:=List.take_of_length_le (by rw[qe3 g1,hi,hle];omega);rw[e] at n6;exact ⟨p5,qij ps z,rfl,SqL.of n6.at_,q _ (s4.trans (s5.trans n6.same))⟩
inductive qmk (K:Frag) (vs:List V) (H:Hp) (Q:VK) (E_:XK):Prop
 | mk:∀ (a:Addr) (ns:List Int) (k:Int),vs=[.ref a,.int k]->SqL K H a (ns.map V.int)->0<=k->Q (.int (ns[k.toNat]?.getD 0)) H->qmk K vs H Q E_
include T in
theorem qb4:qbe P w K mg base 1 "_law_cell_at" ["_law_script", "_law_k"] (qmk K):=by
 obtain ⟨f,fd,F,hm⟩:=T.f__law_cell_at;have nd:=sc__law_cell_at.nd;refine F.def_ hm (F.ok sc__law_cell_at (λvs H Q E h=>?_) (λcdv A outer s H vs Q E hr h=>?_)) (F.binds λ_ _ _ _ _ _ us hl=>by obtain ⟨_,_,rfl⟩:=L2.lq2 hl;rfl)
 ·obtain ⟨a,ns,k,rfl,_⟩:=h;rfl
 ·obtain ⟨a,ns,k,rfl,hS,h0,q⟩:=h
  refine ⟨_,(jB2 (qbd (jC qif (pv 1) (qag qal rfl T.b_len qbw (jA1 (pv 0)))) (qae (qai (jI (pv 0) (pv 1)))) qao) (qai qab)),?_⟩
  walk_at "r"
  refine qmv (λz=>?_) λz=>?_
  ·have z':k<ns.length:=by simpa using z
   have hk:k.toNat<ns.length:=by omega
   have hi:atI (ns.map V.int) k=some (.int ns[k.toNat]):=by
    have:=qjd (xs:=ns.map V.int) (j:=k.toNat) (v:=V.int ns[k.toNat]) (by simp[hk])
    rwa [Int.toNat_of_nonneg h0] at this
   walk_at "r"
   rw[List.getElem?_eq_getElem hk] at q;exact q
  ·have z':¬ k<ns.length:=by simpa using z
   rw[List.getElem?_eq_none (by omega)] at q;exact q
def qtv (d k:Int):Int:=(d % 2147483629+69621*k+1)*48271 % 2147483629*((d % 2147483629+69621*k+1)*48271 % 2147483629 / 1009+69621) % 2147483629
def qvj:Sp:=λvs H Q _=>∃ d k,vs=[.int d,.int k]/\0<=k/\k<=200/\∀ m,(0<=m/\m=qtv d k)->m<2147483629->Q (.int m) H
include T in
theorem qam:qbe P w K mg base 1 "_law_mixed" ["_law_draw", "_law_k"] qvj:=by
 obtain ⟨f,fd,F,hm⟩:=T.f__law_mixed;have nd:=sc__law_mixed.nd;refine F.def_ hm (F.ok sc__law_mixed (λvs H Q E h=>?_) (λcdv A outer s H vs Q E hr h=>?_)) (F.binds λ_ _ _ _ _ _ us hl=>by obtain ⟨_,_,rfl⟩:=L2.lq2 hl;rfl)
 ·obtain ⟨d,k,rfl,_⟩:=h;rfl
 ·obtain ⟨d,k,rfl,h1,h2,q⟩:=h
  refine ⟨_,(jB2 (jS 2 nd (qak qa8 (qak qim (qak qa9 (qak qa9 (qak qa8 (pv 0) qab) (qak qim qab (pv 1))) qab) qab) qab)) (qai (qak qa8 (qak qim (pv 2) (qak qa9 (qak qmp (pv 2) qab) qab)) qab))),?_⟩;have m1:0<=d % 2147483629/\d % 2147483629<2147483629:=by omega
  walk_at "r"
  exact q _ ⟨by omega,rfl⟩ (by omega)
theorem qDn:(Str.ofString "abcdefghijklmnopqrstuvwxyz")=S [97,98,99,100,101,102,103,104,105,106,107,108,109,110,111,112,113,114,115,116,117,118,119,120,121,122]:=by decide +kernel
theorem qw1 {i:Int} (h0:0<=i) (h1:i<26):∃ c,[97,98,99,100,101,102,103,104,105,106,107,108,109,110,111,112,113,114,115,116,117,118,119,120,121,122][i.toNat]?=some c/\(97<=c/\c<=122)/\c=97+i.toNat:=by
 obtain ⟨j,rfl⟩:=Int.eq_ofNat_of_zero_le h0;have hj:j<26:=by omega
 have al:∀ j,j<26->[97,98,99,100,101,102,103,104,105,106,107,108,109,110,111,112,113,114,115,116,117,118,119,120,121,122][j]?=some (97+j):=by decide
 exact ⟨97+j,al j hj,by omega,rfl⟩
theorem join_one:∀ cs:List Nat,qih [] (cs.map λc=>[c])=cs
 | []=>rfl
 | [c]=>rfl
 | c :: d :: cs=>by
  have ih:=join_one (d :: cs)
  show [c] ++ [] ++ qih [] ((d :: cs).map λc=>[c])=_
  rw[ih];rfl
theorem qti:∀ cs:List Nat,((cs.map λc=>[c]).map List.length).sum=cs.length
 | []=>rfl
 | c :: cs=>by
  have ih:=qti cs;simp only[List.map_cons,List.sum_cons,List.length_cons,List.length_nil] at ih ⊢;omega
def ltr (z:Int):Nat:=97+(z % 26).toNat
def qvk (d:Int):List Nat:=(List.range (qtv d 1 % 12).toNat).map λj=>ltr (qtv d (3+(j:Nat)))
def atF (d:Int):Nat:=(qtv d 2 % (qtv d 1 % 12+1)).toNat
def nmF (d k:Int):List Nat:=(qvk d).take (atF d) ++ [ltr (d+5*k)] ++ (qvk d).drop (atF d)
theorem qDo {d k l:Int} (h:k≠l) (h1:k<l+26) (h2:l<k+26):nmF d k≠nmF d l:=λe=>by
 unfold nmF at e;rw[List.append_assoc,List.append_assoc] at e;have e2:=List.append_cancel_left e;have e3:ltr (d+5*k)=ltr (d+5*l):=by injection e2
 unfold ltr at e3;have n1:=Int.emod_nonneg (d+5*k) (show (26:Int)≠0 by decide);have n2:=Int.emod_nonneg (d+5*l) (show (26:Int)≠0 by decide);have e4:(d+5*k) % 26=(d+5*l) % 26:=by omega
 omega
def qp9:Sp:=λvs H Q _=>∃ d k,vs=[.int d,.int k]/\∀ H',Same H H'->qa4 12 (nmF d k)->Q (.str (S (nmF d k))) H'
include T in
theorem qm7:qbe P w K mg base 2 "_law_name" ["_law_draw", "_law_k"] qp9:=by
 obtain ⟨f,fd,F,hm⟩:=T.f__law_name;have nd:=sc__law_name.nd;refine F.def_ hm (F.ok sc__law_name (λvs H Q E h=>?_) (λcdv A outer s H vs Q E hr h=>?_)) (F.binds λ_ _ _ _ _ _ us hl=>by obtain ⟨_,_,rfl⟩:=L2.lq2 hl;rfl)
 ·obtain ⟨d,k,rfl,_⟩:=h;rfl
 ·obtain ⟨d,k,rfl,q⟩:=h
  refine ⟨_,(jB5 (qqj (i:=2) nd rfl (Or.inr rfl) qel) (jS 3 nd (qak qa8 (jF (qam T) hr (jA2 (pv 0) qab)) qab)) (jS 4 nd (qxn PySem.F.plainAttrs_str PySem.F.slot_str_join PySem.F.type_str_join qyb qel (jA1 (qgh (vars:=[ "_law_j" ]) (frees:=[ "_law_some", "_law_draw" ]) (fv:=[2,0]) rfl (jL2 rfl) ⟨⟨rfl,.inl rfl,rfl,.inl rfl⟩,⟨⟨rfl,.inl rfl,rfl,.inl rfl⟩,trivial⟩⟩ (qeo rfl T.b_range (jA1 (pv 3))) (qc0 (by decide)) (λ_ _ _ _=>(jM 0 [ "_law_j", "_law_some", "_law_draw" ])) (λ_ _ _ _=>qbc) (λ_ _ _ _=>(qv9 (pv 1) (qak qa8 (jF (qam T) hr (jA2 (pv 2) (qak qa9 qab (pv 0)))) qab) (λ_ _=>rfl))))))) (jS 5 nd (qak qa8 (jF (qam T) hr (jA2 (pv 0) qab)) (qak qa9 (pv 3) qab))) (qai (qak qin (qak qin (qdx qv8 (pv 4) qg0 (qee (pv 5))) (qv9 (pv 2) (qak qa8 (qak qa9 (pv 0) (qak qim qab (pv 1))) qab) (λ_ _=>rfl))) (qdx qv8 (pv 4) (qee (pv 5)) qg0)))),?_⟩;rw[qDn]
  walk_at "r"
  intro m m0 m1
  walk_at "r"
  have m12:0<=m % 12/\m % 12<12:=by omega
  refine qlc (n:=(m % 12).toNat) (λi ys H2=>Same H H2/\∃ cs:List Nat,cs.length=i/\((∀ c∈cs,97<=c/\c<=122)/\cs=(List.range i).map λj=>ltr (qtv d (3+(j:Nat))))/\ys=cs.map λc=>V.str (S [c])) (qkb (by omega)) ⟨Same.refl _,[],rfl,⟨by simp,rfl⟩,rfl⟩ (λi ys H2 h2=>by obtain ⟨_,cs,h3,_,h4⟩:=h2;rw[h4,List.length_map,h3];exact Nat.le_refl _) ?_ ?_
  ·rintro i ys H2 hi ⟨s2,cs,hl,⟨hc,hcs⟩,rfl⟩
   refine qas (qqc (qdc ?_))
   walk_at "r"
   intro a a0 a1;have a26:0<=a % 26/\a % 26<26:=by omega
   obtain ⟨c,hca,hcb,hcc⟩:=qw1 a26.1 a26.2
   walk_at "r"
   refine ⟨_,_,c,rfl,rfl,a26.1,by omega,hca,?_⟩;refine ⟨s2,cs ++ [c],by simp[hl],⟨λx hx=>?_,?_⟩,by simp⟩
   case refine_2 =>
    rw[List.range_succ,List.map_append,<- hcs,hcc,a0.2,List.map_singleton,Int.zero_add];rfl
   rcases List.mem_append.mp hx with z|z
   ·exact hc x z
   ·rw[List.mem_singleton.mp z];exact hcb
  ·rintro ys H2 p H3 ⟨s2,cs,hl,⟨hc,hcs⟩,rfl⟩ n3
   rw[qza];have e3:H3 p=some (.lst ((cs.map λc=>[c]).map λq=>V.str (S q))):=by rw[List.map_map];exact n3.at_
   refine ⟨[],cs.map λc=>[c],p,rfl,rfl,SqL.of e3,by rw[qti];simp;omega,?_⟩;rw[join_one];have s3:=s2.trans n3.same
   walk_at "r"
   intro b b0 b1;obtain ⟨j,hj⟩:=Int.eq_ofNat_of_zero_le (Int.emod_nonneg b (show (m % 12+1)≠0 by omega));have hj1:=Int.emod_lt_of_pos b (show (0:Int)<m % 12+1 by omega);rw[hj] at hj1;have lj:j<=cs.length:=by omega
   have lc8:cs.length<=11:=by omega
   have d26:0<=(d+5*k) % 26/\(d+5*k) % 26<26:=by omega
   obtain ⟨c,hca,hcb,hcc⟩:=qw1 d26.1 d26.2
   walk_at "r"
   rw[hj,qx9 cs lj];refine ⟨qkb (by rw[qd4,List.length_take];omega),?_⟩
   walk_at "r"
   refine ⟨_,_,c,rfl,rfl,d26.1,by omega,hca,?_⟩
   walk_at "r"
   refine ⟨qkb (by rw[qd4,qd4,List.length_take];simp;omega),?_⟩;rw[qAu]
   walk_at "r"
   rw[qya cs j];refine ⟨qkb (by rw[qd4,List.length_drop];omega),?_⟩
   walk_at "r"
   refine ⟨qkb (by rw[qd4,qd4];simp;omega),?_⟩;rw[qAu];have eb:cs=qvk d:=by rw[hcs];unfold qvk;rw[<- m0.2]
   have ej:j=atF d:=by unfold atF;rw[<- m0.2,<- b0.2,hj];rfl
   have ec:c=ltr (d+5*k):=hcc;have en:cs.take j ++ [c] ++ cs.drop j=nmF d k:=by unfold nmF;rw[<- eb,<- ej,<- ec]
   have sw:qa4 12 (cs.take j ++ [c] ++ cs.drop j):=⟨by simp;omega,by simp;omega,λx hx=>by
    rcases List.mem_append.mp hx with z|z
    ·rcases List.mem_append.mp z with z|z
     ·exact hc x (List.mem_of_mem_take z)
     ·rw[List.mem_singleton.mp z];exact hcb
    ·exact hc x (List.mem_of_mem_drop z)⟩
   rw[en] at sw ⊢;exact q _ s3 sw
theorem qkc {F:St->Hp->Prop} {σ σ':St} {H:Hp} (e:σ=σ') (h:F σ' H):F σ H:=e ▸ h
structure PrB (ps:List (Int×Int)) (g:Option Int):Prop where
 P:Pr ps g
 b:∀ p∈ps,p.1<10 ^ 23/\p.2<=3072
 gb:∀ z,g=some z->z<10 ^ 23
theorem PrB.wb {ps:List (Int×Int)} {g:Option Int} (h:PrB ps g):∀ p∈ps,p.2<=10 ^ 35:=λp hp=>Int.le_trans (h.b p hp).2 (by decide)
def wB:Nat->Int
 | 0=>3
 | n+1=>4*wB n
structure Chn (qs:List (Int×Int)) (age width:Int):Prop where
 each:∀ (i:Nat) p,qs[i]?=some p->(0<=p.1/\p.1<10 ^ 23)/\1<=p.2/\p.2<=3072
 next:∀ (i:Nat) p q,qs[i]?=some p->qs[i+1]?=some q->p.1<=q.1/\q.2 % p.2=0
 last:∀ p,qs[qs.length-1]?=some p->p.1<=age/\width % p.2=0
theorem Chn.nil (a w:Int):Chn [] a w:=⟨λi p h=>by simp at h,λi p q h=>by simp at h,λp h=>by simp at h⟩
theorem Chn.snoc {qs:List (Int×Int)} {a w a' k:Int} (h:Chn qs a w) (a0:0<=a) (a1:a<10 ^ 23) (w0:1<=w) (w1:w<=3072) (ha:a<=a'):Chn (qs ++ [(a,w)]) a' (w*k):=by
 refine ⟨λi p e=>?_,λi p q e e'=>?_,λp e=>?_⟩
 ·rw[List.getElem?_append] at e
  split at e
  ·exact h.each i p e
  ·have:p=(a,w):=by
    have:=List.mem_of_getElem? e
    simpa using this
   subst this;exact ⟨⟨a0,a1⟩,w0,w1⟩
 ·rw[List.getElem?_append] at e e'
  split at e'
  ·rw[if_pos (by omega)] at e
   exact h.next i p q e e'
  ·have hq:q=(a,w):=by
    have:=List.mem_of_getElem? e'
    simpa using this
   have h0:i+1-qs.length=0:=by
    have:=(List.getElem?_eq_some_iff.mp e').1
    simp at this
    omega
   rw[if_pos (by omega)] at e;rw[show i=qs.length-1 by omega] at e;subst hq;exact h.last p e
 ·rw[List.length_append,List.length_singleton,Nat.add_sub_cancel,List.getElem?_append_right (Nat.le_refl _),Nat.sub_self] at e
  cases e;exact ⟨ha,Int.mul_emod_right _ _⟩
theorem Chn.pr {qs:List (Int×Int)} {a w:Int} {g:Option Int} (h:Chn qs a w) (h1:1<=qs.length) (h5:qs.length<=5) (hg:∀ z,g=some z->a<=z/\z<10 ^ 23):PrB qs g:=by
 refine ⟨⟨⟨h1,h5,λi p e=>⟨(h.each i p e).1.1,(h.each i p e).2.1⟩,h.next⟩,λi p e=>?_,λp e z ez=>Int.le_trans (h.last p e).1 (hg z ez).1,λz ez=>?_⟩,λp hp=>?_,λz ez=>(hg z ez).2⟩
 ·have:=h.each i p e
  exact ⟨this.1.1,by omega,this.2.1,by omega⟩
 ·have:=hg z ez
  obtain ⟨p,e⟩:∃ p,qs[qs.length-1]?=some p:=⟨_,List.getElem?_eq_getElem (by omega)⟩;have l:=h.last p e;have q:=h.each _ p e;exact ⟨by omega,by omega⟩
 ·obtain ⟨i,hi,e⟩:=List.getElem_of_mem hp
  have:=h.each i p (by rw[<- e];exact List.getElem?_eq_getElem hi);exact ⟨this.1.2,this.2.2⟩
theorem qE0 (m w:Int) (h0:1<=w) (h1:w<=10 ^ 20):∃ z,atI [V.int 1,V.int 1,V.int 10,V.int w] (m % 4)=some (.int z)/\1<=z/\z<=10 ^ 20:=by
 rcases (show m % 4=0\/m % 4=1\/m % 4=2\/m % 4=3 by omega) with e|e|e|e<;>rw[e]
 ·exact ⟨_,rfl,by decide,by decide⟩
 ·exact ⟨_,rfl,by decide,by decide⟩
 ·exact ⟨_,rfl,by decide,by decide⟩
 ·exact ⟨_,rfl,h0,h1⟩
theorem qvl {x k w:Int} (h0:0<=x) (h1:x<=k) (w0:1<=w) (w1:w<=10 ^ 20):0<=x*w/\x*w<=k*10 ^ 20:=
 ⟨Int.mul_nonneg h0 (by omega),Int.mul_le_mul h1 w1 (by omega) (by omega)⟩
theorem qDp {i:Nat} (h:i<=5):wB i<=3072:=by
 rcases (show i=0\/i=1\/i=2\/i=3\/i=4\/i=5 by omega) with rfl|rfl|rfl|rfl|rfl|rfl<;>decide
def qqa:Sp:=λvs H Q _=>∃ d,vs=[.int d]/\∀ t l xs ps g H',Same H H'->H l=none->H' t=some (.tup [.ref l,gv g])->H' l=some (.lst xs)->Pairs H' xs ps->PrB ps g->Q (.ref t) H'
include T in
theorem qm8:qbe P w K mg base 2 "_law_rule" ["_law_draw"] qqa:=by
 obtain ⟨f,fd,F,hm⟩:=T.f__law_rule;have nd:=sc__law_rule.nd;refine F.def_ hm (F.ok sc__law_rule (λvs H Q E h=>?_) (λcdv A outer s H vs Q E hr h=>?_)) (F.binds λ_ _ _ _ _ _ us hl=>by obtain ⟨_,rfl⟩:=L2.lq1 hl;rfl)
 ·obtain ⟨d,rfl,_⟩:=h;rfl
 ·obtain ⟨d,rfl,q⟩:=h
  refine ⟨_,(jB7 (jS 1 nd (jI (qc1 (jA4 qab qab qab (qak qa9 qab (qak qa8 (qak qmp (pv 0) qab) (qak qne qab qab))))) (qak qa8 (jF (qam T) hr (jA2 (pv 0) qab)) qab))) (jS 2 nd (qak qck (qak qa8 (jF (qam T) hr (jA2 (pv 0) qab)) qab) (pv 1))) (jS 3 nd (qak qa9 qab (qak qa8 (jF (qam T) hr (jA2 (pv 0) qab)) qab))) (jS 4 nd (qc1 qes)) (qdb PassesOwn.never rfl (qeo rfl T.b_range (jA1 (qak qa9 qab (qak qa8 (jF (qam T) hr (jA2 (pv 0) qab)) qab)))) (jN 5 nd) (jB3 (qa5 (qxn PySem.F.plainAttrs_list PySem.F.slot_list_append PySem.F.type_list_append qpa (pv 4) (jA1 (qbn (jA2 (pv 2) (pv 3)))))) (jS 2 nd (qak qa9 (pv 2) (qak qck (qak qa8 (jF (qam T) hr (jA2 (pv 0) (qak qa9 qab (qak qim qab (pv 5))))) qab) (pv 1)))) (jS 3 nd (qak qck (pv 3) (qak qa9 qab (qak qa8 (jF (qam T) hr (jA2 (pv 0) (qak qa9 qab (qak qim qab (pv 5))))) qab)))))) (qbd (jC qt1 (qak qa8 (jF (qam T) hr (jA2 (pv 0) qab)) qab) qab) (qae (qai (qbn (jA2 (pv 4) qbr)))) qao) (qai (qbn (jA2 (pv 4) (qak qa9 (pv 2) (qak qck (qak qa8 (jF (qam T) hr (jA2 (pv 0) qab)) qab) (pv 1))))))),?_⟩;have w20:0<=d / 7 % 10 ^ 20/\d / 7 % 10 ^ 20<10 ^ 20:=⟨Int.emod_nonneg _ (by decide),Int.emod_lt_of_pos _ (by decide)⟩
  walk_at "r";intro p0 H0 n0
  walk_at "r";intro m0 m00 m01
  obtain ⟨z,hz,z0,z1⟩:=qE0 m0 (1+d / 7 % 10 ^ 20) (by omega) (by omega);refine ⟨_,_,rfl,rfl,by decide,p0,_,_,_,rfl,rfl,SqL.of n0.at_,hz,qas ?_⟩;refine qkc (σ':=[some (.int d),some (.int z),none,none,none,none]) rfl ?_;refine ⟨_,rfl,d,41,rfl,by decide,by decide,λm1 m10 m11=>?_⟩;have ma:=qvl (x:=m1 % 4) (k:=3) (by omega) (by omega) z0 z1;refine ⟨_,_,rfl,rfl,by decide,_,rfl,_,_,rfl,rfl,⟨⟨by omega,by omega⟩,by omega,by omega⟩,qas ?_⟩
  generalize m1 % 4*z=age0 at ma
  refine qkc (σ':=[some (.int d),some (.int z),some (.int age0),none,none,none]) rfl ?_;refine ⟨_,rfl,d,42,rfl,by decide,by decide,λm2 m20 m21=>?_⟩;refine ⟨_,_,rfl,rfl,by decide,_,_,rfl,rfl,qas ?_⟩;refine qkc (σ':=[some (.int d),some (.int z),some (.int age0),some (.int (1+m2 % 3)),none,none]) rfl ?_;refine ⟨Nat.zero_le _,λl H1 n1=>qas ?_⟩;refine qkc (σ':=[some (.int d),some (.int z),some (.int age0),some (.int (1+m2 % 3)),some (.ref l),none]) rfl ?_;refine ⟨_,rfl,d,43,rfl,by decide,by decide,λm3 m30 m31=>?_⟩;have fl:H l=none:=n0.same.free n1.fresh;refine ⟨_,_,rfl,rfl,by decide,_,_,rfl,rfl,_,rfl,by omega,by omega,qkg (n:=(1+m3 % 5).toNat) (λi σ H2=>Same H H2/\∃ (qs:List (Int×Int)) (xs:List V) (a w':Int) (v5:Option V),H2 l=some (.lst xs)/\Pairs H2 xs qs/\qs.length=i/\Chn qs a w'/\(0<=a/\a<=(3+4*i)*10 ^ 20)/\(1<=w'/\w'<=wB i)/\σ=[some (.int d),some (.int z),some (.int a),some (.int w'),some (.ref l),v5]) ⟨n0.same.trans n1.same,[],[],age0,_,_,n1.at_,.nil,rfl,Chn.nil _ _,⟨ma.1,by have:=ma.2;simpa using this⟩,⟨by omega,by show 1+m2 % 3<=3;omega⟩,rfl⟩ ?_ ?_⟩
  ·rintro i σ H2 hi ⟨s2,qs,xs,a,w',v5,hl,hp,hq,ch,ab,wb,rfl⟩
   rw[Int.zero_add];have i5:i<5:=by omega
   have w5:=qDp (i:=i) (by omega);have xl:=hp.length;refine qas (qkc (σ':=[some (.int d),some (.int z),some (.int a),some (.int w'),some (.ref l),some (.int i)]) rfl ?_);refine ⟨_,rfl,.inl ⟨rfl,_,SqL.of hl⟩,_,rfl,_,rfl,qkb (by simp),λt H3 n3=>?_⟩;refine ⟨l,_,_,rfl,rfl,n3.same _ _ hl,qau (by omega),λH4 b4 h4=>?_⟩;refine ⟨_,rfl,_,rfl,_,rfl,_,_,rfl,rfl,by walk_at "c",_,_,rfl,rfl,d,_,rfl,by omega,by omega,λm4 m40 m41=>?_⟩;have mb:=qvl (x:=m4 % 5) (k:=4) (by omega) (by omega) z0 z1;refine ⟨_,_,rfl,rfl,by decide,_,rfl,_,_,rfl,rfl,⟨⟨by omega,by omega⟩,by omega,by omega⟩,_,_,rfl,rfl,qas ?_⟩
   generalize m4 % 5*z=ad at mb
   refine qkc (σ':=[some (.int d),some (.int z),some (.int (a+ad)),some (.int w'),some (.ref l),some (.int i)]) rfl ?_;refine ⟨_,rfl,_,rfl,_,rfl,_,_,rfl,rfl,by walk_at "c",_,_,rfl,rfl,d,_,rfl,by omega,by omega,λm5 m50 m51=>?_⟩;refine ⟨_,_,rfl,rfl,by decide,_,_,rfl,rfl,_,_,rfl,rfl,⟨⟨by omega,by omega⟩,by omega,by omega⟩,qas ?_⟩;have wn:w'*(1+m5 % 4)<=wB i*4:=Int.mul_le_mul wb.2 (by omega) (by omega) (by omega);have wp:1*1<=w'*(1+m5 % 4):=Int.mul_le_mul wb.1 (by omega) (by omega) (by omega);refine ⟨b4.same (s2.trans n3.same) fl,qs ++ [(a,w')],_,a+ad,w'*(1+m5 % 4),_,h4,?_,by simp[hq],ch.snoc ab.1 (by omega) wb.1 (by omega) (by omega),⟨by omega,by have:=mb.2;omega⟩,⟨by omega,by show _<=4*wB i;omega⟩,rfl⟩;exact ((hp.same n3.same).but b4 (n3.same _ _ hl) qBe).snoc ⟨t,rfl,b4 _ _ n3.at_ (qap n3.at_ (n3.same _ _ hl) (by intro z;cases z))⟩
  ·rintro σ H2 ⟨s2,qs,xs,a,w',v5,hl,hp,hq,ch,ab,wb,rfl⟩
   have n5:1<=qs.length/\qs.length<=5:=by omega
   refine ⟨_,rfl,d,60,rfl,by decide,by decide,λm6 m60 m61=>?_⟩;refine ⟨_,_,rfl,rfl,by decide,rfl,_,rfl,?_⟩;refine qmv (λz=>?_) λz'=>?_
   ·refine ⟨_,rfl,qkb (by simp),λt H3 n3=>?_⟩
    exact q t l xs qs none H3 (s2.trans n3.same) fl n3.at_ (n3.same _ _ hl) (hp.same n3.same) (ch.pr n5.1 n5.2 λz e=>by cases e)
   ·refine ⟨_,rfl,_,rfl,_,rfl,d,61,rfl,by decide,by decide,λm7 m70 m71=>?_⟩
    have mb:=qvl (x:=m7 % 9) (k:=8) (by omega) (by omega) z0 z1;refine ⟨_,_,rfl,rfl,by decide,_,rfl,_,_,rfl,rfl,⟨⟨by omega,by omega⟩,by omega,by omega⟩,_,_,rfl,rfl,qkb (by simp),λt H3 n3=>?_⟩;refine q t l xs qs (some (a+m7 % 9*z)) H3 (s2.trans n3.same) fl n3.at_ (n3.same _ _ hl) (hp.same n3.same) (ch.pr n5.1 n5.2 λy e=>?_);cases e;have:=ab.2;exact ⟨by omega,by omega⟩
noncomputable def qic (cell:Int->Option (Int×Int)) (X:qan):List Int:=(qay (X.map (·.1))).map λx=>((qzo cell (rsB X x):Nat):Int)
noncomputable abbrev qcz (B:BookD) (es:List Int) (ge:Option Int):Int->Option (Int×Int):=qbi (B.ps.map (·.2)) es ge
def qzd (B:BookD) (X:qan):Option Int:=B.g.map λz=>roomOf B.ps z*(X.length:Int)
theorem qfa {X:qan} {x:List Nat} {e:RC} (ok:XOk X) (hx:(x,e)∈X):rsB X x=e.2.2.1:=by
 unfold rsB;rw[qd2 ok hx]
 simp
theorem qtj {X:qan} {i:Nat} {v:V} (h:((qay (X.map (·.1))).map tS)[i]?=some v):∃ x e,(qay (X.map (·.1)))[i]?=some x/\v=tS x/\(x,e)∈X:=by
 rw[List.getElem?_map] at h;obtain ⟨x,hx,rfl⟩:=Option.map_eq_some_iff.mp h;have hm:=(qah _).mem_iff.mp (List.mem_of_getElem? hx);obtain ⟨p,hp,rfl⟩:=List.mem_map.mp hm;exact ⟨p.1,p.2,hx,rfl,hp⟩
theorem qw2 {CR R:Addr} {H:Hp} {r:Addr} {q:qar} {ps:List (Int×Int)} {g:Option Int} {d:Int} {es:List Int} {ge:Option Int} {rs:List Rd3} {LY LZ:List (List Int)} {Q:VK} {E:XK} (h:R63 CR R H r q ps g d es ge rs LY LZ) (k:∀ l xs H',Same H H'->H' l=some (.lst xs)->xs.length=qzo (qbi (ps.map (·.2)) es ge) rs->Q (.ref l) H'):qe5 CR R [.ref r] H Q E:=by
 have lz:=h.lz;refine h.R.heaps (by omega) λl xs qs H' s _ hl tl pq _=>k l xs H' s hl ?_
 rw[tl.length,pq.length_eq]
 rfl
inductive qtk (C CR R:Addr) (vs:List V) (H:Hp) (Q:VK) (E_:XK):Prop
 | mk:∀ (b:Addr) (B:BookD) (es:List Int) (ge:Option Int) (X:qan),vs=[.ref b]->BkC C CR R H b B es ge X->qme X->(∀ p H',Same H H'->H' p=some (.tup [.int (qic (qcz B es ge) X).sum,gv (qzd B X)])->Q (.ref p) H')->qtk C CR R vs H Q E_
include T in
theorem qB4:qbe P w K mg base 5 "size" ["book"] (qtk C_Book C_Roll C_Rule):=by
 obtain ⟨f,fd,F,hm⟩:=T.f_size;have nd:=sc_size.nd;refine F.def_ hm (F.ok sc_size (λvs H Q E h=>?_) (λcdv A outer s H vs Q E hr h=>?_)) (F.binds λ_ _ _ _ _ _ us hl=>by obtain ⟨_,rfl⟩:=L2.lq1 hl;rfl)
 ·obtain ⟨b,B,es,ge,X,rfl,_⟩:=h;rfl
 ·obtain ⟨b,B,es,ge,X,rfl,A',XG,q⟩:=h
  obtain ⟨dx,hob⟩:=A'.ob;have x20:=XG.ln;have nl:(qay (X.map (·.1))).length=X.length:=by rw[(qah _).length_eq,List.length_map]
  refine ⟨_,(jB4 (jS 1 nd (qax (pv 0) T.cl_Book (qbh T) (hr.mono (by decide)))) (jS 2 nd (qag (qex rfl) rfl T.b_sum qks (jA1 (qgh (vars:=[ "name" ]) (frees:=[ "book" ]) (fv:=[0]) rfl (jL1 rfl) ⟨⟨rfl,.inl rfl,rfl,.inl rfl⟩,trivial⟩ (qbb (pv 1)) (qc0 (by decide)) (λ_ _ _ _=>(jM 0 [ "name", "book" ])) (λ_ _ _ _=>qbc) (λ_ _ _ _=>(qag (show CallR _ _ (qBb K) from qal) rfl T.b_len qbw (jA1 (qax (qwf (pv 1) T.cl_Book (qa3 T) (hr.mono (by decide)) .nil (jA1 (pv 0))) T.cl_Roll (qds T) (hr.mono (by decide)))))))))) (jS 3 nd (qax (qax (pv 0) T.cl_Book (qbp T) (hr.mono (by decide))) T.cl_Rule (qib T) (hr.mono (by decide)))) (qai (qbn (jA2 (pv 2) (qnc (jC qeq (pv 3) qbr) qbr (qak qck (pv 3) (qag qal rfl T.b_len qbw (jA1 (pv 1))))))))),?_⟩;refine ⟨_,rfl,b,dx,_,rfl,hob,bno,b,B,es,ge,X,rfl,A',by omega,λl1 H1 n1=>qas ?_⟩;refine qm5 (σ':=[some (.ref b),some (.ref l1),none,none]) rfl ?_;refine ⟨_,rfl,⟨l1,rfl,⟨_,SqL.of n1.at_⟩,qd0 (xs:=(qay (X.map (·.1))).map tS) (λi ys H2=>Same H1 H2/\ys=((qic (qcz B es ge) X).take i).map V.int) (Nat.le_of_lt (qau (by rw[List.length_map];omega))) ⟨Same.refl _,rfl⟩ (λi ys H2 h2=>⟨SqL.of (h2.1 _ _ n1.at_),by rw[h2.2,List.length_map,List.length_take];omega⟩) ?_ ?_⟩⟩
  ·rintro i v ys H2 hi ⟨s2,rfl⟩
   obtain ⟨x,e,hxi,rfl,hm⟩:=qtj hi;have s02:=n1.same.trans s2;have A2:=A'.same s02;refine qas (qqc (qdc ?_));refine ⟨_,rfl,b,dx,_,rfl,s02 _ _ hob,bno,_,rfl,b,B,es,ge,X,tS x,rfl,A2,.small (XG.sm _ hm),λx' e' ev hx' hm' re H3 s3=>?_,λhn=>absurd ⟨x,rfl,XG.sm _ hm,List.mem_map.mpr ⟨_,hm,rfl⟩⟩ hn⟩;have ev:=qbk ev;subst ev;obtain ⟨LY,LZ,r⟩:=re.ex;obtain ⟨dx3,hob3⟩:=(r.same s3).R.obj;refine ⟨e'.1,dx3,_,rfl,hob3,qhk _ _ _ _ _,?_⟩;simp only[qig,List.cons_append,List.nil_append,List.append_nil];refine qw2 (r.same s3) λl4 xs4 H4 s4 hl4 hlen=>?_
   refine ⟨l4,xs4,rfl,.inl (SqL.of hl4),s2.trans (s3.trans s4),?_⟩;have hg:(qic (qcz B es ge) X)[i]?=some ((qzo (qcz B es ge) (rsB X x):Nat):Int):=by unfold qic;rw[List.getElem?_map,hxi];rfl
   rw[qgi _ i _ hg,List.map_append,qfa XG.ok hm',hlen]
   rfl
  ·rintro ys H2 l3 H3 ⟨s2,rfl⟩ n3
   rw[List.take_of_length_le (by unfold qic;rw[List.length_map,List.length_map];omega)] at n3;refine ⟨l3,qic (qcz B es ge) X,rfl,SqL.of n3.at_,qas ?_⟩;have s03:=n1.same.trans (s2.trans n3.same);have s13:=s2.trans n3.same;have A3:=A'.same s03;refine qm5 (σ':=[some (.ref b),some (.ref l1),some (.int (qic (qcz B es ge) X).sum),none]) rfl ?_;obtain ⟨dxr,hru⟩:=A3.rule.ob;refine ⟨_,rfl,b,dx,_,rfl,s03 _ _ hob,bno,b,B,es,ge,X,rfl,A3,?_⟩;refine ⟨B.ru,dxr,_,rfl,hru,TB.qjv _ _ (by decide +kernel) (by decide +kernel),B.ru,B.rl,B.ps,B.g,rfl,A3.rule,A3.ok.P,λH4 s4=>qas ?_⟩;refine qm5 (σ':=[some (.ref b),some (.ref l1),some (.int (qic (qcz B es ge) X).sum),some (gv (B.g.map λz=>roomOf B.ps z))]) rfl ?_;have s04:=s03.trans s4;have P:=A3.ok.P;refine ⟨_,rfl,?_⟩;unfold qzd at q
   cases hg:B.g with
   | none =>
    rw[hg] at q;refine ⟨_,rfl,rfl,_,rfl,qdc ?_⟩;exact ⟨by show 2<=sizeLine;decide,λp H5 n5=>q p H5 (s04.trans n5.same) n5.at_⟩
   | some z =>
    rw[hg] at q P;have rb:=qs2 P;refine ⟨_,rfl,rfl,_,rfl,qdy ?_⟩;refine ⟨_,rfl,_,rfl,l1,_,rfl,.inl (SqL.of (s4 _ _ (s13 _ _ n1.at_))),_,_,rfl,rfl,by show CMulB _ _;rw[List.length_map,nl];walk_at "c",?_⟩;rw[List.length_map,nl];exact ⟨by show 2<=sizeLine;decide,λp H5 n5=>q p H5 (s04.trans n5.same) n5.at_⟩
theorem qze {i:Nat} {u:TS} {D:Ends} {σ:St} {H:Hp} (h:u D (σ.set i (some .non)) H):qed (qzy (tC .non) (qem i)) u D σ H:=h
def dMs (n:Int) (m:Option Int):PyData:=.tuple [.int n,dV (gv m)]
theorem qtl (n:Int) (m:Option Int):(dMs n m).canLay0=true:=by
 cases m<;>rfl
theorem qzf (n:Int) (m:Option Int):(dMs n m).depth<=20:=by
 cases m<;>simp[dMs,dV,gv,PyData.depth,PyData.depthAll]
theorem qtm {K:Frag} {H:Hp} {p:Addr} {n:Int} {m:Option Int} (h:H p=some (.tup [.int n,gv m])):Rep K H (.ref p) (dMs n m):=.tup (SqT.of h) (.cons (.int n) (.cons (qsn m) .nil))
theorem qzg (n:Int) (m:Option Int):PyData.eqv (dMs n m) (dMs n m)=true:=by
 unfold dMs;rw[PyData.eqv]
 cases m<;>simp[dV,gv,PyData.eqv,PyData.eqvAll]
structure OnDay (B:BookD) (es:List Int) (ge:Option Int):Prop where
 e:es=B.ps.map λp=>cut B.day p.1 p.2
 g:ge=B.g.map λz=>cut B.day z (lw B.ps)
theorem qvm {C CR R:Addr} {H:Hp} {b:Addr} {B:BookD} {es:List Int} {ge:Option Int} {X:qan} (A:BkC C CR R H b B es ge X) (o:OnDay B es ge) {z:Int} (hz:B.g=some z):(qic (qcz B es ge) X).sum<=roomOf B.ps z*(X.length:Int):=by
 have P:=A.ok.P;rw[hz] at P;have h:=qws (xs:=qic (qcz B es ge) X) (B:=roomOf B.ps z) λy hy=>by
  unfold qic at hy;obtain ⟨x,_,rfl⟩:=List.mem_map.mp hy;refine ⟨Int.natCast_nonneg _,?_⟩;have:=qva (d:=B.day) P (rsB X x);have eg:=o.g;rw[hz] at eg;rw[show qcz B es ge=qbi (B.ps.map (·.2)) es ge from rfl,o.e,eg];exact this
 have hl:(qic (qcz B es ge) X).length=X.length:=by unfold qic;rw[List.length_map,(qah _).length_eq,List.length_map]
 rw[hl,Int.mul_comm] at h;exact h.2
inductive qfq (C CR R:Addr) (vs:List V) (H:Hp) (Q:VK) (E_:XK):Prop
 | mk:∀ (b:Addr) (B:BookD) (es:List Int) (ge:Option Int) (X:qan),vs=[.ref b]->BkC C CR R H b B es ge X->qme X->OnDay B es ge->(∀ H',Same H H'->Q (.bl true) H')->qfq C CR R vs H Q E_
include T in
theorem qcb:qbe P w K mg base 9 "_law_right" ["_law_book"] (qfq C_Book C_Roll C_Rule):=by
 obtain ⟨f,fd,F,hm⟩:=T.f__law_right;have nd:=sc__law_right.nd;refine F.def_ hm (F.ok sc__law_right (λvs H Q E h=>?_) (λcdv A outer s H vs Q E hr h=>?_)) (F.binds λ_ _ _ _ _ _ us hl=>by obtain ⟨_,rfl⟩:=L2.lq1 hl;rfl)
 ·obtain ⟨b,B,es,ge,X,rfl,_⟩:=h;rfl
 ·obtain ⟨b,B,es,ge,X,rfl,A',XG,OD,q⟩:=h
  obtain ⟨dx,hob⟩:=A'.ob;have x20:=XG.ln;have nl:(qay (X.map (·.1))).length=X.length:=by rw[(qah _).length_eq,List.length_map]
  refine ⟨_,(jB7 (jS 1 nd (qag (qex rfl) rfl T.b_sum qks (jA1 (qgh (vars:=[ "_law_name_here" ]) (frees:=[ "_law_book" ]) (fv:=[0]) rfl (jL1 rfl) ⟨⟨rfl,.inl rfl,rfl,.inl rfl⟩,trivial⟩ (qbb (qax (pv 0) T.cl_Book (qbh T) (hr.mono (by decide)))) (qc0 (by decide)) (λ_ _ _ _=>(jM 0 [ "_law_name_here", "_law_book" ])) (λ_ _ _ _=>qbc) (λ_ _ _ _=>(qag (show CallR _ _ (qBb K) from qal) rfl T.b_len qbw (jA1 (qax (qwf (pv 1) T.cl_Book (qm4 T) (hr.mono (by decide)) .nil (jA1 (pv 0))) T.cl_Roll (qds T) (hr.mono (by decide)))))))))) (jS 2 nd (qax (qax (pv 0) T.cl_Book (qbp T) (hr.mono (by decide))) T.cl_Rule (qib T) (hr.mono (by decide)))) (jS 3 nd qbr) (qbd (jC qmq (pv 2) qbr) (qae (jS 3 nd (qak qck (pv 2) (qag qal rfl T.b_len qbw (jA1 (qax (pv 0) T.cl_Book (qbh T) (hr.mono (by decide)))))))) qao) (jS 4 nd (jF (qB4 T) hr (jA1 (pv 0)))) (qbd (PW.pt (qke (qda (qcu (qag qev rfl T.b_isinstance qbx (jA2 (pv 4) (qgu (v:=.ty "tuple") rfl T.b_tuple qnm rfl))))) (qke (jC qt2 (qag qal rfl T.b_len qbw (jA1 (pv 4))) qab) (qgv (jC (qvx hr.units) (pv 4) (qbn (jA2 (pv 1) (pv 3)))))))) (qae (qai qox)) qao) (qai (qCm (jD qeq (pv 3) qbr) (qil (jD qxa (pv 1) (pv 3)))))),?_⟩;refine ⟨_,rfl,b,dx,_,rfl,hob,bno,b,B,es,ge,X,rfl,A',by omega,λl1 H1 n1=>⟨l1,rfl,⟨_,SqL.of n1.at_⟩,qd0 (xs:=(qay (X.map (·.1))).map tS) (λi ys H2=>Same H1 H2/\ys=((qic (qcz B es ge) X).take i).map V.int) (Nat.le_of_lt (qau (by rw[List.length_map];omega))) ⟨Same.refl _,rfl⟩ (λi ys H2 h2=>⟨SqL.of (h2.1 _ _ n1.at_),by rw[h2.2,List.length_map,List.length_take];omega⟩) ?_ ?_⟩⟩
  ·rintro i v ys H2 hi ⟨s2,rfl⟩
   obtain ⟨x,e,hxi,rfl,hm⟩:=qtj hi;have s02:=n1.same.trans s2;have A2:=A'.same s02;refine qas (qqc (qdc ?_));refine ⟨_,rfl,b,dx,_,rfl,s02 _ _ hob,bno,_,rfl,b,B,es,ge,X,tS x,rfl,A2,.small (XG.sm _ hm),λx' e' ev hx' hm' r3 q3 LY LZ H3 s3 r _ _=>?_,λhn=>absurd ⟨x,rfl,XG.sm _ hm,List.mem_map.mpr ⟨_,hm,rfl⟩⟩ hn⟩;have ev:=qbk ev;subst ev;obtain ⟨dx3,hob3⟩:=r.R.obj;refine ⟨r3,dx3,_,rfl,hob3,qhk _ _ _ _ _,?_⟩;simp only[qig,List.cons_append,List.nil_append,List.append_nil];refine qw2 r λl4 xs4 H4 s4 hl4 hlen=>?_
   refine ⟨l4,xs4,rfl,.inl (SqL.of hl4),s2.trans (s3.trans s4),?_⟩;have hg:(qic (qcz B es ge) X)[i]?=some ((qzo (qcz B es ge) (rsB X x):Nat):Int):=by unfold qic;rw[List.getElem?_map,hxi];rfl
   rw[qgi _ i _ hg,List.map_append,qfa XG.ok hm',hlen]
   rfl
  ·rintro ys H2 l3 H3 ⟨s2,rfl⟩ n3
   rw[List.take_of_length_le (by unfold qic;rw[List.length_map,List.length_map];omega)] at n3;refine ⟨l3,qic (qcz B es ge) X,rfl,SqL.of n3.at_,qas ?_⟩;have s03:=n1.same.trans (s2.trans n3.same);have A3:=A'.same s03;refine qm5 (σ':=[some (.ref b),some (.int (qic (qcz B es ge) X).sum),none,none,none]) rfl ?_;obtain ⟨dxr,hru⟩:=A3.rule.ob;refine ⟨_,rfl,b,dx,_,rfl,s03 _ _ hob,bno,b,B,es,ge,X,rfl,A3,?_⟩;refine ⟨B.ru,dxr,_,rfl,hru,TB.qjv _ _ (by decide +kernel) (by decide +kernel),B.ru,B.rl,B.ps,B.g,rfl,A3.rule,A3.ok.P,λH4 s4=>qas ?_⟩;refine qm5 (σ':=[some (.ref b),some (.int (qic (qcz B es ge) X).sum),some (gv (B.g.map λz=>roomOf B.ps z)),none,none]) rfl ?_;have s04:=s03.trans s4;refine qze ?_;refine qm5 (σ':=[some (.ref b),some (.int (qic (qcz B es ge) X).sum),some (gv (B.g.map λz=>roomOf B.ps z)),some .non,none]) rfl ?_;dsimp only;refine qtu λN hN=>?_
   have fin:∀ H5,Same H H5->N [some (.ref b),some (.int (qic (qcz B es ge) X).sum),some (gv (B.g.map λz=>roomOf B.ps z)),some (gv (qzd B X)),none] H5:=λH5 s5=>hN _ _ (by
    refine ⟨_,rfl,b,B,es,ge,X,rfl,A'.same s5,XG,λp H6 s6 hp=>qas ?_⟩;refine qm5 (σ':=[some (.ref b),some (.int (qic (qcz B es ge) X).sum),some (gv (B.g.map λz=>roomOf B.ps z)),some (gv (qzd B X)),some (.ref p)]) rfl ?_;have s06:=s5.trans s6;refine ⟨_,rfl,_,_,_,true,rfl,.tup hp,kit_tuple _,_,rfl,qdy ?_⟩;refine ⟨_,rfl,p,_,rfl,.inr (SqT.of hp),rfl,_,rfl,qdy ?_⟩;refine ⟨_,rfl,_,rfl,_,rfl,by show 2<=sizeLine;decide,λp7 H7 n7=>?_⟩;refine ⟨_,_,qtm (n7.same _ _ hp),qtm n7.at_,qtl _ _,qtl _ _,qzf _ _,_,rfl,?_⟩
    show if (!PyData.eqv _ _)=true then _ else _
    rw[qzg];refine qdy ?_;have s07:=s06.trans n7.same;refine ⟨_,rfl,rfl,?_⟩;unfold qzd
    cases hg:B.g with
    | none=>exact ⟨true,rfl,qdc (q H7 s07)⟩
    | some z =>
     have cm:=qvm A' OD hg;refine ⟨false,rfl,qdy ⟨_,rfl,_,rfl,_,_,rfl,rfl,?_⟩⟩;rw[decide_eq_true cm];exact q H7 s07)
   refine ⟨_,rfl,?_⟩
   cases hg:B.g with
   | none =>
    have:=fin H4 s04;unfold qzd at this;rw[hg] at this;refine ⟨rfl,_,rfl,qdy ?_⟩;exact this
   | some z =>
    have P:=A3.ok.P;rw[hg] at P;have rb:=qs2 P;refine ⟨rfl,_,rfl,qdc ?_⟩;refine ⟨_,rfl,_,rfl,b,dx,_,rfl,s04 _ _ hob,bno,b,B,es,ge,X,rfl,A'.same s04,by omega,λl5 H5 n5=>⟨l5,_,rfl,.inl (SqL.of n5.at_),_,_,rfl,rfl,by show CMulB _ _;rw[List.length_map,nl];walk_at "c",qas ?_⟩⟩;have:=fin H5 (s04.trans n5.same);unfold qzd at this;rw[hg] at this;rw[List.length_map,nl];exact this
theorem qDq {xs:List V} {k:Int} {i:Nat} (e:k=(i:Nat)) {v:V} (h:xs[i]?=some v):atI xs k=some v:=by rw[e];exact qjd h
theorem qzh {X:qan} {x:List Nat} {e:RC} (ok:XOk X) (hx:(x,e)∈X):X.map (qc9 x e.2.2.1)=X:=by
 have:X.map (qc9 x e.2.2.1)=X.map id:=List.map_congr_left λp hp=>by
  unfold qc9
  split
  ·rename_i h
   have:p.2=e:=ok.one (x:=x) (by rw[<- h];exact hp) hx;rw[<- this];rfl
  ·rfl
 rw[this,List.map_id]
theorem qvn (x:List Nat) (rs:List Rd3) (r:Rd3) (X:qan):(X.map (qc9 x rs)).map (qp5 x r)=X.map (qc9 x (rs ++ [r])):=by
 rw[List.map_map];refine List.map_congr_left λp _=>?_
 show qp5 x r (qc9 x rs p)=qc9 x (rs ++ [r]) p
 unfold qp5 qc9
 by_cases h:p.1=x
 ·rw[if_pos h,if_pos h]
  simp only[if_pos h]
 ·rw[if_neg h,if_neg h,if_neg h]
theorem XOk.setr {X:qan} (h:XOk X) (x:List Nat) (rs:List Rd3):XOk (X.map (qc9 x rs)):=by
 unfold XOk at h ⊢;rw[List.pairwise_map];exact h.imp fun {p p'} z=>by rw[qh7,qh7,qte,qte];exact z
theorem qou {X:qan} {x:List Nat} {e:RC} {rs:List Rd3} (hx:(x,e)∈X):(x,(e.1,e.2.1,rs,e.2.2.2))∈X.map (qc9 x rs):=List.mem_map.mpr ⟨_,hx,by unfold qc9;rw[if_pos rfl]⟩
inductive qtn (C CR R:Addr) (vs:List V) (H:Hp) (Q:VK) (E_:XK):Prop
 | mk:∀ (b ln ls:Addr) (B:BookD) (es:List Int) (ge:Option Int) (X:qan) (nms:List (List Nat)) (xs:List V) (ps:List (Int×Int)) (g:Option Int) (day draw:Int),vs=[.ref b,.ref ln,.ref ls,.int day,.int draw]->BkC C CR R H b B es ge X->XOk X->H ln=some (.lst (nms.map tS))->H ls=some (.lst xs)->Pairs H xs ps->PrB ps g->(-(10 ^ 31)<=day/\day<=10 ^ 31)->(1<=nms.length/\nms.length<=4)->(∀ x∈nms,qa4 12 x/\x∈X.map (·.1))->(∀ p∈X,p.2.2.2.1.length<=81)->(∀ x e rs H',(x,e)∈X->rs.length<=9->BkC C CR R H' b B es ge (X.map (qc9 x (e.2.2.1 ++ rs)))->But2 e.2.1.dy e.2.1.dh H H'->Q .non H')->qtn C CR R vs H Q E_
include T in
theorem qid:qbe P w K mg base 6 "_law_many_put" ["_law_book", "_law_names", "_law_steps", "_law_day", "_law_draw"] (qtn C_Book C_Roll C_Rule):=by
 obtain ⟨f,fd,F,hm⟩:=T.f__law_many_put;have nd:=sc__law_many_put.nd;refine F.def_ hm (F.ok sc__law_many_put (λvs H Q E h=>?_) (λcdv A outer s H vs Q E hr h=>?_)) (F.binds λ_ _ _ _ _ _ us hl=>by obtain ⟨_,_,_,_,_,rfl⟩:=L2.lq5 hl;rfl)
 ·obtain ⟨b,ln,ls,B,es,ge,X,nms,xs,ps,g,day,draw,rfl,_⟩:=h;rfl
 ·obtain ⟨b,ln,ls,B,es,ge,X,nms,xs,ps,g,day,draw,rfl,A',XO,hln,hls,hp,pb,hd,nl,nx,lx,q⟩:=h
  obtain ⟨dx,hob⟩:=A'.ob;obtain ⟨p,hpl,ep⟩:=pb.P.last;obtain ⟨v,hv,a,rfl,ha⟩:=hp.get' hpl;have xl:=hp.length;have g1:=pb.P.good.lo;have g5:=pb.P.good.hi;have pbb:=pb.b p (List.mem_of_getElem? hpl);have pps:=pb.P.size _ p hpl;refine ⟨_,(jB3 (jS 5 nd (qak qa8 (qak qmp (pv 4) qab) (qak qa9 (qak qck qab (qak qa9 (jT (jI (pv 2) (qjb qep qab)) qab) (jT (jI (pv 2) (qjb qep qab)) qab))) qab))) (jS 6 nd (qak qa9 qab (qak qa8 (jF (qam T) hr (jA2 (pv 4) qab)) (qag (qer rfl) rfl T.b_max qkv (jA2 qab (qag (qkh rfl) rfl T.b_min qri (jA2 (qak qne qab qab) (jT (jI (pv 2) (qak qa8 (jF (qam T) hr (jA2 (pv 4) qab)) (qag qal rfl T.b_len qbw (jA1 (pv 2))))) qab)))))))) (qdb PassesOwn.never rfl (qeo rfl T.b_range (jA1 (qak qa9 qab (qak qa8 (jF (qam T) hr (jA2 (pv 4) qab)) qab)))) (jN 7 nd) (qae (qa5 (qb5 (dvs:=[.int 1]) (qbz ⟨rfl,rfl,rfl⟩) (pv 0) T.cl_Book (Exists.choose_spec (qmb T)) (hr.mono (by decide)) (.cons ⟨_,rfl⟩ .nil) (jA3 (jI (pv 1) (qak qa8 (jF (qam T) hr (jA2 (pv 4) qab)) (qag qal rfl T.b_len qbw (jA1 (pv 1))))) (qak qa9 (qak qgw (pv 3) (pv 5)) (qak qck (pv 7) (pv 6))) (qak qgw (pv 7) qab))))))),?_⟩;have mb:5<=2*(p.1+p.2)+5/\2*(p.1+p.2)+5<10 ^ 24:=by omega
  have bb:0<=draw / 5 % (2*(p.1+p.2)+5)/\draw / 5 % (2*(p.1+p.2)+5)<10 ^ 24:=⟨Int.emod_nonneg _ (by omega),Int.lt_trans (Int.emod_lt_of_pos _ (by omega)) mb.2⟩;refine ⟨_,rfl,_,_,rfl,rfl,by walk_at "c",_,rfl,_,rfl,ls,xs,-1,_,rfl,rfl,SqL.of hls,qhe (by rw[xl];exact hv),a,_,0,_,rfl,rfl,SqT.of ha,rfl,_,rfl,_,rfl,ls,xs,-1,_,rfl,rfl,SqL.of hls,qhe (by rw[xl];exact hv),a,_,1,_,rfl,rfl,SqT.of ha,rfl,_,_,rfl,rfl,_,_,rfl,rfl,⟨by decide,by omega,by omega⟩,_,_,rfl,rfl,_,_,rfl,rfl,by walk_at "c",qas ?_⟩
  generalize draw / 5 % (2*(p.1+p.2)+5)=back at bb
  refine qkc (σ':=[some (.ref b),some (.ref ln),some (.ref ls),some (.int day),some (.int draw),some (.int back),none,none]) rfl ?_;refine ⟨_,rfl,_,_,rfl,by decide,by decide,λm1 m10 m11=>?_⟩;refine ⟨_,_,rfl,rfl,by walk_at "c",_,rfl,_,rfl,_,_,rfl,by decide,by decide,λm2 m20 m21=>?_⟩;have i2:0<=m2 % (ps.length:Int)/\m2 % (ps.length:Int)<(ps.length:Int):=⟨Int.emod_nonneg _ (by omega),Int.emod_lt_of_pos _ (by omega)⟩;obtain ⟨j,hj⟩:∃ j:Nat,m2 % (ps.length:Int)=(j:Nat):=⟨(m2 % (ps.length:Int)).toNat,by omega⟩;have jl:j<ps.length:=by omega
  have hpj:ps[j]?=some ps[j]:=List.getElem?_eq_getElem jl;obtain ⟨v2,hv2,a2,rfl,ha2⟩:=hp.get' hpj;have pj:=(pb.P.size _ _ hpj);have pjb:=(pb.b _ (List.mem_of_getElem? hpj));refine ⟨_,rfl,ls,xs,rfl,.inl (SqL.of hls),_,_,rfl,rfl,by rw[xl];walk_at "c",ls,xs,_,_,rfl,rfl,SqL.of hls,qDq (by rw[xl];exact hj) hv2,a2,_,1,_,rfl,rfl,SqT.of ha2,rfl,?_⟩;refine ⟨_,_,rfl,_,_,rfl,?_⟩;have mx:1<=(if (if ps[j].2<10 ^ (6:Int).toNat then ps[j].2 else 10 ^ (6:Int).toNat)>1 then (if ps[j].2<10 ^ (6:Int).toNat then ps[j].2 else 10 ^ (6:Int).toNat) else (1:Int))/\(if (if ps[j].2<10 ^ (6:Int).toNat then ps[j].2 else 10 ^ (6:Int).toNat)>1 then (if ps[j].2<10 ^ (6:Int).toNat then ps[j].2 else 10 ^ (6:Int).toNat) else (1:Int))<=1000000:=by
   have:(10:Int) ^ (6:Int).toNat=1000000:=by decide
   rw[this]
   (repeat' split)<;>omega
  generalize (if (if ps[j].2<10 ^ (6:Int).toNat then ps[j].2 else 10 ^ (6:Int).toNat)>1 then (if ps[j].2<10 ^ (6:Int).toNat then ps[j].2 else 10 ^ (6:Int).toNat) else (1:Int))=mm at mx
  have st:0<=m1 % mm/\m1 % mm<mm:=⟨Int.emod_nonneg _ (by omega),Int.emod_lt_of_pos _ (by omega)⟩;refine ⟨_,_,rfl,rfl,by walk_at "c",_,_,rfl,rfl,qas ?_⟩;obtain ⟨step,es'⟩:∃ step,step=1+m1 % mm:=⟨_,rfl⟩;have sb:1<=step/\step<=1000001:=by omega
  refine qkc (σ':=[some (.ref b),some (.ref ln),some (.ref ls),some (.int day),some (.int draw),some (.int back),some (.int step),none]) (by rw[es'];rfl) ?_;clear es' st mx;have i4:0<=qtv draw 4 % (nms.length:Int)/\qtv draw 4 % (nms.length:Int)<(nms.length:Int):=⟨Int.emod_nonneg _ (by omega),Int.emod_lt_of_pos _ (by omega)⟩;obtain ⟨k4,hk4⟩:∃ j:Nat,qtv draw 4 % (nms.length:Int)=(j:Nat):=⟨(qtv draw 4 % (nms.length:Int)).toNat,by omega⟩;have kl:k4<nms.length:=by omega
  have hx4:nms[k4]?=some nms[k4]:=List.getElem?_eq_getElem kl
  generalize nms[k4]=x at hx4
  obtain ⟨sx,hmx⟩:=nx x (List.mem_of_getElem? hx4);obtain ⟨pe,hpe,epx⟩:=List.mem_map.mp hmx;obtain ⟨x',e⟩:=pe;have epx:x'=x:=epx;subst epx;have le:e.2.2.1.length<=81:=lx _ hpe;obtain ⟨⟨Y,hY⟩,⟨Z,hZ⟩⟩:=A'.dicts hpe;refine ⟨_,rfl,_,_,rfl,by decide,by decide,λm3 m30 m31=>?_⟩;refine ⟨_,_,rfl,rfl,by decide,_,_,rfl,rfl,_,rfl,by omega,by omega,qkg (n:=(1+m3 % 9).toNat) (λi σ H2=>∃ (rs:List Rd3) (v7:Option V),rs.length=i/\BkC C_Book C_Roll C_Rule H2 b B es ge (X.map (qc9 x' (e.2.2.1 ++ rs)))/\But2 e.2.1.dy e.2.1.dh H H2/\σ=[some (.ref b),some (.ref ln),some (.ref ls),some (.int day),some (.int draw),some (.int back),some (.int step),v7]) ⟨[],none,rfl,by rw[List.append_nil,qzh XO hpe];exact A',But2.refl _ _ _,rfl⟩ ?_ ?_⟩
  ·rintro i σ H2 hi ⟨rs,v7,hrl,A2,b2,rfl⟩
   rw[Int.zero_add];have i9:i<9:=by omega
   refine qas (qkc (σ':=[some (.ref b),some (.ref ln),some (.ref ls),some (.int day),some (.int draw),some (.int back),some (.int step),some (.int i)]) rfl ?_);obtain ⟨dx2,hob2⟩:=A2.ob;have hln2:=b2.keep hY hZ hln (by intro K z;cases z);have sbi:=qvl (x:=(i:Int)) (k:=9) (w:=step) (by omega) (by omega) sb.1 (by omega);refine ⟨_,rfl,b,dx2,_,rfl,hob2,bno,_,rfl,_,rfl,_,_,rfl,by decide,by decide,λm4 m40 m41=>?_⟩;have nlm:(nms.map tS).length=nms.length:=List.length_map _;refine ⟨_,rfl,ln,_,rfl,.inl (SqL.of hln2),_,_,rfl,rfl,by rw[nlm];walk_at "c",ln,_,_,_,rfl,rfl,SqL.of hln2,qDq (i:=k4) (by rw[nlm,m40.2];exact hk4) (v:=tS x') (by rw[List.getElem?_map,hx4];rfl),?_⟩;refine ⟨_,rfl,_,rfl,_,_,rfl,rfl,_,rfl,_,rfl,_,_,rfl,rfl,⟨⟨by omega,by omega⟩,by omega,by omega⟩,_,_,rfl,rfl,_,rfl,_,_,rfl,rfl,?_⟩;simp only[qig,List.cons_append,List.nil_append,List.append_nil];have hlt:RLt (day-back+(i:Int)*step,(i:Int)-3,1):=by unfold RLt;dsimp only;omega
   refine putX (r:=(day-back+(i:Int)*step,(i:Int)-3,1)) rfl A2 (XO.setr x' _) (qou hpe) sx ⟨by rw[List.length_append,List.length_append,hrl];simp;omega⟩ hlt λH3 b3 R3 A3=>?_
   rw[qvn,List.append_assoc] at A3;exact ⟨rs ++ [_],_,by rw[List.length_append,hrl];rfl,A3,b2.trans b3,rfl⟩
  ·rintro σ H2 ⟨rs,v7,hrl,A2,b2,rfl⟩
   exact q x' e rs H2 hpe (by omega) A2 b2
theorem qto {d D a w:Int} (h:d<=D) (hw:1<=w):cut d a w<=cut D a w:=by
 unfold cut;exact Int.mul_le_mul_of_nonneg_right (Int.ediv_le_ediv (by omega) (by omega)) (by omega)
theorem qB5 {x y:V} (h:∀ i j,x=.int i->y=.int j->j<=i) (hx:Ed x) (hy:Ed y) (hn:x=.non->y=.non):gE x y=x:=by
 rcases hx with rfl|⟨i,rfl⟩
 ·rw[hn rfl];rfl
 ·rcases hy with rfl|⟨j,rfl⟩
  ·rfl
  ·show V.int (if j>i then j else i)=V.int i
   rw[if_neg (by have:=h i j rfl rfl;omega)]
theorem qw3 {α:Type} (f f':α->Int):∀ (l:List α),(∀ x∈l,f' x<=f x)->List.zipWith gE (l.map λx=>V.int (f x)) (l.map λx=>V.int (f' x))=l.map λx=>V.int (f x)
 | [],_=>rfl
 | x :: t,h=>by
  simp only[List.map_cons,List.zipWith_cons_cons];rw[qw3 f f' t λy hy=>h y (List.mem_cons_of_mem _ hy),qB5 (λi j e1 e2=>by cases e1;cases e2;exact h x List.mem_cons_self) (.inr ⟨_,rfl⟩) (.inr ⟨_,rfl⟩) (by intro z;cases z)]
theorem qfb {ps:List (Int×Int)} {g:Option Int} (P:Pr ps g) {d D:Int} (h:d<=D):List.zipWith gE (eV ps g D) (eV ps g d)=eV ps g D:=by
 unfold eV;rw[List.zipWith_append (by rw[List.length_map,List.length_map]),qw3 (λp:Int×Int=>cut D p.1 p.2) (λp=>cut d p.1 p.2) ps λp hp=>?_]
 ·congr 1
  cases g with
  | none=>rfl
  | some z =>
   obtain ⟨q,hq,eq⟩:=P.last
   show [gE (V.int _) (V.int _)]=[V.int _]
   rw[qB5 (λi j e1 e2=>by cases e1;cases e2;exact qto h (by rw[eq];exact (P.good.each _ q hq).2)) (.inr ⟨_,rfl⟩) (.inr ⟨_,rfl⟩) (by intro z;cases z)]
 ·obtain ⟨i,hi,e⟩:=List.getElem_of_mem hp
  exact qto h (P.good.each i p (by rw[<- e];exact List.getElem?_eq_getElem hi)).2
theorem qzi (ps:List (Int×Int)) (g:Option Int) (d:Int):(ps.map λp=>cut d p.1 p.2).map V.int ++ [gv (g.map λz=>cut d z (lw ps))]=eV ps g d:=by
 unfold eV;rw[List.map_map];rfl
def qtp (d:Int) (n:Nat):List (List Nat):=(List.range n).map λj=>nmF d (j:Nat)
theorem qzj (d:Int) {n:Nat} (h:n<=20):(qtp d n).Nodup:=by
 unfold qtp List.Nodup;rw[List.pairwise_map];refine (List.pairwise_lt_range (n:=n)).imp_of_mem fun {i j} hi hj hij=>qDo (by omega) ?_ ?_
 ·have:=List.mem_range.mp hi;have:=List.mem_range.mp hj;omega
 ·have:=List.mem_range.mp hi;have:=List.mem_range.mp hj;omega
theorem qml:qb3 []:=⟨by simp,.nil,by simp⟩
def qdv {α:Type} (a b:α):Nat->α
 | 0=>a
 | _=>b
theorem all2 {p:Nat->Prop} (h0:p 0) (h1:p 1):∀ i,i<2->p i:=λi hi=>by
 rcases (show i=0\/i=1 by omega) with rfl|rfl
 ·exact h0
 ·exact h1
theorem BkC.butK {C CR R:Addr} {H H':Hp} {b a:Addr} {B:BookD} {es:List Int} {ge:Option Int} {X:qan} {kvs:List (Key×V)} (h:BkC C CR R H b B es ge X) (bu:But a H H') (ha:H a=some (.dK kvs)) (n1:B.dm≠a) (n2:B.dr≠a):BkC C CR R H' b B es ge X:=
 ⟨let ⟨dx,e⟩:=h.ob;⟨dx,bu _ _ e (qap e ha (by intro z;cases z))⟩,h.rule.butK bu ha,bu _ _ h.ed (qap h.ed ha (by intro z;cases z)),
  let ⟨k,e,r⟩:=h.ms;⟨k,bu _ _ e n1,r.imp λ_ _ q=>q.butK bu ha⟩,let ⟨k,e,r⟩:=h.rs;⟨k,bu _ _ e n2,r.imp λ_ _ ⟨e1,e2⟩=>⟨e1,e2.butK bu ha⟩⟩,h.ne,h.ok⟩
theorem BkC.butKK {C CR R:Addr} {H H':Hp} {b a d:Addr} {B:BookD} {es:List Int} {ge:Option Int} {X:qan} {k1 k2:List (Key×V)} (h:BkC C CR R H b B es ge X) (bu:But2 a d H H') (ha:H a=some (.dK k1)) (hd:H d=some (.dK k2)) (n1:B.dm≠a) (n2:B.dr≠a) (n3:B.dm≠d) (n4:B.dr≠d):BkC C CR R H' b B es ge X:=by
 have b1:But a H (λz=>if z=d then H d else H' z):=λz o e n=>by
  by_cases zd:z=d
  ·simp only[if_pos zd];rw[<- zd];exact e
  ·simp only[if_neg zd];exact bu _ _ e n zd
 have b2:But d (λz=>if z=d then H d else H' z) H':=λz o e n=>by simp only[if_neg n] at e;exact e
 exact (h.butK b1 ha n1 n2).butK b2 (by simp only[if_pos];exact hd) n3 n4
structure Env6 (K:Frag) (a ln ls:Addr) (ns:List Int) (nms:List (List Nat)) (xs:List V) (ps:List (Int×Int)) (H:Hp):Prop where
 sc:SqL K H a (ns.map V.int)
 nm:H ln=some (.lst (nms.map tS))
 st:H ls=some (.lst xs)
 pr:Pairs H xs ps
section
variable {K:Frag} {a ln ls:Addr} {ns:List Int} {nms:List (List Nat)} {xs:List V} {ps:List (Int×Int)} {H H':Hp}
theorem Pairs.up:∀ {xs:List V} {ps:List (Int×Int)},(∀ z zs,H z=some (.tup zs)->H' z=some (.tup zs))->Pairs H xs ps->Pairs H' xs ps
 | _,_,_,.nil=>.nil
 | _,_,k,.cons ⟨a,e,q⟩ t=>.cons ⟨a,e,k _ _ q⟩ (Pairs.up k t)
theorem Env6.up (h:Env6 K a ln ls ns nms xs ps H) (k:∀ z o,H z=some o->(∀ k,o≠.dK k)->(∀ k,o≠.dT k)->H' z=some o):Env6 K a ln ls ns nms xs ps H':=by
 refine ⟨?_,k _ _ h.nm (by intro k y;cases y) (by intro k y;cases y),k _ _ h.st (by intro k y;cases y) (by intro k y;cases y),Pairs.up (λz zs e=>k _ _ e (by intro k y;cases y) (by intro k y;cases y)) h.pr⟩
 rcases h.sc with (e|⟨o,e⟩)|e
 ·exact .inl (.inl (k _ _ e (by intro k y;cases y) (by intro k y;cases y)))
 ·exact .inl (.inr ⟨o,k _ _ e (by intro k y;cases y) (by intro k y;cases y)⟩)
 ·exact .inr e
theorem Env6.same (h:Env6 K a ln ls ns nms xs ps H) (s:Same H H'):Env6 K a ln ls ns nms xs ps H':=h.up λz o e _ _=>s _ _ e
end
def esD (B:BookD):List Int:=B.ps.map λp=>cut B.day p.1 p.2
def geD (B:BookD):Option Int:=B.g.map λz=>cut B.day z (lw B.ps)
structure D75 (BB:Nat->BookD):Prop where
 a:∀ i j,i<2->j<2->i≠j->((BB i).dm≠(BB j).dm/\(BB i).dr≠(BB j).dm)/\(BB i).dm≠(BB j).dr/\(BB i).dr≠(BB j).dr
structure W75 (C CR R lb:Addr) (bs:Nat->Addr) (BB:Nat->BookD) (nms:List (List Nat)) (XX:Nat->qan) (n:Nat) (H:Hp):Prop where
 hb:H lb=some (.lst [.ref (bs 0),.ref (bs 1)])
 bk:∀ i,i<2->BkC C CR R H (bs i) (BB i) (esD (BB i)) (geD (BB i)) (XX i)
 ok:∀ i,i<2->XOk (XX i)
 ap:∀ p∈XX 0,∀ p'∈XX 1,ApartD p.2.2.1 p'.2.2.1
 nm:∀ i,i<2->(XX i).map (·.1)=nms
 em:∀ i,i<2->∀ p∈XX i,p.2.2.2.2=[]
 ln:∀ x,(rsB (XX 0) x).length+(rsB (XX 1) x).length<=9*n
theorem qov {X:qan} {x y:List Nat} {ro:Addr} {c:qar} {ms:List (List Nat)}:rsB (X ++ [(x,(ro,c,[],ms))]) y=rsB X y:=by
 unfold rsB rowOf;rw[List.filter_append,List.map_append,List.flatMap_append]
 by_cases h:x=y
 ·simp[h]
 ·simp[h]
theorem qtq {X:qan} {x y:List Nat} {rs:List Rd3} (h:y≠x):rsB (X.map (qc9 x rs)) y=rsB X y:=by
 induction X with
 | nil=>rfl
 | cons p X ih =>
  unfold rsB rowOf at ih ⊢;rw[List.map_cons,List.filter_cons,List.filter_cons,qh7]
  by_cases e:p.1=y
  ·rw[if_pos (by simpa using e),if_pos (by simpa using e),List.map_cons,List.map_cons,List.flatMap_cons,List.flatMap_cons,ih]
   have:qc9 x rs p=p:=by unfold qc9;rw[if_neg (by rw[e];exact h)]
   rw[this]
  ·rw[if_neg (by simpa using e),if_neg (by simpa using e),ih]
def upS (i:Nat) (x:List Nat) (rs:List Rd3) (XX:Nat->qan):Nat->qan:=λj=>if j=i then (XX j).map (qc9 x rs) else XX j
theorem qm9 {i j:Nat} {x:List Nat} {rs:List Rd3} {XX:Nat->qan} {p:List Nat×RC} (h:p∈upS i x rs XX j):∃ p0∈XX j,p.1=p0.1/\p.2.2.1=p0.2.2.1/\p.2.2.2.2=p0.2.2.2.2:=by
 unfold upS at h
 split at h
 ·obtain ⟨p0,h0,rfl⟩:=List.mem_map.mp h
  exact ⟨p0,h0,qh7 _ _ _,qte _ _ _,qwy _ _ _⟩
 ·exact ⟨p,h,rfl,rfl,rfl⟩
section
variable {C CR R lb:Addr} {bs:Nat->Addr} {BB:Nat->BookD} {nms:List (List Nat)} {XX:Nat->qan} {n:Nat} {H H' H1 H2:Hp}
theorem W75.same (w:W75 C CR R lb bs BB nms XX n H) (s:Same H H'):W75 C CR R lb bs BB nms XX n H':=⟨s _ _ w.hb,λi hi=>(w.bk i hi).same s,w.ok,w.ap,w.nm,w.em,w.ln⟩
theorem W75.put (w:W75 C CR R lb bs BB nms XX n H) {i:Nat} (hi:i<2) {x:List Nat} {e:RC} {rs:List Rd3} (hx:(x,e)∈XX i) (hl:rs.length<=9) (A:BkC C CR R H' (bs i) (BB i) (esD (BB i)) (geD (BB i)) ((XX i).map (qc9 x (e.2.2.1 ++ rs)))) (bu:But2 e.2.1.dy e.2.1.dh H H'):W75 C CR R lb bs BB nms (upS i x (e.2.2.1 ++ rs) XX) (n+1) H':=by
 obtain ⟨⟨Y,hY⟩,⟨Z,hZ⟩⟩:=(w.bk i hi).dicts hx;have apo:∀ j,j<2->j≠i->∀ y f,(y,f)∈XX j->ApartD f.2.1 e.2.1:=λj hj hn y f hf=>by
  rcases (show (i=0/\j=1)\/(i=1/\j=0) by omega) with ⟨rfl,rfl⟩|⟨rfl,rfl⟩
  ·exact (w.ap _ hx _ hf).symm
  ·exact w.ap _ hf _ hx
 refine ⟨bu.keep hY hZ w.hb (by intro K z;cases z),λj hj=>?_,λj hj=>?_,λp hp p' hp'=>?_,λj hj=>?_,λj hj p hp=>?_,λy=>?_⟩
 ·unfold upS
  by_cases e1:j=i
  ·rw[if_pos e1,e1];exact A
  ·rw[if_neg e1];exact (w.bk j hj).frame bu hY hZ (apo j hj e1)
 ·unfold upS
  split
  ·exact (w.ok j hj).setr _ _
  ·exact w.ok j hj
 ·obtain ⟨p0,h0,_,e2,_⟩:=qm9 hp
  obtain ⟨p1,h1,_,e3,_⟩:=qm9 hp';rw[e2,e3];exact w.ap _ h0 _ h1
 ·rw[<- w.nm j hj]
  unfold upS
  split
  ·rw[List.map_map]
   exact List.map_congr_left λp _=>qh7 _ _ _
  ·rfl
 ·obtain ⟨p0,h0,_,_,e4⟩:=qm9 hp
  rw[e4];exact w.em j hj _ h0
 ·have ln:=w.ln y
  by_cases hy:y=x
  ·subst hy
   have r0:=qfa (w.ok i hi) hx;have r1:=qfa ((w.ok i hi).setr y (e.2.2.1 ++ rs)) (qou (rs:=e.2.2.1 ++ rs) hx);dsimp only at r1;unfold upS
   rcases (show i=0\/i=1 by omega) with rfl|rfl
   ·rw[if_pos rfl,if_neg (by decide),r1,List.length_append,<- r0];omega
   ·rw[if_pos rfl,if_neg (by decide),r1,List.length_append,<- r0];omega
  ·unfold upS
   rcases (show i=0\/i=1 by omega) with rfl|rfl
   ·rw[if_pos rfl,if_neg (by decide),qtq hy];omega
   ·rw[if_pos rfl,if_neg (by decide),qtq hy];omega
theorem qw4 {N M b:Addr} {B:BookD} {es:List Int} {ge:Option Int} {X:qan} {Q:VK} {E:XK} {x:List Nat} {vs:List V} (hv:vs=[.ref b,tS x,.non]) (A:BkC C CR R H b B es ge X) (hsx:qa4 12 x) (hni:x ∉ X.map (·.1)) (lX:X.length<=60)
  (k:∀ ro c H',But2 B.dm B.dr H H'->H c.dy=none/\H c.dh=none->BkC C CR R H' b B es ge (X ++ [(x,(ro,c,[],[]))])->Q .non H'):qcy C CR R N M vs H Q E:=by
 refine ⟨b,B,es,ge,X,tS x,.non,[],hv,A,.small hsx,.inl ⟨rfl,rfl⟩,(by intro u hu;cases hu),Nat.zero_le _,lX,λz=>?_,λ_ z=>absurd qml z,λy2 ms2 ey2 _ _ eu _ ro c H' b' c1 c2 B' _=>?_⟩
 ·rcases z with z|⟨y,e,_,hy'⟩
  ·rw[qc8,decide_eq_true hsx] at z;cases z
  ·exact absurd (qbk e ▸ hy') hni
 have ey2:=qbk ey2;subst ey2;have ems:ms2=[]:=by cases ms2 with
  | nil=>rfl
  | cons _ _=>cases eu
 subst ems;exact k ro c H' b' ⟨c1,c2⟩ B'
theorem W75.enrol (w:W75 C CR R lb bs BB nms XX 0 H) (dd:D75 BB) {x:List Nat} (hn:x ∉ nms) {ro0 ro1:Addr} {c0 c1:qar} (b1:But2 (BB 0).dm (BB 0).dr H H1) (B0:BkC C CR R H1 (bs 0) (BB 0) (esD (BB 0)) (geD (BB 0)) (XX 0 ++ [(x,(ro0,c0,[],[]))])) (f0:H c0.dy=none/\H c0.dh=none)
  (b2:But2 (BB 1).dm (BB 1).dr H1 H2) (B1:BkC C CR R H2 (bs 1) (BB 1) (esD (BB 1)) (geD (BB 1)) (XX 1 ++ [(x,(ro1,c1,[],[]))])) (f1:H1 c1.dy=none/\H1 c1.dh=none) :
  W75 C CR R lb bs BB (nms ++ [x]) (qdv (XX 0 ++ [(x,(ro0,c0,[],[]))]) (XX 1 ++ [(x,(ro1,c1,[],[]))])) 0 H2:=by
 obtain ⟨km0,hm0,_⟩:=(w.bk 0 (by decide)).ms;obtain ⟨kr0,hr0,_⟩:=(w.bk 0 (by decide)).rs;have B1':BkC C CR R H1 (bs 1) (BB 1) (esD (BB 1)) (geD (BB 1)) (XX 1):=(w.bk 1 (by decide)).butKK b1 hm0 hr0 (dd.a 1 0 (by decide) (by decide) (by decide)).1.1 (dd.a 1 0 (by decide) (by decide) (by decide)).1.2 (dd.a 1 0 (by decide) (by decide) (by decide)).2.1 (dd.a 1 0 (by decide) (by decide) (by decide)).2.2;obtain ⟨km1,hm1,_⟩:=B1'.ms;obtain ⟨kr1,hr1,_⟩:=B1'.rs;have d0:=(dd.a 0 1 (by decide) (by decide) (by decide));have B0':=B0.butKK b2 hm1 hr1 d0.1.1 d0.1.2 d0.2.1 d0.2.2;have hb1:H1 lb=_:=b1 _ _ w.hb (qap w.hb hm0 (by intro z;cases z)) (qap w.hb hr0 (by intro z;cases z));have n0:x ∉ (XX 0).map (·.1):=by rw[w.nm 0 (by decide)];exact hn
 have n1:x ∉ (XX 1).map (·.1):=by rw[w.nm 1 (by decide)];exact hn
 refine ⟨b2 _ _ hb1 (qap hb1 hm1 (by intro z;cases z)) (qap hb1 hr1 (by intro z;cases z)),all2 B0' B1,all2 ((w.ok 0 (by decide)).snoc (w.bk 0 (by decide)) n0 f0.1 f0.2) ((w.ok 1 (by decide)).snoc B1' n1 f1.1 f1.2),λp hp p' hp'=>?_,?_,?_,λy=>?_⟩
 ·have hp:p∈XX 0 ++ [(x,(ro0,c0,[],[]))]:=hp
  have hp':p'∈XX 1 ++ [(x,(ro1,c1,[],[]))]:=hp'
  rcases List.mem_append.mp hp' with h'|h'
  ·rcases List.mem_append.mp hp with h|h
   ·exact w.ap _ h _ h'
   ·rw[List.mem_singleton.mp h]
    obtain ⟨⟨Y,hY⟩,⟨Z,hZ⟩⟩:=(w.bk 1 (by decide)).dicts (x:=p'.1) (e:=p'.2) h';exact ⟨(qac hY f0.1).symm,(qac hZ f0.1).symm,(qac hY f0.2).symm,(qac hZ f0.2).symm⟩
  ·rw[List.mem_singleton.mp h']
   obtain ⟨⟨Y,hY⟩,⟨Z,hZ⟩⟩:=B0.dicts (x:=p.1) (e:=p.2) hp;exact ⟨qac hY f1.1,qac hY f1.2,qac hZ f1.1,qac hZ f1.2⟩
 ·refine all2 ?_ ?_
  ·show (XX 0 ++ [(x,(ro0,c0,[],[]))]).map (λp:List Nat×RC=>p.1)=_
   rw[List.map_append,w.nm 0 (by decide)];rfl
  ·show (XX 1 ++ [(x,(ro1,c1,[],[]))]).map (λp:List Nat×RC=>p.1)=_
   rw[List.map_append,w.nm 1 (by decide)];rfl
 ·refine all2 (λp hp=>?_) λp hp=>?_
  ·rcases List.mem_append.mp hp with h|h
   ·exact w.em 0 (by decide) _ h
   ·rw[List.mem_singleton.mp h]
  ·rcases List.mem_append.mp hp with h|h
   ·exact w.em 1 (by decide) _ h
   ·rw[List.mem_singleton.mp h]
 ·show (rsB (XX 0 ++ [(x,(ro0,c0,[],[]))]) y).length+(rsB (XX 1 ++ [(x,(ro1,c1,[],[]))]) y).length<=_
  rw[qov,qov];exact w.ln y
theorem W75.one (w:W75 C CR R lb bs BB nms XX n H) {i:Nat} (hi:i<2) {p:List Nat×RC} (hp:p∈XX i):p.2.2.2.1.length<=9*n:=by
 have:=qfa (w.ok i hi) (x:=p.1) (e:=p.2) hp;have:=w.ln p.1
 rcases (show i=0\/i=1 by omega) with rfl|rfl
 ·simp_all;omega
 ·simp_all;omega
end
structure Q75 (nms:List (List Nat)) (RS:List Nat->List Rd3) (X:qan):Prop where
 ok:XOk X
 nd:(X.map (·.1)).Nodup
 nm:∀ x∈X.map (·.1),x∈nms
 em:∀ p∈X,p.2.2.2.2=[]
 rs:∀ x,(rsB X x).length<=(RS x).length
theorem qmm:qay []=[]:=(qah []).eq_nil
theorem qka {X:qan} (h:∀ p∈X,p.2.2.2.2=[]) (x:List Nat):mkB X x=[]:=by
 unfold mkB rowOf;rw[List.flatMap_eq_nil_iff];intro e he;obtain ⟨p,hp,rfl⟩:=List.mem_map.mp he;rw[h p (List.mem_filter.mp hp).1];exact qmm
theorem Q75.good {nms:List (List Nat)} {RS:List Nat->List Rd3} {X:qan} (q:Q75 nms RS X) (sm:∀ x∈nms,qa4 12 x) (l3:nms.length<=4) (kn:∀ x,(RS x).length<=96):qme X where
 ok:=q.ok
 sm:=λp hp=>sm _ (q.nm _ (List.mem_map.mpr ⟨p,hp,rfl⟩))
 mm:=λp hp=>by rw[q.em p hp];exact qml
 ln:=by have:=List.Nodup.length_le_of_subset q.nd q.nm;rw[List.length_map] at this;omega
 rs:=λp hp=>⟨by have h1:=qfa q.ok (x:=p.1) (e:=p.2) hp;have h2:=q.rs p.1;have h3:=kn p.1;rw[h1] at h2;omega⟩
theorem qw5 {X:qan} {x:List Nat} (h:x ∉ X.map (·.1)):rsB X x=[]:=by unfold rsB;rw[qgr h];rfl
theorem Q75.mv {nms:List (List Nat)} {X X':qan} (ok:XOk X) (ok':XOk X') (nm:∀ x∈X.map (·.1),x∈nms) (mk:∀ p∈X,p.2.2.2.2=[]) (m:qB2 X X'):Q75 nms (rsB X) X' where
 ok:=ok'
 nd:=ok'.nd
 nm:=λx hx=>nm x ((qah _).mem_iff.mp (by rw[<- m.nm];exact hx))
 em:=λp hp=>by
  obtain ⟨e,he,_,e2⟩:=m.en p hp;rw[e2,mk _ he];exact qmm
 rs:=λx=>by
  by_cases h:x∈X'.map (·.1)
  ·obtain ⟨p,hp,rfl⟩:=List.mem_map.mp h
   obtain ⟨e,he,e1,_⟩:=m.en p hp;rw[qfa ok' (x:=p.1) (e:=p.2) hp,qfa ok he,e1];exact Nat.le_refl _
  ·rw[qw5 h];exact Nat.zero_le _
theorem Q75.both {nms:List (List Nat)} {XX:Nat->qan} {X':qan} (ok':XOk X') (nm:∀ i,i<2->∀ x∈(XX i).map (·.1),x∈nms) (mk:∀ i,i<2->∀ p∈XX i,p.2.2.2.2=[]) (m:qw0 XX X'):Q75 nms (λx=>rsB (XX 0) x ++ rsB (XX 1) x) X' where
 ok:=ok'
 nd:=m.nd
 nm:=λx hx=>((m.nm x).mp hx).elim (nm 0 (by decide) x) (nm 1 (by decide) x)
 em:=λp hp=>by
  have h:=(m.ms p hp).2;rw[qka (mk 0 (by decide)),qka (mk 1 (by decide))] at h
  cases e:p.2.2.2.2 with
  | nil=>rfl
  | cons y t=>exact ((h y).mp (by rw[e];exact List.mem_cons_self)).elim (by simp) (by simp)
 rs:=λx=>by
  by_cases h:x∈X'.map (·.1)
  ·obtain ⟨p,hp,rfl⟩:=List.mem_map.mp h
   rw[qfa ok' (x:=p.1) (e:=p.2) hp,m.rs p hp];exact Nat.le_refl _
  ·rw[qw5 h];exact Nat.zero_le _
theorem qzk {XX:Nat->qan} (mk:∀ i,i<2->∀ p∈XX i,p.2.2.2.2=[]):¬ qwz XX:=fun ⟨x,h⟩=>by
 rw[qka (mk 0 (by decide)),qka (mk 1 (by decide))] at h;have:(qr1 ([] ++ []:List (List Nat))).length=0:=rfl;omega
theorem BkC.onDay {C CR R:Addr} {H:Hp} {b:Addr} {B:BookD} {fs:List Int} {fg:Option Int} {X:qan} (A:BkC C CR R H b B fs fg X) (e:fs.map V.int ++ [gv fg]=eV B.ps B.g B.day):OnDay B fs fg:=by
 have h:=A.ok.E;rw[e] at h;obtain ⟨h1,h2⟩:=h.uniq (EdS.of A.ok.P A.ok.hd);exact ⟨h1,h2⟩
theorem OnDay.ev {B:BookD} {es:List Int} {ge:Option Int} (o:OnDay B es ge):es.map V.int ++ [gv ge]=eV B.ps B.g B.day:=by rw[o.e,o.g];exact qzi _ _ _
theorem qB6 {ps:List (Int×Int)} {g:Option Int} (P:Pr ps g) (d0 d1:Int):List.zipWith gE (eV ps g (if d1>d0 then d1 else d0)) (List.zipWith gE (eV ps g d0) (eV ps g d1))=eV ps g (if d1>d0 then d1 else d0):=by
 split
 ·rw[qn8 (xs:=eV ps g d0) (ys:=eV ps g d1) (qBf _ _ _) (qBf _ _ _),qfb P (show d0<=d1 by omega),qfb P (Int.le_refl _)]
 ·rw[qfb P (show d1<=d0 by omega),qfb P (Int.le_refl _)]
structure K75 (C CR R:Addr) (H:Hp) (nms:List (List Nat)) (ru rl:Addr) (ps:List (Int×Int)) (g:Option Int) (b:Addr) (B:BookD) (es:List Int) (ge:Option Int) (X:qan):Prop where
 A:BkC C CR R H b B es ge X
 o:OnDay B es ge
 ok:XOk X
 nm:∀ x∈X.map (·.1),x∈nms
 em:∀ p∈X,p.2.2.2.2=[]
 ru:B.ru=ru
 rl:B.rl=rl
 ps:B.ps=ps
 g:B.g=g
section
variable {C CR R:Addr} {H H':Hp} {nms:List (List Nat)} {ru rl:Addr} {ps:List (Int×Int)} {g:Option Int} {b b0 b1:Addr} {B B0 B1:BookD} {es es0 es1:List Int} {ge ge0 ge1:Option Int} {X X0 X1:qan} {Q:VK} {E:XK}
theorem K75.same (k:K75 C CR R H nms ru rl ps g b B es ge X) (s:Same H H'):K75 C CR R H' nms ru rl ps g b B es ge X:={ k with A:=k.A.same s }
theorem K75.good (k:K75 C CR R H nms ru rl ps g b B es ge X) (sm:∀ x∈nms,qa4 12 x) (l3:nms.length<=4) (kn:∀ x,(rsB X x).length<=96):qme X:=
 Q75.good (RS:=rsB X) ⟨k.ok,k.ok.nd,k.nm,k.em,λ_=>Nat.le_refl _⟩ sm l3 kn
theorem K75.right (k:K75 C CR R H nms ru rl ps g b B es ge X) (sm:∀ x∈nms,qa4 12 x) (l3:nms.length<=4) (kn:∀ x,(rsB X x).length<=96) (q:∀ H',Same H H'->Q (.bl true) H'):qfq C CR R [.ref b] H Q E:=
 ⟨b,B,es,ge,X,rfl,k.A,k.good sm l3 kn,k.o,q⟩
theorem K75.mv {b' le dm dr:Addr} {D:Int} {fs:List Int} {fg:Option Int} {X':qan} (k:K75 C CR R H nms ru rl ps g b B es ge X) (U:qww ps g D (es.map V.int ++ [gv ge]) es ge fs fg) (hle:B.day<=D) (A':BkC C CR R H' b' ⟨ru,rl,le,dm,dr,ps,g,D⟩ fs fg X') (xk:XOk X') (m:qB2 X X') :
  K75 C CR R H' nms ru rl ps g b' ⟨ru,rl,le,dm,dr,ps,g,D⟩ fs fg X'/\∀ x,(rsB X' x).length<=(rsB X x).length:=by
 have q:=Q75.mv k.ok xk k.nm k.em m;refine ⟨⟨A',A'.onDay ?_,xk,q.nm,q.em,rfl,rfl,rfl,rfl⟩,q.rs⟩;rw[<- U.eq,k.o.ev,k.ps,k.g];have P:=k.A.ok.P;rw[k.ps,k.g] at P;exact qfb P hle
theorem qw6 {N M:Addr} (k0:K75 C CR R H nms ru rl ps g b0 B0 es0 ge0 X0) (k1:K75 C CR R H nms ru rl ps g b1 B1 es1 ge1 X1) (sm:∀ x∈nms,qa4 12 x) (l3:nms.length<=4) (kn:∀ x,(rsB X0 x).length+(rsB X1 x).length<=96)
  (q:∀ b B es ge X H',Same H H'->K75 C CR R H' nms ru rl ps g b B es ge X->(∀ x,(rsB X x).length<=96)->Q (.ref b) H'):qia C CR R N M [.ref b0,.ref b1] H Q E:=by
 have em:∀ i,i<2->∀ p∈qdv X0 X1 i,p.2.2.2.2=[]:=all2 k0.em k1.em;refine ⟨qdv b0 b1,qdv B0 B1,qdv es0 es1,qdv ge0 ge1,qdv X0 X1,rfl,⟨all2 k0.A k1.A,all2 (k0.good sm l3 λx=>by have:=kn x;omega) (k1.good sm l3 λx=>by have:=kn x;omega),λx=>⟨by have:=kn x;rw[List.length_append];exact this⟩⟩,λz=>absurd ⟨k0.ps.trans k1.ps.symm,k0.g.trans k1.g.symm⟩ z,λ_=>⟨λz=>absurd z (qzk em),λb le dm dr X' fs fg H' eq A xk bo _ s _ _ _ _=>?_⟩⟩;have qb:=Q75.both (nms:=nms) xk (all2 k0.nm k1.nm) em bo;refine q b _ fs fg X' H' s ⟨A,A.onDay ?_,xk,qb.nm,qb.em,k0.ru,k0.rl,k0.ps,k0.g⟩ λx=>Nat.le_trans (qb.rs x) (by have:=kn x;rw[List.length_append];exact this)
 rw[<- eq];have e0:(qdv es0 es1 0).map V.int ++ [gv (qdv ge0 ge1 0)]=eV B0.ps B0.g B0.day:=k0.o.ev;have e1:(qdv es0 es1 1).map V.int ++ [gv (qdv ge0 ge1 1)]=eV B0.ps B0.g B1.day:=by
  have:=k1.o.ev;rw[k1.ps,k1.g,<- k0.ps,<- k0.g] at this;exact this
 rw[e0,e1];exact qB6 k0.A.ok.P _ _
end
section
variable {C CR R lb:Addr} {bs:Nat->Addr} {BB:Nat->BookD} {nms:List (List Nat)} {XX:Nat->qan} {n:Nat} {H:Hp} {ru rl:Addr} {ps:List (Int×Int)} {g:Option Int} {d0 d1:Int}
theorem W75.up (w:W75 C CR R lb bs BB nms XX n H):W75 C CR R lb bs BB nms XX (n+1) H:=⟨w.hb,w.bk,w.ok,w.ap,w.nm,w.em,λx=>Nat.le_trans (w.ln x) (by omega)⟩
structure F75 (BB:Nat->BookD) (ru rl:Addr) (ps:List (Int×Int)) (g:Option Int) (d0 d1:Int):Prop where
 ru:∀ i,i<2->(BB i).ru=ru
 rl:∀ i,i<2->(BB i).rl=rl
 ps:∀ i,i<2->(BB i).ps=ps
 g:∀ i,i<2->(BB i).g=g
 d0:(BB 0).day=d0
 d1:(BB 1).day=d1
theorem W75.k (w:W75 C CR R lb bs BB nms XX n H) (f:F75 BB ru rl ps g d0 d1) {i:Nat} (hi:i<2):K75 C CR R H nms ru rl ps g (bs i) (BB i) (esD (BB i)) (geD (BB i)) (XX i):=
 ⟨w.bk i hi,⟨rfl,rfl⟩,w.ok i hi,λx hx=>by rw[w.nm i hi] at hx;exact hx,w.em i hi,f.ru i hi,f.rl i hi,f.ps i hi,f.g i hi⟩
end
theorem qB7 (ns:List Int):∃ ms:List Int,qkm (ns.map V.int) (some 4) (some 14)=ms.map V.int/\ms.length<=10:=by
 unfold qkm;rw[show (some (4:Int))=some ((4:Nat):Int) from rfl,show (some (14:Int))=some ((14:Nat):Int) from rfl,HT.sIx_nat,HT.sIx_nat];simp only[<- List.map_take,<- List.map_drop];exact ⟨_,rfl,by simp only[List.length_take,List.length_drop];omega⟩
include T in
theorem qDr {f:Addr} {fd:FuncData} (F:Fun K "law" "law" qy5 f fd):qgl P w K mg base CX0 12 f fd ["_law_script"] (qwi K):=by
 have nd:=sc_law.nd;refine F.ok sc_law (λvs H Q E h=>?_) (λcdv A outer s H vs Q E hr h=>?_)
 ·obtain ⟨a,ns,rfl,_⟩:=h;rfl
 ·obtain ⟨a,ns,rfl,hS,hn,k⟩:=h
  refine ⟨_,(qEq (qzz (jF (qm8 T) hr (jA1 (jF (qb4 T) hr (jA2 (pv 0) qab)))) (jG2 (jN 1 nd) (jN 2 nd))) (jS 3 nd (qkt (qvb T) (hr.mono (by decide)) rfl .nil (jA2 (qbt qci rfl T.b_list qfe (jA1 (pv 1))) (pv 2)))) (jS 4 nd (qak qgw (qak qa8 (jF (qb4 T) hr (jA2 (pv 0) qab)) (qak qck qab (qak qne qab qab))) (qak qne qab qab))) (qqj (i:=5) nd rfl (Or.inr rfl) (jF (qb4 T) hr (jA2 (pv 0) qab))) (qew (i:=6) (vars:=[ "_law_k" ]) (frees:=[ "_law_one" ]) (fv:=[5]) nd rfl (Or.inl rfl) rfl (jL1 rfl) ⟨⟨rfl,.inl rfl,rfl,.inl rfl⟩,trivial⟩ (qeo rfl T.b_range (jA1 (qak qa8 (jF (qb4 T) hr (jA2 (pv 0) qab)) qab))) (qc0 (by decide)) (λ_ _ _ _=>(jM 0 [ "_law_k", "_law_one" ])) (λ_ _ _ _=>qbc) (λ_ _ _ _=>(jF (qm7 T) hr (jA2 (pv 1) (pv 0))))) (jS 7 nd (qc1 (jA2 (qkt (qj9 T) (hr.mono (by decide)) rfl .nil (jA2 (pv 3) (pv 4))) (qkt (qj9 T) (hr.mono (by decide)) rfl .nil (jA2 (pv 3) (qak qa9 (pv 4) (qak qa8 (pv 5) qab))))))) (qdb PassesOwn.never rfl (qbb (pv 6)) (jN 8 nd) (jB2 (qa5 (qb5 (dvs:=[.non]) (qbz ⟨rfl,rfl,rfl⟩) (jI (pv 7) qab) T.cl_Book (qeb T) (hr.mono (by decide)) (.cons rfl .nil) (jA1 (pv 8)))) (qa5 (qb5 (dvs:=[.non]) (qbz ⟨rfl,rfl,rfl⟩) (jI (pv 7) qab) T.cl_Book (qeb T) (hr.mono (by decide)) (.cons rfl .nil) (jA1 (pv 8)))))) (qdb PassesOwn.never rfl (qbb (qdx qji (pv 0) (qee qab) (qee qab))) (jN 9 nd) (qae (qbd (jC (qx6 hr.units) (pv 6) (qc1 qes)) (qae (qa5 (jF (qid T) hr (jA5 (jI (pv 7) (qak qa8 (jF (qam T) hr (jA2 (pv 9) qab)) qab)) (pv 6) (pv 1) (pv 4) (pv 9))))) qao))) (qbd (PW.pt (qke (qda (qcu (jF (qcb T) hr (jA1 (jI (pv 7) qab))))) (qgv (qda (qcu (jF (qcb T) hr (jA1 (jI (pv 7) qab)))))))) (qae (qai qox)) qao) (jS 10 nd (jF (qm6 T) hr (jA2 (jI (pv 7) qab) (qak qa9 (pv 4) (qak qa8 (pv 5) (qak qa9 (jT (jI (pv 1) (qjb qep qab)) qab) qab)))))) (qbd (PW.pt (qke (qda (qcu (jF (qcb T) hr (jA1 (pv 10))))) (qgv (qda (qcu (jF (qcb T) hr (jA1 (jX (qgf T) hr (jA2 (pv 10) (jI (pv 7) qab)))))))))) (qae (qai qox)) qao) (qai (jF (qcb T) hr (jA1 (jF (qmg T) hr (jA2 (jX (qgf T) hr (jA2 (jI (pv 7) qab) (jI (pv 7) qab))) (pv 3))))))),?_⟩;refine ⟨_,rfl,a,ns,0,rfl,hS,by decide,_,rfl,λtt ls xs ps g H1 s1 fl htt hls hp pb=>?_⟩;refine ⟨tt,_,rfl,SqT.of htt,rfl,_,_,rfl,_,_,rfl,rfl,?_⟩;refine qkc (σ':=[some (.ref a),some (.ref ls),some (gv g),none,none,none,none,none,none,none,none]) rfl ?_
  replace hS:=qjz s1 hS
  clear s1 fl htt;dsimp only;refine ⟨_,rfl,ls,_,rfl,.inl (SqL.of hls),λl2 H2 n2=>⟨_,rfl,λru dx H3 s3 f3 d3=>?_⟩⟩;refine ⟨ru,dx,l2,xs,ps,g,rfl,d3,s3 _ _ n2.at_,(hp.same n2.same).same s3,pb.P.good,pb.P.gone,λrl H4 f4 R4 b4=>⟨rfl,qas ?_⟩⟩;have s14:Same H1 H4:=b4.same (n2.same.trans s3) (n2.same.free f3)
  replace hS:=qjz s14 hS
  replace hls:=s14 _ _ hls
  replace hp:=hp.same s14
  clear s14 b4 f4 d3 f3 s3 n2;refine qkc (σ':=[some (.ref a),some (.ref ls),some (gv g),some (.ref ru),none,none,none,none,none,none,none]) rfl ?_;have d1:0<=(ns[(1:Int).toNat]?.getD 0) % (2*10 ^ 30)/\(ns[(1:Int).toNat]?.getD 0) % (2*10 ^ 30)<2*10 ^ 30:=⟨Int.emod_nonneg _ (by decide),Int.emod_lt_of_pos _ (by decide)⟩;refine ⟨_,rfl,a,ns,1,rfl,hS,by decide,?_⟩
  generalize ns[(1:Int).toNat]?.getD 0=c1 at d1
  refine ⟨_,_,rfl,rfl,by walk_at "c",_,_,rfl,rfl,by walk_at "c",_,_,rfl,rfl,by walk_at "c",_,_,rfl,rfl,by walk_at "c",_,_,rfl,rfl,qas ?_⟩;obtain ⟨day,eday⟩:∃ day,day=c1 % (2*10 ^ 30)-10 ^ 30:=⟨_,rfl⟩;have dB:-(10 ^ 30)<=day/\day<=10 ^ 30:=by omega
  refine qkc (σ':=[some (.ref a),some (.ref ls),some (gv g),some (.ref ru),some (.int day),none,none,none,none,none,none]) (by rw[eday];rfl) ?_;clear eday d1;have hd:Bd day:=⟨by omega,by omega⟩;refine ⟨_,rfl,a,ns,2,rfl,hS,by decide,qas ?_⟩
  generalize ns[(2:Int).toNat]?.getD 0=one
  refine qkc (σ':=[some (.ref a),some (.ref ls),some (gv g),some (.ref ru),some (.int day),some (.int one),none,none,none,none,none]) rfl ?_;refine ⟨_,rfl,a,ns,3,rfl,hS,by decide,_,_,rfl,rfl,by decide,_,rfl,?_⟩;obtain ⟨N,hN⟩:∃ N:Nat,(ns[(3:Int).toNat]?.getD 0) % 4=N:=⟨((ns[(3:Int).toNat]?.getD 0) % 4).toNat,by omega⟩;have N4:N<=3:=by omega
  rw[hN];refine ⟨by omega,by omega,qlc (n:=N) (λi ys H5=>Same H4 H5/\ys=(qtp one i).map tS/\∀ x∈qtp one i,qa4 12 x) (qkb (by omega)) ⟨Same.refl _,rfl,by simp[qtp]⟩ (λi ys H5 h5=>by rw[h5.2.1];simp[qtp]) ?_ ?_⟩
  ·rintro i ys H5 hi ⟨s5,rfl,sm⟩
   refine qas (qqc (qdc ?_));refine ⟨_,rfl,_,rfl,_,_,rfl,λH6 s6 sw=>⟨s5.trans s6,?_,?_⟩⟩
   ·rw[Int.zero_add];unfold qtp;rw[List.range_succ,List.map_append,List.map_append];rfl
   ·intro x hx
    unfold qtp at hx;rw[List.range_succ,List.map_append] at hx
    rcases List.mem_append.mp hx with z|z
    ·exact sm x z
    ·have z:x=nmF one i:=by simpa using z
     rw[Int.zero_add] at sw;rw[z];exact sw
  rintro ys H5 ln H6 ⟨s5,rfl,sm⟩ n6;refine qas ?_;refine qkc (σ':=[some (.ref a),some (.ref ls),some (gv g),some (.ref ru),some (.int day),some (.int one),some (.ref ln),none,none,none,none]) rfl ?_;have s46:=s5.trans n6.same;have hnd:=qzj one (n:=N) (by omega);have hnl:(qtp one N).length=N:=by simp[qtp]
  generalize qtp one N=nms at n6 sm hnd hnl
  replace hS:=qjz s46 hS
  replace hls:=s46 _ _ hls
  replace hp:=hp.same s46
  replace R4:=R4.same s46
  have hln:=n6.at_;clear s46 s5 n6;refine ⟨_,rfl,_,rfl,λb0 dx0 H7 s7 f7 d7=>?_⟩;refine ⟨b0,dx0,ru,rl,ps,g,day,rfl,d7,R4.same s7,pb.P,pb.wb,hd,λle0 dm0 dr0 H8 B8 z1 z2 z3 b8=>⟨rfl,?_⟩⟩;have s68:Same H6 H8:=b8.same s7 f7;have m7:0<=one % 7/\one % 7<7:=by omega
  refine ⟨_,rfl,_,rfl,_,rfl,_,_,rfl,rfl,by decide,_,_,rfl,rfl,λb1 dx1 H9 s9 f9 d9=>?_⟩;obtain ⟨day1,ed1⟩:∃ day1,day1=day+one % 7:=⟨_,rfl⟩;have d1B:-(10 ^ 30)<=day1/\day1<=10 ^ 30+7:=by omega
  have hd1:Bd day1:=⟨by omega,by omega⟩;rw[<- ed1];refine ⟨b1,dx1,ru,rl,ps,g,day1,rfl,d9,(R4.same s68).same s9,pb.P,pb.wb,hd1,λle1 dm1 dr1 H10 B10 y1 y2 y3 b10=>⟨rfl,?_⟩⟩;have s810:Same H8 H10:=b10.same s9 f9;refine ⟨qkb (by simp),λlb H11 n11=>qas ?_⟩;refine qkc (σ':=[some (.ref a),some (.ref ls),some (gv g),some (.ref ru),some (.int day),some (.int one),some (.ref ln),some (.ref lb),none,none,none]) rfl ?_;dsimp only;obtain ⟨km0,hm0,_⟩:=B8.ms;obtain ⟨kr0,hr0,_⟩:=B8.rs;have s1011:=n11.same;have s811:=s810.trans s1011;have s611:=s68.trans s811;have hm0':=s9 _ _ hm0;have hr0':=s9 _ _ hr0;have dd:D75 (qdv ⟨ru,rl,le0,dm0,dr0,ps,g,day⟩ ⟨ru,rl,le1,dm1,dr1,ps,g,day1⟩):=by
   have q1:dm0≠dm1:=qac hm0' y2;have q2:dm0≠dr1:=qac hm0' y3;have q3:dr0≠dm1:=qac hr0' y2;have q4:dr0≠dr1:=qac hr0' y3;refine ⟨λi j hi hj n=>?_⟩
   rcases (show (i=0/\j=1)\/(i=1/\j=0) by omega) with ⟨rfl,rfl⟩|⟨rfl,rfl⟩
   ·exact ⟨⟨q1,q3⟩,q2,q4⟩
   ·exact ⟨⟨q1.symm,q2.symm⟩,q3.symm,q4.symm⟩
  have fx:F75 (qdv ⟨ru,rl,le0,dm0,dr0,ps,g,day⟩ ⟨ru,rl,le1,dm1,dr1,ps,g,day1⟩) ru rl ps g day day1:=⟨all2 rfl rfl,all2 rfl rfl,all2 rfl rfl,all2 rfl rfl,rfl,rfl⟩;have W0:W75 C_Book C_Roll C_Rule lb (qdv b0 b1) (qdv ⟨ru,rl,le0,dm0,dr0,ps,g,day⟩ ⟨ru,rl,le1,dm1,dr1,ps,g,day1⟩) (nms.take 0) (λ_=>[]) 0 H11:=
   ⟨n11.at_,all2 (B8.same s811) (B10.same s1011),λ_ _=>.nil,(by intro p hp;cases hp),λ_ _=>rfl,(by intro i hi p hp;cases hp),λ_=>Nat.le_refl _⟩
  have env0:Env6 K a ln ls ns nms xs ps H11:=⟨qjz s611 hS,s611 _ _ hln,s611 _ _ hls,hp.same s611⟩
  generalize qdv b0 b1=bs at W0
  generalize (qdv (BookD.mk ru rl le0 dm0 dr0 ps g day) ⟨ru,rl,le1,dm1,dr1,ps,g,day1⟩)=BB at W0 dd fx
  clear B8 B10 hm0 hr0 hm0' hr0' s1011 s811 s611 n11 s810 s68 b8 b10 s7 s9 f7 f9 d7 d9 z1 z2 z3 y1 y2 y3 hS hls hp hln R4;refine ⟨_,rfl,ln,rfl,⟨_,SqL.of env0.nm⟩,qch (xs:=nms.map tS) (λi σ H'=>∃ (XX:Nat->qan) (v8:Option V),W75 C_Book C_Roll C_Rule lb bs BB (nms.take i) XX 0 H'/\Env6 K a ln ls ns nms xs ps H'/\σ=[some (.ref a),some (.ref ls),some (gv g),some (.ref ru),some (.int day),some (.int one),some (.ref ln),some (.ref lb),v8,none,none]) ⟨_,_,W0,env0,rfl⟩ (λi σ H' _ ⟨_,_,_,z,_⟩=>SqL.of z.nm) ?_ ?_⟩
  ·clear W0 env0
   rintro i v σ H12 hxi ⟨XX,v8,W,env,rfl⟩;rw[List.getElem?_map] at hxi;obtain ⟨x,hx,rfl⟩:=Option.map_eq_some_iff.mp hxi;have sx:=sm x (List.mem_of_getElem? hx);have hni:x ∉ nms.take i:=qi8 hnd hx;have lX:∀ j,j<2->(XX j).length<=60:=λj hj=>by have:=congrArg List.length (W.nm j hj);rw[List.length_map,List.length_take] at this;omega
   refine qas (qkc (σ':=[some (.ref a),some (.ref ls),some (gv g),some (.ref ru),some (.int day),some (.int one),some (.ref ln),some (.ref lb),some (tS x),none,none]) rfl ?_);have A0:=W.bk 0 (by decide);obtain ⟨dx0,hob0⟩:=A0.ob;refine ⟨_,rfl,lb,_,_,_,rfl,rfl,SqL.of W.hb,rfl,bs 0,dx0,_,rfl,hob0,bno,_,rfl,?_⟩;refine qw4 rfl A0 sx (by rw[W.nm 0 (by decide)];exact hni) (lX 0 (by decide)) λro0 c0 H13 b13 f13 B13=>?_
   obtain ⟨km0,hm0,_⟩:=A0.ms;obtain ⟨kr0,hr0,_⟩:=A0.rs;have A1:=(W.bk 1 (by decide)).butKK b13 hm0 hr0 (dd.a 1 0 (by decide) (by decide) (by decide)).1.1 (dd.a 1 0 (by decide) (by decide) (by decide)).1.2 (dd.a 1 0 (by decide) (by decide) (by decide)).2.1 (dd.a 1 0 (by decide) (by decide) (by decide)).2.2;have hb1:H13 lb=_:=b13 _ _ W.hb (qap W.hb hm0 (by intro z;cases z)) (qap W.hb hr0 (by intro z;cases z));obtain ⟨dx1,hob1⟩:=A1.ob;obtain ⟨km1,hm1,_⟩:=A1.ms;obtain ⟨kr1,hr1,_⟩:=A1.rs;refine ⟨_,rfl,lb,_,_,_,rfl,rfl,SqL.of hb1,rfl,bs 1,dx1,_,rfl,hob1,bno,_,rfl,?_⟩;refine qw4 rfl A1 sx (by rw[W.nm 1 (by decide)];exact hni) (lX 1 (by decide)) λro1 c1 H14 b14 f14 B14=>?_
   refine ⟨_,_,by rw[qgi _ i _ hx];exact W.enrol dd hni b13 B13 f13 b14 B14 f14,env.up λz o e n1 _=>?_,rfl⟩;have e1:=b13 _ _ e (qap e hm0 (n1 _)) (qap e hr0 (n1 _));exact b14 _ _ e1 (qap e1 hm1 (n1 _)) (qap e1 hr1 (n1 _))
  clear W0 env0;rintro σ H12 ⟨XX,v8,W,env,rfl⟩;rw[List.length_map,List.take_length] at W;obtain ⟨cs,ec,hcs⟩:=qB7 ns;refine ⟨_,rfl,_,rfl,_,rfl,a,_,rfl,env.sc,λlc H16 n16=>?_⟩;rw[ec] at n16;refine ⟨lc,rfl,⟨_,SqL.of n16.at_⟩,qch (xs:=cs.map V.int) (λi σ H'=>∃ (XX:Nat->qan) (v9:Option V),W75 C_Book C_Roll C_Rule lb bs BB nms XX i H'/\Env6 K a ln ls ns nms xs ps H'/\H' lc=some (.lst (cs.map V.int))/\σ=[some (.ref a),some (.ref ls),some (gv g),some (.ref ru),some (.int day),some (.int one),some (.ref ln),some (.ref lb),v8,v9,none]) ⟨XX,_,W.same n16.same,env.same n16.same,n16.at_,rfl⟩ (λi σ H' _ ⟨_,_,_,_,z,_⟩=>SqL.of z) ?_ ?_⟩
  ·clear W env n16
   rintro i v σ H17 hxi ⟨XX,v9,W,env,hlc,rfl⟩;obtain ⟨d,rfl⟩:∃ d,v=V.int d:=by
    obtain ⟨d,_,e⟩:=List.mem_map.mp (List.mem_of_getElem? hxi);exact ⟨d,e.symm⟩
   have i10:i<10:=by have:=(List.getElem?_eq_some_iff.mp hxi).1;rw[List.length_map] at this;omega
   refine qas (qkc (σ':=[some (.ref a),some (.ref ls),some (gv g),some (.ref ru),some (.int day),some (.int one),some (.ref ln),some (.ref lb),v8,some (.int d),none]) rfl ?_);refine ⟨_,rfl,Nat.zero_le _,λl18 H18 n18=>?_⟩;refine ⟨ln,l18,_,rfl,rfl,SqL.of (n18.same _ _ env.nm),n18.at_,_,rfl,?_⟩;have W':=W.same n18.same;have env':=env.same n18.same;have hlc':=n18.same _ _ hlc
   by_cases hne:nms=[]
   ·rw[decide_eq_false (by rw[hne];simp)]
    exact qdy ⟨XX,_,W'.up,env',hlc',rfl⟩
   ·rw[decide_eq_true (by intro z;exact hne (List.map_eq_nil_iff.mp z))]
    refine qdc ?_;have n1:1<=nms.length:=by cases nms with
     | nil=>exact absurd rfl hne
     | cons _ _=>simp
    refine ⟨_,rfl,_,rfl,_,_,rfl,by decide,by decide,λm5 m50 m51=>?_⟩;obtain ⟨c,hc⟩:∃ c:Nat,m5 % 2=(c:Nat):=⟨(m5 % 2).toNat,by omega⟩;have c2:c<2:=by omega
    have hget:[V.ref (bs 0),V.ref (bs 1)][c]?=some (.ref (bs c)):=by
     rcases (show c=0\/c=1 by omega) with rfl|rfl<;>rfl
    refine ⟨_,_,rfl,rfl,by decide,lb,_,_,_,rfl,rfl,SqL.of W'.hb,qDq hc hget,_,rfl,_,rfl,_,rfl,_,rfl,?_⟩;refine ⟨bs c,ln,ls,BB c,_,_,XX c,nms,xs,ps,g,day,d,rfl,W'.bk c c2,W'.ok c c2,env'.nm,env'.st,env'.pr,pb,⟨by omega,by omega⟩,⟨n1,by omega⟩,λx hx=>⟨sm x hx,by rw[W'.nm c c2];exact hx⟩,λp hp=>by have:=W'.one c2 hp;omega,λx e rs H19 hx hl A19 b19=>?_⟩;obtain ⟨⟨Y,hY⟩,⟨Z,hZ⟩⟩:=(W'.bk c c2).dicts hx;exact ⟨_,_,W'.put c2 hx hl A19 b19,env'.up λz o e _ n2=>b19.keep hY hZ e n2,b19.keep hY hZ hlc' (by intro K z;cases z),rfl⟩
  clear W env n16 dd;rintro σ H17 ⟨XX,v9,W,env,hlc,rfl⟩;rw[List.length_map] at W;have kn:∀ x,(rsB (XX 0) x).length+(rsB (XX 1) x).length<=96:=λx=>by have:=W.ln x;omega
  have kn0:∀ x,(rsB (XX 0) x).length<=96:=λx=>by have:=kn x;omega
  have kn1:∀ x,(rsB (XX 1) x).length<=96:=λx=>by have:=kn x;omega
  have l3:nms.length<=4:=by omega
  clear hlc;refine ⟨_,rfl,lb,_,_,_,rfl,rfl,SqL.of W.hb,rfl,(W.k fx (i:=0) (by decide)).right sm l3 kn0 λH18 s18=>⟨_,rfl,qdy ?_⟩⟩
  replace W:=W.same s18
  replace env:=env.same s18
  refine ⟨_,rfl,lb,_,_,_,rfl,rfl,SqL.of W.hb,rfl,(W.k fx (i:=1) (by decide)).right sm l3 kn1 λH19 s19=>⟨_,rfl,qdy ?_⟩⟩
  replace W:=W.same s19
  replace env:=env.same s19
  clear s18 s19;obtain ⟨p,hpl,ep⟩:=pb.P.last;obtain ⟨v,hv,ap,rfl,ha⟩:=env.pr.get' hpl;have xl:=env.pr.length;have g1:=pb.P.good.lo;have pbb:=pb.b p (List.mem_of_getElem? hpl);have pps:=pb.P.size _ p hpl;have m9:0<=one % (p.2+9)/\one % (p.2+9)<p.2+9:=⟨Int.emod_nonneg _ (by omega),Int.emod_lt_of_pos _ (by omega)⟩;have hD:Bd (day+one % (p.2+9)):=⟨by omega,by omega⟩;have k0:=W.k fx (i:=0) (by decide);have hle:(BB 0).day<=day+one % (p.2+9):=by rw[fx.d0];omega
  obtain ⟨fs,fg,U⟩:=qDm k0.A.ok.P hD k0.A.ok.E k0.A.ok.F;refine ⟨_,rfl,lb,_,_,_,rfl,rfl,SqL.of W.hb,rfl,_,rfl,_,rfl,_,rfl,_,rfl,ls,xs,-1,_,rfl,rfl,SqL.of env.st,qhe (by rw[xl];exact hv),ap,_,1,_,rfl,rfl,SqT.of ha,rfl,_,_,rfl,rfl,_,_,rfl,rfl,by walk_at "c",_,_,rfl,rfl,?_⟩;refine ⟨bs 0,BB 0,_,_,XX 0,_,fs,fg,rfl,k0.A,k0.good sm l3 kn0,hD,hle,U,λb' le dm dr X' H20 A' xk mv fr s20 _ _ _ _=>qas ?_⟩;rw[fx.ru 0 (by decide),fx.rl 0 (by decide),fx.ps 0 (by decide),fx.g 0 (by decide)] at A';rw[fx.ps 0 (by decide),fx.g 0 (by decide)] at U;obtain ⟨kL,rL⟩:=k0.mv U hle A' xk mv;refine qkc (σ':=[some (.ref a),some (.ref ls),some (gv g),some (.ref ru),some (.int day),some (.int one),some (.ref ln),some (.ref lb),v8,v9,some (.ref b')]) rfl ?_
  replace W:=W.same s20
  clear A' xk mv fr s20 U k0 hle hD m9 pps pbb env;refine ⟨_,rfl,kL.right sm l3 (λx=>Nat.le_trans (rL x) (kn0 x)) λH21 s21=>⟨_,rfl,qdy ?_⟩⟩
  replace W:=W.same s21
  replace kL:=kL.same s21
  refine ⟨_,rfl,_,rfl,lb,_,_,_,rfl,rfl,SqL.of W.hb,rfl,qw6 kL (W.k fx (i:=1) (by decide)) sm l3 (λx=>by have:=rL x;have:=kn x;omega) λb2 B2 es2 ge2 X2 H22 s22 k2 kn2=>?_⟩;refine k2.right sm l3 kn2 λH23 s23=>⟨_,rfl,qdy ?_⟩
  replace W:=(W.same s22).same s23
  clear kL rL k2 s21 s22 s23 kn2;refine ⟨_,rfl,lb,_,_,_,rfl,rfl,SqL.of W.hb,rfl,_,rfl,lb,_,_,_,rfl,rfl,SqL.of W.hb,rfl,qw6 (W.k fx (i:=1) (by decide)) (W.k fx (i:=0) (by decide)) sm l3 (λx=>by have:=kn x;omega) λb3 B3 es3 ge3 X3 H24 s24 k3 kn3=>?_⟩;obtain ⟨fs3,fg3,U3⟩:=qDm (D:=B3.day) pb.P k3.A.ok.hd k3.A.ok.E (by have:=k3.A.ok.F;rw[k3.ps] at this;exact this);have R3:=k3.A.rule;rw[k3.ru,k3.rl,k3.ps,k3.g] at R3;refine ⟨_,rfl,b3,B3,es3,ge3,X3,ru,rl,ps,g,fs3,fg3,rfl,k3.A,k3.good sm l3 kn3,R3,pb.P,pb.wb,by rw[k3.ps],U3,λb4 le4 dm4 dr4 X4 H25 A4 xk4 mv4 fr4 s25 _ _ _ _=>?_⟩;obtain ⟨k4,r4⟩:=k3.mv U3 (Int.le_refl _) A4 xk4 mv4;exact k4.right sm l3 (λx=>Nat.le_trans (r4 x) (kn3 x)) λH26 _=>k H26
end
theorem walk {l:PySem.W.OpenLaw} {q:Program} {loose:List Str} {XP:(Str->Option Value)->Heap->Prop} {YP:World->Heap->Prop} {d:DefRec} {K:Params->Frag} (hn:l.most=some 63) (hdf:d.params.defaults=[]) (hdn:d.name = "law")
  (hY:∀ (w:World) (h:Heap),YP w h->(K w.params).In h)
  (F:∀ (w:World) (mg:Str->Option Value) (h:Heap),(K w.params).In h->h.Ns mainGlobals mg->∃ C_Roll C_Rule C_Book C_BookError C_NoNumber C_NoRule C_Backward C_NoName C_NoMark,Txt (K w.params) mg C_Roll C_Rule C_Book C_BookError C_NoNumber C_NoRule C_Backward C_NoName C_NoMark) :
  PySem.W.WalkO q loose XP YP l.row.toRowW d [] (λf vs=>PySem.call f vs):=by
 refine L2.qxt (n:=63) (k:=12) (x:= "_law_script") (CX:=λ_=>CX0) (sp:=λw=>qwi (K w.params)) hn (by decide) hdf ⟨rfl,by decide,by decide⟩ hY (λw mg fa h kin ns hm=>?_) (λ_ _ a ns hl _ hS=>⟨a,ns,rfl,hS,hl,λ_=>rfl⟩) λ_ _ _ _ _ z=>z
 obtain ⟨C_Roll,C_Rule,C_Book,C_BookError,C_NoNumber,C_NoRule,C_Backward,C_NoName,C_NoMark,T⟩:=F w mg h kin ns;obtain ⟨f,fd,Fu,hm'⟩:=T.f_law;rw[hdn,hm'] at hm;cases hm;refine ⟨fd,?_,λbase kb nb=>qDr T Fu⟩;obtain ⟨oc,od,kV,doc,pm,an,cdv,ct,osl,rfl,lk,hcd⟩:=Fu.ex;exact λs u=>.of_eq rfl
end TB
local macro_rules|`(universe $x*)=>do return Lean.mkNullNode (<- x.mapM fun y=>`(command|theorem $y:ident :True:=⟨⟩))
namespace PySem.W.Fast
universe tw14783804035539408729 tw9173607784721237181 tw17938940100751467979 tw9294931252466339624 tw4173552246500805906 tw5414147888766014728 tw13971173206851547672 tw14821911453819221502 tw4572402560858458383 tw15977549043848487491 tw7701546891937110982 tw3428243197578272856 tw2042588373223681090 tw6407439730805773693 tw18138732804056654691 tw11271293306240343353 tw3246871567605046583 tw12409028118364248814 tw14152992393078157515 tw727263348268562610 tw12708157332462839633 tw6471632508156926913 tw16719027631443839263 tw8588865742918820169 tw5621695525770604185 tw3901526344462163750 tw1397805336400075741 tw4425492919669930669 tw17405578982881244741 tw4508194516039168328 tw15098953328861769624 tw13117564526068400864 tw12637549039104407787 tw2671011853225198041 tw9814140452681011630 tw1956216379777297854 tw5702263520170130489 tw7401114866246253169 tw6117101715641966166 tw15085204250637084583 tw5154994855168464040 tw6494083899050922143 tw3339728114979623349 tw18220247769097047159 tw15618500972386246376 tw8258424349004548987 tw3891940767637801455 tw370669928014203031 tw7972077377125742431 tw4785970056803712402 tw152568693002600938 tw8047127630720882829 tw15908828720788470116 tw3242411078848803833 tw3636154002503112582 tw5248757059997131294 tw10536790531211410955 tw2186388419468816551 tw13891152308075339130 tw13598347656716435930 tw11923280217344099247 tw8964998768070753999 tw13422896523088786054 tw12514575132586454584 tw17077312550914037399 tw5421267525820554115 tw5649853039069493871 tw15392021280328062597 tw3903054373406867000 tw16168682311125834277 tw35230523111089099 tw12129639503916451579 tw2744148590608738748 tw11765475206902442563 tw8309429389594429165 tw10218858895742871406 tw12053644752281757266 tw3386704254322071978 tw1221394121481393497 tw15420770694363746487 tw9540275171280112440 tw17308315818521931654 tw3642543500559681292 tw11097963309286628497 tw484891032121816284 tw9441333471473669075 tw2839165608064275330 tw7300724000983608072 tw3625234498815283982 tw12454077138105433390 tw5473142120477233832 tw5031600400881643731 tw9876998280070107997 tw10825856164537404232 tw7317804747462419161 tw17257457791932117306 tw4122140650479010769 tw2411812309430955273 tw12245202068759838924 tw1486986157607984521 tw520313599625069577 tw10844145504656477938 tw6746170299975589219 tw10830427298316200698 tw10932694815124722657 tw13721727405870603304 tw1944519625487149471 tw5205436538522281141 tw12798465919601963805 tw1257009853108413680 tw10947652463113998602 tw5024178892608143956 tw5804773186957927142 tw16153037923376153124 tw12105768185823008594 tw11624650808292680865 tw1064314215565144328 tw17368634054849751777 tw17995387375586569775 tw10726697684718788348 tw14149584711857682049 tw7511408904458753847 tw1006383664033931233 tw5839570316949470075 tw16140645216608810318 tw15601937070438954294 tw15081844553837986531 tw15562167662047345664 tw1164197760804574429 tw9978401905210242737 tw6507102503134407227 tw10348143841730717390 tw6619117752011534935 tw13727486759530570304 tw7713524005068395985 tw5659789864072324376 tw3704002719449181566 tw17610302929223698896 tw4949025882694952588 tw15818345692450474190 tw2302217566020281419 tw16146275869495620326 tw8606981154264247822 tw5312519623117612015 tw6207774889032633727 tw4823859921522414138 tw4109118545867623264 tw11571472825129534551 tw7159791770760305298 tw11010756723874416879 tw12625889550092770108 tw7799278626186305062 tw13018309792578308018 tw16429406114160950259 tw5527300145975369265 tw7859401199746473026 tw11357275090453565850 tw7464366072990701770 tw448193786802377389 tw7248367235493594669 tw10164769392466368016 tw2440175873057245303 tw1038127540789745562 tw9461528106120227664 tw5835346238847771504 tw10923401974120538511 tw2403924543254375984 tw16113316151814291086 tw10811944783040502873 tw12850346455218560534 tw14803658335104177680 tw17115458480808742238 tw11873075301876896301 tw9057987015453963800 tw12276490189438179254 tw7169496620977823671 tw16892991022951757635 tw12297773844484461854 tw10714646089233152423 tw1037459953091050665 tw8765327490710554548 tw17720032759064387967 tw9056400487657449470 tw6873914639316924324 tw15038895428850984958 tw14481279390480687572 tw8394010072799308652 tw5433519618925762077 tw8620026995174809607 tw7975323616631662482 tw8704139623781369135 tw14938474789859842845 tw2985204813520290549 tw10444011686757813898 tw4356155127467742770 tw14931203752472583477 tw12357205405178213517 tw5145642741846478950 tw2135070931080820430 tw12814291765020948952 tw6221884910650927740 tw3276044392234369446 tw15033842249334400120 tw10667769920407695164 tw2990171517657607095 tw10937013258308710304 tw10316991060302649620 tw10169274383616168050 tw5947563365085439881 tw2206588292978255078 tw18067396299411524128 tw8317170381981780777 tw14778127706727224780 tw10419855607771830309 tw9277061029280750850 tw13013178119034760064 tw17761579419418936351 tw3427814042300208477 tw12712369001832913187 tw16801256585925567677 tw5992267716823999100 tw17983099314521998137 tw1487897330361986221 tw1994527847207643011 tw131578217939052447 tw12500525539417615333 tw9412428130970192128 tw6785038172892595984 tw3627495993030622790 tw18215500895021969701 tw877907124820356576 tw15896884229772807344 tw10799728855465856645 tw11403244172863093582 tw9561398127742141737 tw2779756518235263979 tw14595914822297284456 tw18066784983317207304 tw10851551282855828977 tw10437249589672021375 tw11055369838570878381 tw1429230824756387185 tw3121673100595506580 tw1802700915541536460 tw9623012335753543401 tw17033781160398193708 tw1340162878869343177 tw12599004514482662623 tw1693597488569568375 tw4096916473095962519 tw915613912584443604 tw7882162404219506029 tw6492835475945118352 tw9242468298984927158 tw13089439969049009497 tw6549338799427883343 tw14010179875990272459 tw12539396807372061530 tw16018518898076253947 tw17217502549340090941 tw16049398770853219127 tw13982368059984411909 tw686157876650523212 tw16211476560966633141 tw3928399721014294641 tw16588418821861505961 tw8736000438155408043 tw17031769248007382010 tw10198672831062649699 tw6679993132040916010 tw17530344743027520218 tw16046665947171970427 tw17995139884152059994 tw11229536417085753105 tw16916947612234700292 tw13342097796644353186 tw1464816166429933924 tw6785210960686427111 tw6766156857450385628 tw14896541924578643188 tw15957949544903083332 tw12791505201921531430 tw5822780366299867855 tw4845525382330787883 tw3107788377297775307 tw16493959858276821778 tw1721244410199379808 tw3017582851695229859 tw17459688333695841448 tw13021173875189708986 tw14736033964410506052 tw16532927641560568160 tw1632596380394679590 tw11662784134000580616 tw3660929011240284645 tw18446292376346885930 tw16370164425181285159 tw17981126634612321454 tw13526053330792230783 tw12137840818829238157 tw5226573476201757801 tw16157514526829151433 tw5196745395073809140 tw3027851123649989564 tw10430738180596413905 tw4171328287622111344 tw9058511437876406904 tw9096610491153831713 tw14345008104209374528 tw11010968849515444476 tw6370009404967569754 tw957161684773770372 tw8995864335636343050 tw9455186424835540302 tw14595676106528164875 tw11463992809746986415 tw10717318870385917658 tw8998323935122948120 tw4687944775065020347 tw12817187333902660529 tw12266363743972149056 tw3380356411262731267 tw18031364736834370195 tw16770632381456710633 tw13701526734976642384 tw9712817069157864561 tw4977719497728414167 tw7754050393181986207 tw15255589940237755096 tw1461331332518840488 tw8163890864291587 tw15150335555914743634 tw10418806792788777696 tw9808185696918780049 tw1294198987650144301 tw4383206272955433231 tw220290516527812188 tw13791226153030071723 tw5372400151555300565 tw7179728990295054436 tw13205545225550808328 tw13649467624309365344 tw379873787837799547 tw8203664056251457330 tw16944629571276659206 tw1647972516497218324 tw12751764153070746459 tw12819148070869213978 tw11256449857082398521 tw12051185890789600303 tw9098736076826841591 tw7527048857963103004 tw5151728025688995610 tw4866601487813293422 tw15119334147238004218 tw11188604273987314998 tw15224576871870296034 tw745033294254628533 tw12439034087131904580 tw9466330145899883776 tw7009144118134304906 tw6633545772090973015 tw3501143184738518237 tw6811468717671271195 tw11044514706836603715 tw14540497944546300326 tw8594688516191305502 tw1948840144102959462 tw17388450821898099821 tw3410306063404759637 tw13430958777258403389 tw1944005642791462522 tw8692102767275537410 tw2529211675694551367 tw12296885389903368095 tw153823761742099536 tw10226614682165566083 tw9378289588803192971 tw12831865323184349853 tw11689249141888562341 tw835296664302644929 tw12260467427955248676 tw5219870784509930210 tw7579415439147976946 tw5950661531073660123 tw18014120437876179491 tw9945276879286761585 tw5548762673074587324 tw15979351843586237843 tw13879382818883385078 tw10120590353545140806 tw2955857763062526118 tw15614294457670426017 tw7149857238030933674 tw209981550703278018 tw5762397609210573701 tw4339111928053314998 tw15995306740028586025 tw14838418356546827533 tw13355358447860407798 tw10302276135956011001 tw7049408240052469985 tw2398982913632052418 tw8664365276982520788 tw2574992577993807343 tw15833437386918907315 tw14679722056534436627 tw9725981303212359505 tw8661370810125111467 tw715363341171943156 tw5964070986134659459 tw5876931049716505343 tw2312645511763456027 tw15443375979657133605 tw14451848600568981058 tw12305456138689116059 tw5190906556917591824 tw2789582259039201553 tw1900990808276354003 tw12774693407881892134 tw9281927325136760709 tw1946520308209686228 tw17271494922439779469 tw16066343562279965761 tw1024789379803818118 tw17312055920112203170 tw14575404760799748797 tw15977879510003278151 tw8210167503826841896 tw7507794448603627707 tw7407674030784659419 tw12058731661696039146 tw8658404377400292573 tw8054328079839638874 tw6963983885483577589 tw5347976475187285317 tw4463586300586962005 tw16733636963193620850 tw15018857853289799052 tw14088041101591558962 tw12135193350428287377 tw10689560349356875734 tw10057831414684749175 tw2754096376681857937 tw15865029218005025587 tw9833439232936932428 tw8970360772771114176 tw7345406706673657462 tw7146674527663795320 tw67937643285822822 tw5001080656528062229 tw4129013890797388854 tw34801621846006848 tw18406952549309221353 tw12813645464924494178 tw9933281914778223613 tw5165487902891175472 tw4848827007195294172 tw4105024962040956341 tw3957768151698655099 tw3876525056734271692 tw17869721517104341561 tw16058575575733606117 tw10939393108510758693 tw15144605310032710461 tw17950121186274107415 tw14688023871023776815 tw11929095999903388397 tw9474131108382414646 tw7048975653746524719 tw4375695401425984688 tw14468530745077637794 tw11424703602531663734 tw8896756605809435585 tw5641360041216758509 tw5034708147414167371 tw3290624670639571235 tw3126684893869592 tw2703045518244186632 tw1952538260489467848 tw13308020418473922055 tw10304031850021711829 tw5860810376349296531 tw2041350852925870653 tw17382272363228140491 tw16379295680301217826 tw9319960278427003192 tw8620708955114236520 tw7869599235549113573 tw9971511426159744968 tw9960321295373062184 tw9622950351075164274 tw9599405436542607941 tw9278278332592955369 tw9250913282024083427 tw9221256240995043419 tw9221030552867924487 tw9128169899511758605 tw9000421239312885721 tw8990105069490446145 tw8977850302777148868 tw8954285009211132151 tw8919349397945297984 tw8773631639143702369 tw8686231859903750095 tw8456586442951221581 tw8417397565323320462 tw8305869445272646244 tw8128410319999953654 tw8022223634209789015 tw7985695875195078438 tw7845554038889161018 tw77713274893398699 tw7465694305775244614 tw7289438469420262603 tw7254617358698805325 tw718749777970359580 tw7175211665538434608 tw6941328440496261957 tw6919732784317958199 tw6629266363068312872 tw6439747429996746976 tw6426685016868762703 tw642649053722299448 tw6382085411927869471 tw6050735165050259466 tw6030846898184902987 tw6008249063980912504 tw5919580993565566209 tw5848027474487909096 tw5827097365071205303 tw5789103293251363441 tw5701803507928328430 tw5681575433454453739 tw5656164179254836470 tw5648078219202277582 tw5600622791936386009 tw5582971070093113632 tw5526704134151387855 tw5422129404564346610 tw5202324164271379674 tw5185222397691391204 tw5166059573995198372 tw486001736799477332 tw4801180003900029735 tw4738876438749052592 tw4461606781345844399 tw4419349093041582618 tw4401322290155376040 tw4300347985961105881 tw4153743650239099534 tw4153334306913838969 tw400468470994741657 tw3937807491839972446 tw3669052494324961242 tw348086392708825940 tw3465571149971109603 tw3432095027398883658 tw3304127939406660789 tw3239748809350555075 tw322129652218894449 tw3132690457695720580 tw3122865438631057852 tw3053840502670767384 tw2699260878695550812 tw2646668017288695625 tw2472716972686804260 tw2446680011334230477 tw2426502390918127876 tw2397749403114243624 tw2368493501192818033 tw2321119981954521352 tw2232049636121054214 tw2121442119843808867 tw2092623219482457168 tw2044689669441659761 tw18376118182154199747 tw18262458955780686881 tw18260058988089745276 tw18215194330126446270 tw18208406240646498472 tw18196715800209267676 tw18108384613209928630 tw18042103965669622201 tw17809813608493932686 tw17781025761698761021 tw17714538515852235516 tw17694124179311574817 tw17673574250452922427 tw17413578025590811986 tw17362061310352780220 tw17324481412199877398 tw17297290887311581271 tw17200832762158734543 tw17063118312900022123 tw17024823816474372924 tw16954371991317370956 tw16763049479436147152 tw16383563770401764767 tw16196662213746762352 tw16144535551451819070 tw1608716088426334517 tw15889305552268338807 tw15839496636638217202 tw15732174473071469910 tw15685385693879921150 tw15511106264449910093 tw15370170105923947362 tw15333892596770460703 tw15235569553635371230 tw14937183173935038187 tw14818398172652728530 tw1462521188745797217 tw14550762810352434363 tw1449848107468937128 tw14456385141409757823 tw14408840928000619831 tw14401113089415751801 tw14304557269542557020 tw14209886750230742507 tw14199589982491646166 tw14196895730114317657 tw13990516167543504001 tw13887584543473253218 tw13867010853387552706 tw1379598284220121945 tw13563864690120684691 tw13516957722164744475 tw134767222108961817 tw132219825067863411 tw13170325484245739828 tw12962427153826345007 tw1289262862159863563 tw12806382380018602109 tw12735877774753913514 tw12647124818705739529 tw1236045463648124836 tw1208951841302180091 tw12080576654240074444 tw1205900359092218011 tw11912902236465429304 tw11860119534658841258 tw11832982263784351539 tw11687547906504571917 tw116303812493943614 tw11553203315224930971 tw1152714349271250223 tw11519580446599894056 tw11483596334678894382 tw11472644748946119880 tw11447687817859655469 tw11406712118798988989 tw11401105521957463839 tw11388641802362741731 tw11307847724206307482 tw11243004990350543768 tw11187319907518975405 tw1113680838187417270 tw11068579082854389549 tw10929142824349948721 tw10560108267681479306 tw10469474736606741661 tw10437456160883329575 tw10377423471652800961 tw10360066566546433589 tw10241681215715772136
end PySem.W.Fast
open PySem PySem.W PyProof.Rows
set_option maxRecDepth 100000 in
set_option maxHeartbeats 0 in
theorem PySem.Challenge.cw_thinbook_k75_the_size_holds : PySem.Challenge.rw_thinbook_k75_the_size.Holds := by
 w_on;o_law;k_head;(case hw=>w_witness2)
 k_fill
 refine TB.walk (l:=PySem.Challenge.rw_thinbook_k75_the_size) rfl rfl rfl (λw h Y=>PySem.W.kIn_of Y) ?F
 case F =>
  intro w mg h KX G;refine' TB.qBv ?a0 ?a1 ?a2 ?a3 ?a4 ?a5 ?a6 ?a7 ?a8 ?T
  (case a0|a1|a2|a3|a4|a5|a6|a7|a8=>k_is)
  refine' ⟨TB.fnG KX G ?_ ?_ ?_ ?_,TB.fnG KX G ?_ ?_ ?_ ?_,TB.fnG KX G ?_ ?_ ?_ ?_,TB.fnG KX G ?_ ?_ ?_ ?_,TB.fnG KX G ?_ ?_ ?_ ?_,TB.fnG KX G ?_ ?_ ?_ ?_,TB.fnG KX G ?_ ?_ ?_ ?_,TB.fnG KX G ?_ ?_ ?_ ?_,TB.fnG KX G ?_ ?_ ?_ ?_,TB.fnG KX G ?_ ?_ ?_ ?_,TB.fnG KX G ?_ ?_ ?_ ?_,TB.fnI ?_ ?_ ?_ ?_ ?_ ?_ ?_,TB.qD5 ?_ ?_ ?_ ?_ ?_ ?_,TB.fnM ?_ ?_ ?_ ?_ ?_,TB.fnM ?_ ?_ ?_ ?_ ?_,TB.fnM ?_ ?_ ?_ ?_ ?_,TB.fnM ?_ ?_ ?_ ?_ ?_,TB.fnM ?_ ?_ ?_ ?_ ?_,TB.fnM ?_ ?_ ?_ ?_ ?_,TB.fnM ?_ ?_ ?_ ?_ ?_,TB.fnM ?_ ?_ ?_ ?_ ?_,TB.fnG KX G ?_ ?_ ?_ ?_,TB.fnG KX G ?_ ?_ ?_ ?_,TB.fnG KX G ?_ ?_ ?_ ?_,TB.fnG KX G ?_ ?_ ?_ ?_,TB.fnG KX G ?_ ?_ ?_ ?_,TB.fnG KX G ?_ ?_ ?_ ?_,TB.fnG KX G ?_ ?_ ?_ ?_,TB.qEy ?_ ?_ ?_ ?_ ?_ ?_ ?_ ?_,TB.fnM ?_ ?_ ?_ ?_ ?_,TB.fnM ?_ ?_ ?_ ?_ ?_,TB.fnM ?_ ?_ ?_ ?_ ?_,TB.fnG KX G ?_ ?_ ?_ ?_,TB.fnG KX G ?_ ?_ ?_ ?_,TB.fnG KX G ?_ ?_ ?_ ?_,TB.fnG KX G ?_ ?_ ?_ ?_,TB.fnG KX G ?_ ?_ ?_ ?_,TB.fnG KX G ?_ ?_ ?_ ?_,TB.fnG KX G ?_ ?_ ?_ ?_,TB.fnI ?_ ?_ ?_ ?_ ?_ ?_ ?_,TB.qEx ?_ ?_ ?_ ?_ ?_ ?_,TB.fnM ?_ ?_ ?_ ?_ ?_,TB.fnM ?_ ?_ ?_ ?_ ?_,TB.qD5 ?_ ?_ ?_ ?_ ?_ ?_,TB.fnM ?_ ?_ ?_ ?_ ?_,TB.fnM ?_ ?_ ?_ ?_ ?_,TB.fnM ?_ ?_ ?_ ?_ ?_,TB.fnM ?_ ?_ ?_ ?_ ?_,TB.fnM ?_ ?_ ?_ ?_ ?_,TB.fnM ?_ ?_ ?_ ?_ ?_,TB.fnG KX G ?_ ?_ ?_ ?_,TB.fnG KX G ?_ ?_ ?_ ?_,TB.fnG KX G ?_ ?_ ?_ ?_,TB.fnG KX G ?_ ?_ ?_ ?_,TB.fnG KX G ?_ ?_ ?_ ?_,TB.fnG KX G ?_ ?_ ?_ ?_,TB.fnG KX G ?_ ?_ ?_ ?_,TB.fnG KX G ?_ ?_ ?_ ?_,TB.fnG KX G ?_ ?_ ?_ ?_,TB.fnG KX G ?_ ?_ ?_ ?_,TB.fnG KX G ?_ ?_ ?_ ?_,TB.fnG KX G ?_ ?_ ?_ ?_,TB.fnG KX G ?_ ?_ ?_ ?_,⟨?_,?_,?_,?_⟩,mg_of KX G ?_,TB.naI ?_,TB.naI ?_,TB.naI ?_,TB.naI ?_,TB.naI ?_,⟨?_,?_,?_,?_⟩,mg_of KX G ?_,TB.naI ?_,TB.naI ?_,⟨?_,?_,?_,?_⟩,mg_of KX G ?_,TB.naI ?_,TB.naI ?_,TB.naI ?_,TB.naI ?_,TB.naI ?_,mg_of KX G ?_,mg_of KX G ?_,mg_of KX G ?_,mg_of KX G ?_,mg_of KX G ?_,mg_of KX G ?_,TB.exI ?h1,⟨?_,?_,?_,?_,?_,?h2⟩,?_,?h3,?h4,?h5,?h6,?h7,?h8,?h9,TB.exI ?h10,⟨?_,?_,?_,?_,?_,?h11⟩,?_,?h12,?_,?h13,?h14,?h15,?h16,?h17,?h18,TB.exI ?h19,⟨?_,?_,?_,?_,?_,?h20⟩,?_,?h21,?h22,?_,?h23,?h24,?h25,?h26,?h27,⟨?_,?_,?_,?_,?_,?h28⟩,?_,?h29,?h30,?h31,?_,?h32,?h33,?h34,?h35,TB.exI ?h36,⟨?_,?_,?_,?_,?_,?h37⟩,?_,?h38,?h39,?h40,?h41,?_,?h42,?h43,?h44,TB.exI ?h45,⟨?_,?_,?_,?_,?_,?h46⟩,?_,?h47,?h48,?h49,?h50,?h51,?_,?h52,?h53,mg_none_of KX G ?_,mg_none_of KX G ?_,mg_none_of KX G ?_,mg_none_of KX G ?_,mg_none_of KX G ?_,mg_none_of KX G ?_,mg_none_of KX G ?_,mg_none_of KX G ?_,mg_none_of KX G ?_,mg_none_of KX G ?_,mg_none_of KX G ?_,mg_none_of KX G ?_,mg_none_of KX G ?_,mg_none_of KX G ?_,mg_none_of KX G ?_,TB.cI KX G ?_,TB.cS KX G ?_,TB.cI KX G ?_,TB.cI KX G ?_,TB.cI KX G ?_⟩
  (case h1|h10|h19|h36|h45=>k_exc)
  (case h2|h11|h20|h28|h37|h46=>kts_isx)
  (case h3|h4|h5|h6|h7|h8|h9|h12|h13|h14|h15|h16|h17|h18|h21|h22|h23|h24|h25|h26|h27|h29|h30|h31|h32|h33|h34|h35|h38|h39|h40|h41|h42|h43|h44|h47|h48|h49|h50|h51|h52|h53=>kit_is)
  all_goals try k_is
