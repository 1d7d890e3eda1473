import PyProof.Rows.All
import Wide.All
import OpenK.AllK
import Wide.FinOn
import Lean
import PyProof.EqAt
import PyProof.EqKinds
import PyProof.TupleCall
import PySem.Challenge.RW_thinbook_k74_a_book_at_once
local macro_rules | `(tactic| omega) => `(tactic| lia)
set_option Elab.async false
set_option linter.all false
set_option maxRecDepth 100000
open PySem.W (Frag nsIn fnOf codeIn keepIn mg_of)
namespace L2
open PySem PySem.Spec PyProof.Rows
abbrev Key:=Sum Int Str
def qom:Key->Value->Bool
 | .inl k,v=>Value.isInt k v
 | .inr x,v=>Value.isStrOf x v
def qCw (w:World):Key->Int
 | .inl k=>hashInt k
 | .inr x=>hashStr w x
theorem qa9:∀ {k:Key} {v:Value},qom k v=true->(∃ i t,k=Sum.inl i/\v=Value.int i t)\/(∃ x t,k=Sum.inr x/\v=Value.str x t)
 | .inl i,v,h=>by
  obtain ⟨t,e⟩:=Value.isInt_shape (k:=i) (v:=v) h;exact .inl ⟨i,t,rfl,e⟩
 | .inr x,v,h=>by
  obtain ⟨t,e⟩:=Value.isStrOf_shape (x:=x) (v:=v) h;exact .inr ⟨x,t,rfl,e⟩
theorem qpr (i:Int) (t:Tok):qom (.inl i) (.int i t)=true:=by simp[qom,Value.isInt]
theorem qps (x:Str) (t:Tok):qom (.inr x) (.str x t)=true:=by simp[qom,Value.isStrOf]
theorem qx6 (a b:Int):decide ((Sum.inl a:Key)=Sum.inl b)=(a == b):=by
 by_cases e:a=b
 ·subst e;simp
 ·have h:¬ (Sum.inl a:Key)=Sum.inl b:=λq=>e (Sum.inl.inj q)
  rw[decide_eq_false h];exact (beq_eq_false_iff_ne.mpr e).symm
theorem qx7 (a b:Str):decide ((Sum.inr a:Key)=Sum.inr b)=decide (a=b):=by
 by_cases e:a=b
 ·subst e;simp
 ·have h:¬ (Sum.inr a:Key)=Sum.inr b:=λq=>e (Sum.inr.inj q)
  rw[decide_eq_false h,decide_eq_false e]
theorem qx8 (a:Int) (b:Str):decide ((Sum.inl a:Key)=Sum.inr b)=false:=decide_eq_false (λq=>nomatch q)
theorem qx9 (a:Str) (b:Int):decide ((Sum.inr a:Key)=Sum.inl b)=false:=decide_eq_false (λq=>nomatch q)
def qbh (prog:Program) (w:World):PySem.KeyKind prog w Key where
 is:=qom
 hash:=qCw w
 inj:=λv a b ha hb=>by
  rcases qa9 ha with ⟨i,t,rfl,rfl⟩|⟨x,t,rfl,rfl⟩
  ·rcases qa9 hb with ⟨j,u,rfl,e⟩|⟨y,u,rfl,e⟩
   ·injection e with e1 _;rw[e1]
   ·exact nomatch e
  ·rcases qa9 hb with ⟨j,u,rfl,e⟩|⟨y,u,rfl,e⟩
   ·exact nomatch e
   ·injection e with e1 _;rw[e1]
 byValue:=λk v h=>by
  rcases qa9 h with ⟨i,t,rfl,rfl⟩|⟨x,t,rfl,rfl⟩<;>rfl
 pyHash:=λhv h=>by
  rcases qa9 hv with ⟨i,t,rfl,rfl⟩|⟨x,t,rfl,rfl⟩
  ·exact wpAny_pyHash_int h
  ·exact wpAny_pyHash_str h
 eqBool:=λhu hv h=>by
  rcases qa9 hu with ⟨i,t,rfl,rfl⟩|⟨x,t,rfl,rfl⟩
  ·rcases qa9 hv with ⟨j,u,rfl,rfl⟩|⟨y,u,rfl,rfl⟩
   ·rw[qx6] at h;exact wpAny_eqBool_int h
   ·rw[qx8] at h;exact SeqAt.EqAt.int_str i t y u _ _ _ _ h
  ·rcases qa9 hv with ⟨j,u,rfl,rfl⟩|⟨y,u,rfl,rfl⟩
   ·rw[qx9] at h;exact SeqAt.EqAt.str_int x t j u _ _ _ _ h
   ·rw[qx7] at h;exact wpAny_eqBool_str h
 «strs» :=λk x t v h=>by
  rcases qa9 h with ⟨i,u,rfl,e⟩|⟨y,u,rfl,e⟩
  ·exact nomatch e
  ·injection e with e1 _
   subst e1
   cases v<;>rfl
theorem qlz (prog:Program) (w:World) (i:Int) (t:Tok):(qbh prog w).is (.inl i) (.int i t)=true:=qpr i t
theorem ql0 (prog:Program) (w:World) (x:Str) (t:Tok):(qbh prog w).is (.inr x) (.str x t)=true:=qps x t
open PySem PySem.Spec PyProof.Rows
inductive V where
 | non|bl (b:Bool)|int (i:Int)|str (x:Str)|byt (b:Array UInt8)|flt (b:UInt64)|ref (a:Addr)|ty (n:String)
 deriving DecidableEq
def RelV:V->Value->Prop
 | .non,u=>u=Value.none
 | .bl b,u=>u=Value.bool b
 | .int i,u=>∃ t,u=Value.int i t
 | .str x,u=>∃ t,u=Value.str x t
 | .byt b,u=>∃ t,u=Value.bytes b t
 | .flt b,u=>∃ t,u=Value.float b t
 | .ref a,u=>u=Value.ref a
 | .ty n,u=>u=Value.type n
abbrev Vals:List V->List Value->Prop:=Paired RelV
theorem Vals.length {xs:List V} {us:List Value} (r:Vals xs us):xs.length=us.length:=Paired.length r
theorem Vals.get:∀ {xs:List V} {us:List Value} {i:Nat} {x:V},Vals xs us->xs[i]?=some x->∃ u,us[i]?=some u/\RelV x u
 | _,_,_,_,.nil,e=>by simp at e
 | _,_,0,_,.cons r _,e=>by simp at e;subst e;exact ⟨_,rfl,r⟩
 | _,_,i+1,x,.cons _ t,e=>by
  obtain ⟨u,h1,h2⟩:=Vals.get (i:=i) (x:=x) t (by simpa using e);exact ⟨u,by simpa using h1,h2⟩
theorem Vals.append:∀ {xs ys:List V} {us ws:List Value},Vals xs us->Vals ys ws->Vals (xs ++ ys) (us ++ ws)
 | _,_,_,_,.nil,s=>s
 | _,_,_,_,.cons r t,s=>.cons r (Vals.append t s)
theorem Vals.take:∀ {xs:List V} {us:List Value} (n:Nat),Vals xs us->Vals (xs.take n) (us.take n)
 | _,_,0,_=>.nil
 | _,_,_+1,.nil=>.nil
 | _,_,n+1,.cons r t=>.cons r (Vals.take n t)
theorem Vals.drop:∀ {xs:List V} {us:List Value} (n:Nat),Vals xs us->Vals (xs.drop n) (us.drop n)
 | _,_,0,r=>r
 | _,_,_+1,.nil=>.nil
 | _,_,n+1,.cons _ t=>Vals.drop n t
def RelO:Option V->Option Value->Prop
 | some v,some u=>RelV v u
 | none,none=>True
 | _,_=>False
def KV {κ:Type}:List (κ×V)->List (κ×Value)->Prop:=Paired fun (p:κ×V) (q:κ×Value)=>p.1=q.1/\RelV p.2 q.2
def kV:Key->V
 | .inl i=>.int i
 | .inr x=>.str x
inductive HO where
 | lst (xs:List V)
 | tup (xs:List V)
 | dK (kvs:List (Key×V))|dT (kvs:List (List Key×V))
 | set (S:Int->Bool) (n:Nat)
 | ins (C dx:Addr) (fs:List (Str×V))
 | own (x:Addr)
 | xd (fs:List (Str×V))
 | met (f x:Addr)
 | rng (lo hi:Int)
 | frz (o:Obj) (u:HO)
 | tbl (ps:Array Value)
 | ext (φ:Heap->Prop)
abbrev Hp:=Addr->Option HO
def upd (H:Hp) (a:Addr) (o:HO):Hp:=λb=>if b=a then some o else H b
theorem qau {H:Hp} {a:Addr} {o:HO}:upd H a o a=some o:=by unfold upd;rw[if_pos rfl]
theorem qao {H:Hp} {a b:Addr} {o:HO} (h:b≠a):upd H a o b=H b:=by unfold upd;rw[if_neg h]
theorem qav {H:Hp} {a b:Addr} {o u:HO} (h:H a=some o) (h':H b=some u) (d:o≠u):a≠b:=by
 intro e;subst e;rw[h] at h';exact d (Option.some.inj h')
theorem qal {H:Hp} {a b:Addr} {o:HO} (h:H a=some o) (h':H b=none):a≠b:=by
 intro e;subst e;rw[h] at h';cases h'
section
variable (P:Program) (w:World)
def ObjOk (H:Hp) (h:Heap) (a:Addr):HO->Prop
 | .lst xs=>xs.length<=sizeLine/\∃ (its:List Value) (n:Nat),Vals xs its/\h.get? a=some { cls:=.type "list",data:=.seq its.toArray n }
 | .tup xs=>xs.length<=sizeLine/\∃ its:List Value,Vals xs its/\IsTup h a its.toArray
 | .dK kvs=>kvs.length<=sizeLine/\(a == sysModules)=false/\∃ vs,KV kvs vs/\h.DictOf (qbh P w) a vs
 | .dT kvs=>kvs.length<=sizeLine/\(a == sysModules)=false/\∃ xs:List (List Key×Addr×Value),
   Paired (fun (p:List Key×V) (q:List Key×Addr×Value)=>p.1=q.1/\H q.2.1=some (.tup (p.1.map kV))/\RelV p.2 q.2.2) kvs xs /\
   ∃ o es ep,h.get? a=some o/\o.ExactDict/\o.data=.dict es ep/\es.toList=xs.map (entryOfKey (tupleKind (qbh P w)))/\(xs.map (·.1)).Nodup
 | .set S n=>h.SetOf (intKind P w) a S n
 | .ins C dx fs=>H dx=some (.own a)/\fs.length<=1000/\dx≠a/\h.get? a=some (PySem.W.instObj C dx) /\
   ∃ mA,h.Ns1 dx mA/\(∀ f,RelO (fs.lookup f) (mA f))/\PySem.Within mA (fs.map (·.1))
 | .own _=>∃ o,h.get? a=some o
 | .xd fs=>∃ mA,h.Ns1 a mA/\∀ f,RelO (fs.lookup f) (mA f)
 | .rng lo hi=>∃ t u v,h.get? a=some { cls:=.type "range",data:=.fields #[.int lo t,.int hi u,.int 1 v] }
 | .frz o u=>h.get? a=some o/\ObjOk H h a u
 | .tbl ps=>h.get? a=some { cls:=.none,data:=.fields ps }
 | .met f x=>h.get? a=some (PySem.W.methodObj (.ref f) (.ref x))
 | .ext φ=>φ h/\(∃ o,h.get? a=some o)/\∀ h1 h2:Heap,φ h1->(∀ o,h1.get? a=some o->h2.get? a=some o)->φ h2
def HOk (H:Hp) (h:Heap):Prop:=∀ a o,H a=some o->ObjOk P w H h a o
end
section
variable {P:Program} {w:World} {H H':Hp} {h h':Heap} {a:Addr} {o:HO}
theorem ObjOk.lt (x:ObjOk P w H h a o):a<h.objs.size:=by
 cases o with
 | lst xs=>obtain ⟨_,_,_,_,e⟩:=x;exact Heap.lt_size e
 | tup xs=>obtain ⟨_,_,_,p⟩:=x;exact p.lt
 | dK kvs=>obtain ⟨_,_,_,_,o,_,_,e,_⟩:=x;exact Heap.lt_size e
 | dT kvs=>obtain ⟨_,_,_,_,o,_,_,e,_⟩:=x;exact Heap.lt_size e
 | set S n=>obtain ⟨o,_,_,_,e,_⟩:=x;exact Heap.lt_size e
 | ins C dx fs=>obtain ⟨_,_,_,e,_⟩:=x;exact Heap.lt_size e
 | own y=>obtain ⟨_,e⟩:=x;exact Heap.lt_size e
 | xd fs=>obtain ⟨_,⟨_,_,_,e,_⟩,_⟩:=x;exact Heap.lt_size e
 | rng lo hi=>obtain ⟨_,_,_,e⟩:=x;exact Heap.lt_size e
 | frz ob u=>obtain ⟨e,_⟩:=x;exact Heap.lt_size e
 | tbl ps=>exact Heap.lt_size (show h.get? a=some _ from x)
 | met f y=>exact Heap.lt_size (show h.get? a=some _ from x)
 | ext φ=>obtain ⟨_,⟨_,e⟩,_⟩:=x;exact Heap.lt_size e
theorem Paired.mapP {α β:Type} {F G:α->β->Prop}:∀ {l₁:List α} {l₂:List β},Paired F l₁ l₂->(∀ a b,F a b->G a b)->Paired G l₁ l₂
 | _,_,.nil,_=>.nil
 | _,_,.cons r t,f=>.cons (f _ _ r) (Paired.mapP t f)
theorem ObjOk.stay (x:ObjOk P w H h a o) (k:∀ b u,(b=a\/H b=some (.own a))->h.get? b=some u->h'.get? b=some u)
  (ho:∀ b,H b=some (.own a)->H' b=some (.own a)) (ht:∀ b xs,H b=some (.tup xs)->H' b=some (.tup xs)):ObjOk P w H' h' a o:=by
 induction o with
 | lst xs=>obtain ⟨z,its,n,r,e⟩:=x;exact ⟨z,its,n,r,k _ _ (.inl rfl) e⟩
 | tup xs=>obtain ⟨z,its,r,ob,e,c⟩:=x;exact ⟨z,its,r,ob,k _ _ (.inl rfl) e,c⟩
 | dK kvs=>obtain ⟨z,y,vs,r,ob,es,ep,e,c⟩:=x;exact ⟨z,y,vs,r,ob,es,ep,k _ _ (.inl rfl) e,c⟩
 | dT kvs =>
  obtain ⟨z,y,xs,r,ob,es,ep,e,c⟩:=x;exact ⟨z,y,xs,Paired.mapP r λp q z=>⟨z.1,ht _ _ z.2.1,z.2.2⟩,ob,es,ep,k _ _ (.inl rfl) e,c⟩
 | set S n=>obtain ⟨ob,es,ep,t,e,c⟩:=x;exact ⟨ob,es,ep,t,k _ _ (.inl rfl) e,c⟩
 | ins C dx fs =>
  obtain ⟨d,z,ne,e,mA,⟨od,es,ep,e2,c⟩,r⟩:=x;exact ⟨ho _ d,z,ne,k _ _ (.inl rfl) e,mA,⟨od,es,ep,k _ _ (.inr d) e2,c⟩,r⟩
 | own y=>obtain ⟨ob,e⟩:=x;exact ⟨ob,k _ _ (.inl rfl) e⟩
 | xd fs=>obtain ⟨mA,⟨od,es,ep,e,c⟩,r⟩:=x;exact ⟨mA,⟨od,es,ep,k _ _ (.inl rfl) e,c⟩,r⟩
 | rng lo hi=>obtain ⟨t,u,v,e⟩:=x;exact ⟨t,u,v,k _ _ (.inl rfl) e⟩
 | frz ob u ih=>obtain ⟨e,q⟩:=x;exact ⟨k _ _ (.inl rfl) e,ih q⟩
 | tbl ps =>
  have e:h.get? a=some { cls:=.none,data:=.fields ps }:=x
  show h'.get? a=some { cls:=.none,data:=.fields ps }
  exact k a _ (.inl rfl) e
 | met f y =>
  have e:h.get? a=some (PySem.W.methodObj (.ref f) (.ref y)):=x
  show h'.get? a=some (PySem.W.methodObj (.ref f) (.ref y))
  exact k a _ (.inl rfl) e
 | ext φ=>obtain ⟨p,⟨o,e⟩,st⟩:=x;exact ⟨st _ _ p λo q=>k _ _ (.inl rfl) q,⟨o,k _ _ (.inl rfl) e⟩,st⟩
theorem HOk.lt (x:HOk P w H h) (e:H a=some o):a<h.objs.size:=(x a o e).lt
theorem HOk.fresh (x:HOk P w H h) (e:h.objs.size<=a):H a=none:=by
 cases q:H a with
 | none=>rfl
 | some u=>exact absurd (Nat.lt_of_lt_of_le (x.lt q) e) (Nat.lt_irrefl _)
theorem HOk.kept (x:HOk P w H h) (k:∀ b u,h.get? b=some u->h'.get? b=some u):HOk P w H h':=λa o e =>
 (x a o e).stay (λb u _ q=>k b u q) (λ_ q=>q) λ_ _ q=>q
theorem HOk.laid (x:HOk P w H h) (k:∀ b u,h.get? b=some u->h'.get? b=some u) (hp:h.objs.size<=a) (new:ObjOk P w (upd H a o) h' a o):HOk P w (upd H a o) h':=λb u e=>by
 have hn:=x.fresh hp
 by_cases hb:b=a
 ·subst hb;rw[qau] at e;cases e;exact new
 ·rw[qao hb] at e
  exact (x b u e).stay (λc v _ q=>k c v q) (λc q=>by rw[qao (qal q hn)];exact q) λc xs q=>by rw[qao (qal q hn)];exact q
end
def Rd (H:Hp) (a:Addr) (u:HO):Prop:=H a=some u\/∃ o,H a=some (.frz o u)
theorem Rd.ok {P:Program} {w:World} {H:Hp} {h:Heap} {a:Addr} {u:HO} (r:Rd H a u) (x:HOk P w H h):ObjOk P w H h a u:=by
 rcases r with r|⟨o,r⟩
 ·exact x a u r
 ·obtain ⟨_,q⟩:=x a _ r
  exact q
def Mut:Option HO->Prop
 | some (.lst _)=>True
 | some (.dK _)=>True
 | some (.dT _)=>True
 | some (.set _ _)=>True
 | some (.ins _ _ _)=>True
 | some (.ext _)=>True
 | _=>False
section
variable {P:Program} {w:World} {H:Hp} {h h':Heap} {x e:Addr} {o':HO}
theorem HOk.write (ok:HOk P w H h) (mu:Mut (H x)) (he:e=x\/H e=some (.own x)) (k:∀ b u,b≠e->h.get? b=some u->h'.get? b=some u) (heo:∃ u,h'.get? e=some u)
  (new:ObjOk P w (upd H x o') h' x o'):HOk P w (upd H x o') h':=λb u q=>by
 have nown:∀ c y,H c=some (.own y)->c≠x:=λc y r z=>by subst z;rw[r] at mu;exact mu
 have ntup:∀ c xs,H c=some (.tup xs)->c≠x:=λc xs r z=>by subst z;rw[r] at mu;exact mu
 by_cases hb:b=x
 ·subst hb;rw[qau] at q;cases q;exact new
 ·rw[qao hb] at q
  by_cases hbe:b=e
  ·have q':H b=some (.own x):=by
    rcases he with z|z
    ·exact absurd (hbe.trans z) hb
    ·rw[hbe];exact z
   rw[q] at q';cases q';obtain ⟨v,hv⟩:=heo;exact ⟨v,by rw[hbe];exact hv⟩
  ·refine (ok b u q).stay (λc v hc r=>k c v ?_ r) (λc r=>by rw[qao (nown c b r)];exact r) λc xs r=>by rw[qao (ntup c xs r)];exact r
   rcases hc with rfl|hc
   ·exact hbe
   ·rintro rfl
    rcases he with z|z
    ·exact nown c b hc z
    ·rw[hc] at z;cases z;exact hb rfl
end
structure Un (fs ex:List Addr) (H H':Hp) (h h':Heap):Prop where
 keep:∀ b o,h.get? b=some o->H b=none->b ∉ fs->b ∉ ex->h'.get? b=some o
 slot:∀ b o,h.get? b=some o->H b=none->b∈fs->b ∉ ex->∃ sl,h'.get? b=some { o with slots:=sl }
 free:∀ b o,h.get? b=some o->H b=none->b ∉ ex->H' b=none
 there:∀ b o,h.get? b=some o->b ∉ ex->∃ o',h'.get? b=some o'
 tups:∀ b xs,H b=some (.tup xs)->H' b=some (.tup xs)
 frzs:∀ b o u,H b=some (.frz o u)->H' b=some (.frz o u)
 tbls:∀ b ps,H b=some (.tbl ps)->∃ more,H' b=some (.tbl (ps ++ more))
section
variable {fs fs' ex ex':List Addr} {H H1 H2:Hp} {h h1 h2 h':Heap} {a x e:Addr} {o:HO}
theorem Un.any (u:Un fs ex H H1 h h1) {b:Addr} {ob:Obj} (q:h.get? b=some ob) (n:H b=none) (hx:b ∉ ex):∃ sl,h1.get? b=some { ob with slots:=sl }:=by
 by_cases hb:b∈fs
 ·exact u.slot b ob q n hb hx
 ·exact ⟨ob.slots,u.keep b ob q n hb hx⟩
theorem Un.kept (k:∀ b u,h.get? b=some u->h'.get? b=some u):Un fs ex H H h h':=
 ⟨λb ob q _ _ _=>k b ob q,λb ob q _ _ _=>⟨ob.slots,k b ob q⟩,λ_ _ _ n _=>n,λb ob q _=>⟨ob,k b ob q⟩,λ_ _ q=>q,λ_ _ _ q=>q,λ_ ps q=>⟨#[],by rw[q];simp⟩⟩
theorem Un.refl:Un fs ex H H h h:=Un.kept λ_ _ q=>q
theorem Un.laid (k:∀ b u,h.get? b=some u->h'.get? b=some u) (hp:h.objs.size<=a) (hn:H a=none):Un fs ex H (upd H a o) h h' where
 keep:=λb u q _ _ _=>k b u q
 slot:=λb u q _ _ _=>⟨u.slots,k b u q⟩
 free:=λb u q n _=>by rw[qao (Nat.ne_of_lt (Nat.lt_of_lt_of_le (Heap.lt_size q) hp))];exact n
 there:=λb u q _=>⟨u,k b u q⟩
 tups:=λb xs q=>by rw[qao (qal q hn)];exact q
 frzs:=λb u xs q=>by rw[qao (qal q hn)];exact q
 tbls:=λb ps q=>⟨#[],by rw[qao (qal q hn),q];simp⟩
theorem Un.write (mu:Mut (H x)) (he:e=x\/H e=some (.own x)) (k:∀ b u,b≠e->h.get? b=some u->h'.get? b=some u) (heo:∃ u,h'.get? e=some u):Un fs ex H (upd H x o) h h':=by
 have hx:∀ b,H b=none->b≠x:=λb n z=>by subst z;rw[n] at mu;exact mu
 have hb:∀ b,H b=none->b≠e:=λb n z=>by
  subst z
  rcases he with r|r
  ·exact hx b n r
  ·rw[n] at r;cases r
 have hm:∀ b u,H b=some u->¬ Mut (some u)->b≠x:=λb u q nm z=>by subst z;rw[q] at mu;exact nm mu
 refine ⟨λb u q n _ _=>k b u (hb b n) q,λb u q n _ _=>⟨u.slots,k b u (hb b n) q⟩,λb u q n _=>by rw[qao (hx b n)];exact n,λb u q _=>?_,
  λb xs q=>by rw[qao (hm b _ q λz=>z)];exact q,λb u xs q=>by rw[qao (hm b _ q λz=>z)];exact q,λb ps q=>⟨#[],by rw[qao (hm b _ q λz=>z),q];simp⟩⟩
 by_cases hbe:b=e
 ·subst hbe;exact heo
 ·exact ⟨u,k b u hbe q⟩
end
def trk (h:Heap) (H:Hp):List Addr:=(List.range h.objs.size).filter λa=>(H a).isSome
def qss (h:Heap) (H:Hp):Heap:=PySem.W.hideAll h (trk h H)
theorem qpt (h:Heap) (H:Hp):(qss h H).objs.size=h.objs.size:=PySem.W.hideAll_size _ _
theorem qst {h:Heap} {H:Hp} {b:Addr} {o:Obj} (e:h.get? b=some o) (n:H b=none):(qss h H).get? b=some o:=
 PySem.W.hideAll_get _ e λhm=>by
  have q:(H b).isSome=true:=(List.mem_filter.mp hm).2;rw[n] at q;simp at q
theorem qvs {h:Heap} {H:Hp} {b:Addr} {o:Obj} (e:(qss h H).get? b=some o):h.get? b=some o/\H b=none:=by
 have e':h.get? b=some o:=PySem.W.of_hideAll (trk h H) e;refine ⟨e',?_⟩
 cases q:H b with
 | none=>rfl
 | some x =>
  have hm:b∈trk h H:=List.mem_filter.mpr ⟨List.mem_range.mpr (Heap.lt_size e'),by simp[q]⟩;have z:(qss h H).get? b=none:=PySem.W.hideAll_none (trk h H) hm;rw[z] at e;cases e
def qvt (g h:Heap) (L:Addr):List (Addr×Obj):=(List.range h.objs.size).filterMap λa=>if a=L\/(g.get? a).isSome=true then none else (h.get? a).map λo=>(a,o)
def rest (g h:Heap) (L d:Addr):List (Addr×Obj):=(qvt g h L).filter λp=>decide (p.1≠d)
open PySem PySem.Spec PyProof.Rows
structure Mod (K:Frag) (mg:Str->Option Value) (base:Heap):Prop where
 kin:K.In base
 glob:base.Ns mainGlobals mg
 blt:∃ mb,base.Ns builtinsNs mb/\∀ x:Str,x ≠ "__name__" -> mb x=bootBuiltins x
 nolimit:base.NoLimit
 nodig:base.NoDigits
structure Cx where
 prog:Program
 w:World
 K:Frag
 mg:Str->Option Value
 base:Heap
 A:Around
 N:List Str
 s₀:Shared
 H₀:Hp
 env:Env
 outer:List Env
 stack:List Env
 ex:List Addr
 fn:Str->Bool
 calm:Bool
 pn:List (Addr×Obj)
 xe:Value->Shared->Prop
def frs (l:List Env):List Addr:=l.filterMap (·.frame)
abbrev Cx.fs (X:Cx):List Addr:=frs X.outer
def Vis (sc:Scope) (x:Str):Prop:=sc.names.lookup x=some .local\/sc.names.lookup x=some .cell\/sc.names.lookup x=some .free
def Loc (sc:Scope) (x:Str):Prop:=sc.names.lookup x=some .local\/sc.names.lookup x=some .cell
def Look (env:Env) (h:Heap) (m:Str->Option Value) (x:Str) (u:Value):Prop:=
 (env.kindOf x=some .local/\m x=some u)\/((env.kindOf x=some .cell\/env.kindOf x=some .free)/\∃ c,env.cells.lookup x=some c/\h.IsCell c (some u))
structure Cx.Ok (X:Cx):Prop where
 mod:Mod X.K X.mg X.base
 kind:X.env.scope.kind=.function
 glob:X.env.globals=mainGlobals
 blt:X.env.builtins=builtinsNs
 above:X.s₀.heap.objs.size<=X.env.locals
 inj:∀ x y c,X.env.cells.lookup x=some c->X.env.cells.lookup y=some c->x=y
 has:∀ x,(X.env.kindOf x=some .cell\/X.env.kindOf x=some .free)->∃ c,X.env.cells.lookup x=some c
 cab:∀ x c,X.fn x=true->X.env.cells.lookup x=some c->X.s₀.heap.objs.size<=c
 hd:X.calm=true->X.A.handled=none
 frames:X.A.frames=some X.stack
 stk:X.stack=X.outer\/(X.stack=X.env :: X.outer/\X.env.frame=some X.env.locals)
 exf:∀ b∈X.ex,b≠X.env.locals/\∀ x c,X.env.cells.lookup x=some c->c≠b
 bs:∀ b o,X.base.get? b=some o->X.s₀.heap.get? b=some o/\X.H₀ b=none
 bsz:X.base.objs.size<=X.s₀.heap.objs.size
 noex:∀ b o,X.base.get? b=some o->b ∉ X.ex
 exfs:∀ b∈X.ex,b ∉ X.fs
 funs:X.s₀.heap.FunFrames X.base X.outer
 frf:∀ b∈X.fs,X.H₀ b=none
structure Inv (X:Cx) (pins:List (Addr×Obj)) (σ:List (Option V)) (H:Hp) (s:Shared):Prop where
 ok:X.Ok
 os:s.os=X.s₀.os
 bare:AllBare s.gens
 base:Un X.fs X.ex X.H₀ H X.s₀.heap s.heap
 loc:∃ m,s.heap.Ns X.env.locals m/\∀ (i:Nat) (x:Str) (v:V),X.N[i]?=some x->σ[i]?=some (some v)->Vis X.env.scope x->∃ u,RelV v u/\Look X.env s.heap m x u
 cell:∀ x c,X.env.cells.lookup x=some c->∃ v,s.heap.IsCell c v
 free:H X.env.locals=none
 freeC:∀ x c,X.env.cells.lookup x=some c->H c=none
 pin:∀ p∈X.pn ++ pins,s.heap.get? p.1=some p.2/\H p.1=none/\p.1≠X.env.locals/\p.1 ∉ X.fs/\∀ v,p.2.data≠.cell v
 hok:HOk X.prog X.w H s.heap
 len:σ.length=X.N.length
section
variable {X:Cx} {pins:List (Addr×Obj)} {σ:List (Option V)} {H H':Hp} {s:Shared} {h':Heap}
theorem Cx.Ok.nofr (ok:X.Ok) {b:Addr} {o:Obj} (e:X.base.get? b=some o):b ∉ X.fs:=λhb=>by
 have:=(ok.funs.mem hb).1;rw[e] at this;cases this
theorem Inv.bs (I:Inv X pins σ H s):∀ b o,X.base.get? b=some o->s.heap.get? b=some o/\H b=none:=λb o e =>
 ⟨I.base.keep b o (I.ok.bs b o e).1 (I.ok.bs b o e).2 (I.ok.nofr e) (I.ok.noex b o e),I.base.free b o (I.ok.bs b o e).1 (I.ok.bs b o e).2 (I.ok.noex b o e)⟩
theorem Inv.bk (I:Inv X pins σ H s):∀ b o,X.base.get? b=some o->s.heap.get? b=some o:=λb o e=>(I.bs b o e).1
theorem Inv.mod (I:Inv X pins σ H s):Mod X.K X.mg X.base:=I.ok.mod
theorem Inv.kIn (I:Inv X pins σ H s):X.K.In s.heap:=I.ok.mod.kin.keeps I.bk
theorem Inv.lt (I:Inv X pins σ H s):X.env.locals<s.heap.objs.size:=let ⟨_,hn,_⟩:=I.loc;hn.lt
theorem Inv.sz (I:Inv X pins σ H s):X.s₀.heap.objs.size<=s.heap.objs.size:=Nat.le_trans I.ok.above (Nat.le_of_lt I.lt)
theorem Inv.nofs (I:Inv X pins σ H s) {a:Addr} (h:s.heap.objs.size<=a):a ∉ X.fs:=λhb=>by
 obtain ⟨_,o,ho,_⟩:=I.ok.funs.mem hb;exact absurd (Nat.lt_of_lt_of_le (Heap.lt_size ho) (Nat.le_trans I.sz h)) (Nat.lt_irrefl _)
theorem Inv.cne (I:Inv X pins σ H s):∀ x c,X.env.cells.lookup x=some c->c≠X.env.locals:=λx c e z=>by
 obtain ⟨v,o,ho,hd⟩:=I.cell x c e;obtain ⟨m,⟨o',es,ep,ho',hd',_⟩,_⟩:=I.loc;rw[z,ho'] at ho;cases ho;rw[hd'] at hd;cases hd
theorem Inv.funs (I:Inv X pins σ H s):s.heap.FunFrames X.base X.outer:=by
 have all:∀ (l:List Env),(∀ b∈frs l,b∈X.fs)->X.s₀.heap.FunFrames X.base l->s.heap.FunFrames X.base l:=by
  intro l
  induction l with
  | nil=>intro _ _;trivial
  | cons env r ih =>
   intro hs hl;obtain ⟨hk,⟨L,o,hf,hn,ho,hd⟩,hr⟩:=hl;have hL:L∈X.fs:=hs L (by unfold frs;rw[List.filterMap_cons,hf];exact List.mem_cons_self);obtain ⟨sl,e⟩:=I.base.slot L o ho (I.ok.frf L hL) hL λz=>I.ok.exfs L z hL
   exact ⟨hk,⟨L,_,hf,hn,e,hd⟩,ih (λb hb=>hs b (by unfold frs;rw[List.filterMap_cons,hf];exact List.mem_cons_of_mem _ hb)) hr⟩
 exact all X.outer (λ_ hb=>hb) I.ok.funs
theorem Inv.stack (I:Inv X pins σ H s):s.heap.FunFrames X.base X.stack:=by
 rcases I.ok.stk with e|⟨e,hf⟩
 ·rw[e];exact I.funs
 ·rw[e]
  obtain ⟨m,hn,_⟩:=I.loc;refine .cons (by rw[I.ok.kind];decide) hf hn ?_ I.funs;exact Heap.get?_none_of_le (Nat.le_trans I.ok.bsz I.ok.above)
theorem Inv.stkSub (I:Inv X pins σ H s):∀ b∈frs X.stack,b∈X.env.locals :: X.fs:=λb hb=>by
 rcases I.ok.stk with e|⟨e,hf⟩
 ·rw[e] at hb;exact List.mem_cons_of_mem _ hb
 ·rw[e] at hb
  unfold frs at hb;rw[List.filterMap_cons,hf] at hb;exact hb
theorem Inv.stkFree (I:Inv X pins σ H s):∀ b∈frs X.stack,H b=none:=λb hb=>by
 rcases List.mem_cons.mp (I.stkSub b hb) with e|hb
 ·rw[e];exact I.free
 ·obtain ⟨_,o,ho,_⟩:=I.ok.funs.mem hb
  exact I.base.free b o ho (I.ok.frf b hb) λz=>I.ok.exfs b z hb
theorem Inv.step {g':Array GenState} {t':Nat} {d':Drawn} {ch:List Addr} (I:Inv X pins σ H s)
  (hch:∀ b∈ch,(b∈X.ex\/X.s₀.heap.objs.size<=b)/\b≠X.env.locals/\(∀ x c,X.env.cells.lookup x=some c->c≠b)/\∀ p∈X.pn ++ pins,p.1≠b)
  (keep:∀ b o,b≠X.env.locals->b ∉ X.fs->b ∉ ch->s.heap.get? b=some o->H b=none->h'.get? b=some o)
  (slot:∀ b o,b≠X.env.locals->b∈X.fs->b ∉ ch->s.heap.get? b=some o->H b=none->∃ sl,h'.get? b=some { o with slots:=sl }) (free:∀ b o,b ∉ ch->s.heap.get? b=some o->H b=none->H' b=none)
  (there:∀ b o,b ∉ ch->s.heap.get? b=some o->∃ o',h'.get? b=some o')
  (tups:∀ b xs,H b=some (.tup xs)->H' b=some (.tup xs)) (frzs:∀ b o u,H b=some (.frz o u)->H' b=some (.frz o u)) (tbls:∀ b ps,H b=some (.tbl ps)->∃ more,H' b=some (.tbl (ps ++ more)))
  (ns:∀ m,s.heap.Ns X.env.locals m->h'.Ns X.env.locals m) (hok:HOk X.prog X.w H' h') (hg:AllBare g') :
  Inv X pins σ H' { s with heap:=h',gens:=g',drawn:=d',toks:=t' }:=by
 have neL:∀ b o,X.s₀.heap.get? b=some o->b≠X.env.locals:=λb o e=>Nat.ne_of_lt (Nat.lt_of_lt_of_le (Heap.lt_size e) I.ok.above)
 have neC:∀ b o,X.s₀.heap.get? b=some o->b ∉ X.ex->b ∉ ch:=λb o e hx hb=>by
  rcases (hch b hb).1 with z|z
  ·exact hx z
  ·exact absurd (Nat.lt_of_lt_of_le (Heap.lt_size e) z) (Nat.lt_irrefl _)
 have cellK:∀ x c,X.env.cells.lookup x=some c->∀ v,s.heap.IsCell c v->h'.IsCell c v:=λx c e v ⟨o,ho,hd⟩=>by
  have nch:c ∉ ch:=λz=>(hch c z).2.2.1 x c e rfl
  by_cases hc:c∈X.fs
  ·obtain ⟨sl,q⟩:=slot c o (I.cne x c e) hc nch ho (I.freeC x c e)
   exact ⟨_,q,hd⟩
  ·exact ⟨o,keep c o (I.cne x c e) hc nch ho (I.freeC x c e),hd⟩
 refine ⟨I.ok,I.os,hg,⟨λb o e n hb hx=>?_,λb o e n hb hx=>?_,λb o e n hx=>?_,λb o e hx=>?_,λb xs e=>tups b xs (I.base.tups b xs e),λb o xs e=>frzs b o xs (I.base.frzs b o xs e),λb ps e=>?_⟩,?_,λx c e=>?_,?_,λx c e=>?_,λp hp=>?_,hok,I.len⟩
 ·exact keep b o (neL b o e) hb (neC b o e hx) (I.base.keep b o e n hb hx) (I.base.free b o e n hx)
 ·obtain ⟨sl,e1⟩:=I.base.slot b o e n hb hx
  obtain ⟨sl',e2⟩:=slot b _ (neL b o e) hb (neC b o e hx) e1 (I.base.free b o e n hx);exact ⟨sl',e2⟩
 ·obtain ⟨o',e1⟩:=I.base.there b o e hx
  exact free b o' (neC b o e hx) e1 (I.base.free b o e n hx)
 ·obtain ⟨o',e1⟩:=I.base.there b o e hx
  exact there b o' (neC b o e hx) e1
 ·obtain ⟨m1,e1⟩:=I.base.tbls b ps e
  obtain ⟨m2,e2⟩:=tbls b _ e1;exact ⟨m1 ++ m2,by rw[e2,Array.append_assoc]⟩
 ·obtain ⟨m,hn,hl⟩:=I.loc
  refine ⟨m,ns m hn,λi x v e1 e2 e3=>?_⟩;obtain ⟨u,r,l⟩:=hl i x v e1 e2 e3;refine ⟨u,r,?_⟩
  rcases l with l|⟨k,c,e,z⟩
  ·exact .inl l
  ·exact .inr ⟨k,c,e,cellK x c e _ z⟩
 ·obtain ⟨v,z⟩:=I.cell x c e
  exact ⟨v,cellK x c e v z⟩
 ·obtain ⟨m,⟨o,_,_,ho,_⟩,_⟩:=I.loc
  exact free _ o (λz=>(hch _ z).2.1 rfl) ho I.free
 ·obtain ⟨v,o,ho,hd⟩:=I.cell x c e
  exact free c o (λz=>(hch c z).2.2.1 x c e rfl) ho (I.freeC x c e)
 ·obtain ⟨e,n,ne,nf,d⟩:=I.pin p hp
  have nch:p.1 ∉ ch:=λz=>(hch p.1 z).2.2.2 p hp rfl
  exact ⟨keep p.1 p.2 ne nf nch e n,free p.1 p.2 nch e n,ne,nf,d⟩
theorem Inv.un {t':Nat} (I:Inv X pins σ H s) (u:Un X.fs [] H H' s.heap h') (hok:HOk X.prog X.w H' h'):Inv X pins σ H' { s with heap:=h',toks:=t' }:=by
 obtain ⟨m,⟨o,es,ep,ho,r⟩,_⟩:=id I.loc;obtain ⟨sl,hL⟩:=u.any ho I.free (by simp);exact I.step (g':=s.gens) (d':=s.drawn) (ch:=[]) (λ_ z=>nomatch z) (λb o _ hb _ e n=>u.keep b o e n hb (by simp)) (λb o _ hb _ e n=>u.slot b o e n hb (by simp)) (λb o _ e n=>u.free b o e n (by simp)) (λb o _ e=>u.there b o e (by simp)) u.tups u.frzs u.tbls (λm' hm=>by
  obtain ⟨o',es',ep',ho',r'⟩:=hm;rw[ho] at ho';cases ho';exact ⟨_,es',ep',hL,r'⟩) hok I.bare
theorem Inv.call {g':Array GenState} {t':Nat} {d':Drawn} {ch:List Addr} (I:Inv X pins σ H s) (u:Un (frs X.stack) ch H H' s.heap h') (hok:HOk X.prog X.w H' h') (hg:AllBare g')
  (hch:∀ b∈ch,(b∈X.ex\/X.s₀.heap.objs.size<=b)/\b≠X.env.locals/\(∀ x c,X.env.cells.lookup x=some c->c≠b)/\∀ p∈X.pn ++ pins,p.1≠b) :
  Inv X pins σ H' { s with heap:=h',gens:=g',drawn:=d',toks:=t' }:=by
 obtain ⟨m,⟨o,es,ep,ho,r⟩,_⟩:=id I.loc;obtain ⟨sl,hL⟩:=u.any ho I.free λz=>(hch _ z).2.1 rfl
 exact I.step (ch:=ch) hch (λb o hL hb hc e n=>u.keep b o e n (λz=>(List.mem_cons.mp (I.stkSub b z)).elim hL hb) hc) (λb o _ _ hc e n=>u.any e n hc) (λb o hc e n=>u.free b o e n hc) (λb o hc e=>u.there b o e hc) u.tups u.frzs u.tbls (λm' hm=>by
  obtain ⟨o',es',ep',ho',r'⟩:=hm;rw[ho] at ho';cases ho';exact ⟨_,es',ep',hL,r'⟩) hok hg
theorem Inv.turned {t':Nat} {it:Addr} (I:Inv X pins σ H s) (k:∀ b o,b≠it->s.heap.get? b=some o->h'.get? b=some o) (hn:H it=none) (hL:it≠X.env.locals)
  (h1:it∈X.ex\/X.s₀.heap.objs.size<=it) (h2:∀ x c,X.env.cells.lookup x=some c->c≠it) (h3:∀ p∈X.pn ++ pins,p.1≠it):Inv X pins σ H { s with heap:=h',toks:=t' }:=by
 have nit:∀ b u,H b=some u->b≠it:=λb u e z=>by rw[z,hn] at e;cases e
 refine I.step (g':=s.gens) (d':=s.drawn) (ch:=[it]) (λb hb=>?_) (λb o _ _ hc e _=>k b o (λz=>hc (by simp[z])) e) (λb o _ _ hc e _=>⟨o.slots,k b o (λz=>hc (by simp[z])) e⟩) (λ_ _ _ _ n=>n)
  (λb o hc e=>⟨o,k b o (λz=>hc (by simp[z])) e⟩) (λ_ _ e=>e) (λ_ _ _ e=>e) (λb ps e=>⟨#[],by rw[e];simp⟩) (λm hm=>?_) (λb u e=>?_) I.bare
 ·have e:b=it:=by simpa using hb
  subst e;exact ⟨h1,hL,h2,h3⟩
 ·obtain ⟨o,es,ep,ho,r⟩:=hm
  exact ⟨o,es,ep,k _ o (Ne.symm hL) ho,r⟩
 ·refine (I.hok b u e).stay (λc v hc q=>k c v ?_ q) (λ_ q=>q) λ_ _ q=>q
  rcases hc with z|z
  ·rw[z];exact nit b u e
  ·exact nit c _ z
theorem Inv.tok (I:Inv X pins σ H s) (t:Nat):Inv X pins σ H { s with toks:=t }:=I.un (h':=s.heap) (t':=t) Un.refl I.hok
theorem Inv.kept {t':Nat} (I:Inv X pins σ H s) (k:∀ b u,s.heap.get? b=some u->h'.get? b=some u):Inv X pins σ H { s with heap:=h',toks:=t' }:=I.un (Un.kept k) (I.hok.kept k)
theorem Inv.laid {a:Addr} {o:HO} {t':Nat} (I:Inv X pins σ H s) (k:∀ b u,s.heap.get? b=some u->h'.get? b=some u) (hp:s.heap.objs.size<=a) (new:ObjOk X.prog X.w (upd H a o) h' a o) :
  Inv X pins σ (upd H a o) { s with heap:=h',toks:=t' }:=I.un (Un.laid k hp (I.hok.fresh hp)) (I.hok.laid k hp new)
theorem Inv.write {x e:Addr} {o:HO} {t':Nat} (I:Inv X pins σ H s) (mu:Mut (H x)) (he:e=x\/H e=some (.own x)) (k:∀ b u,b≠e->s.heap.get? b=some u->h'.get? b=some u) (heo:∃ u,h'.get? e=some u)
  (new:ObjOk X.prog X.w (upd H x o) h' x o):Inv X pins σ (upd H x o) { s with heap:=h',toks:=t' }:=I.un (Un.write mu he k heo) (I.hok.write mu he k heo new)
theorem Inv.weak {σ':List (Option V)} (I:Inv X pins σ H s) (hl:σ'.length=σ.length) (w:∀ (i:Nat) v,σ'[i]?=some (some v)->σ[i]?=some (some v)):Inv X pins σ' H s:=
 ⟨I.ok,I.os,I.bare,I.base,let ⟨m,hn,hl'⟩:=I.loc;⟨m,hn,λi x v e1 e2 e3=>hl' i x v e1 (w i v e2) e3⟩,I.cell,I.free,I.freeC,I.pin,I.hok,hl.trans I.len⟩
theorem Inv.pins_of {pins':List (Addr×Obj)} (I:Inv X pins σ H s) (h:∀ p∈pins',s.heap.get? p.1=some p.2/\H p.1=none/\p.1≠X.env.locals/\p.1 ∉ X.fs/\∀ v,p.2.data≠.cell v):Inv X pins' σ H s:=
 ⟨I.ok,I.os,I.bare,I.base,I.loc,I.cell,I.free,I.freeC,λp hp=>(List.mem_append.mp hp).elim (λz=>I.pin p (List.mem_append_left _ z)) (h p),I.hok,I.len⟩
theorem qir {N:List Str} (hN:N.Nodup) {i j:Nat} {x:Str} (a:N[i]?=some x) (b:N[j]?=some x):i=j:=by
 obtain ⟨h1,e1⟩:=List.getElem?_eq_some_iff.mp a;obtain ⟨h2,e2⟩:=List.getElem?_eq_some_iff.mp b;exact (List.getElem_inj hN).mp (e1.trans e2.symm)
theorem qpu {M:Model} {A:Around} {E:Value->Shared->Prop} {i:Nat} {x:Str} {v:V} {u:Value} {Q:Unit->Shared->Prop} (I:Inv X pins σ H s) (hN:X.N.Nodup) (hi:X.N[i]?=some x) (hx:Loc X.env.scope x) (r:RelV v u)
  (h:∀ s',Inv X pins (σ.set i (some v)) H s'->(∃ a,Heap.SameBut a s.heap s'.heap/\(a=X.env.locals\/X.env.cells.lookup x=some a))->Q () s') (hf:X.fn x=true\/X.env.scope.names.lookup x=some .local:=by first|exact .inl rfl|exact .inr rfl|assumption):wpAny M A (storeName X.env x u) Q E s:=by
 obtain ⟨m,hn,hl⟩:=id I.loc;have hcls:(X.env.scope.kind == .class || (X.env.scope.kind == .module && X.env.locals != X.env.globals))=false:=by rw[I.ok.kind];rfl
 have hiσ:i<σ.length:=by rw[I.len];exact (List.getElem?_eq_some_iff.mp hi).1
 have cne:=I.cne;have tracked:∀ {a:Addr} {h':Heap},(∃ o,s.heap.get? a=some o/\H a=none)->Heap.SameBut a s.heap h'->HOk X.prog X.w H h':=fun {a h'} ha hs b ob e=>by
  obtain ⟨_,_,hfree⟩:=ha;refine (I.hok b ob e).stay (λc w' hc q=>(hs.2 c ?_).trans q) (λ_ q=>q) λ_ _ q=>q
  rintro rfl
  rcases hc with rfl|hc
  ·rw[hfree] at e;cases e
  ·rw[hfree] at hc;cases hc
 rcases hx with hk|hk
 ·refine wpAny_storeName_local hk hn (λh' hn' hs=>?_) hcls
  obtain ⟨oL,_,_,hoL,_⟩:=id hn;refine h _ ⟨I.ok,I.os,I.bare,⟨λb o e n hb hx=>?_,λb o e n hb hx=>?_,I.base.free,λb o e hx=>?_,I.base.tups,I.base.frzs,I.base.tbls⟩,⟨_,hn',λj y v' e1 e2 e3=>?_⟩,λy c e=>?_,I.free,I.freeC,λp hp=>?_,tracked ⟨oL,hoL,I.free⟩ hs,by simpa using I.len⟩ ⟨_,hs,.inl rfl⟩
  ·exact (hs.2 b (Nat.ne_of_lt (Nat.lt_of_lt_of_le (Heap.lt_size e) I.ok.above))).trans (I.base.keep b o e n hb hx)
  ·obtain ⟨sl,e1⟩:=I.base.slot b o e n hb hx
   exact ⟨sl,(hs.2 b (Nat.ne_of_lt (Nat.lt_of_lt_of_le (Heap.lt_size e) I.ok.above))).trans e1⟩
  ·obtain ⟨o',e1⟩:=I.base.there b o e hx
   exact ⟨o',(hs.2 b (Nat.ne_of_lt (Nat.lt_of_lt_of_le (Heap.lt_size e) I.ok.above))).trans e1⟩
  ·by_cases hj:j=i
   ·subst hj
    rw[hi] at e1;cases e1;rw[List.getElem?_set_self hiσ] at e2;cases e2;exact ⟨u,r,.inl ⟨hk,by simp⟩⟩
   ·rw[List.getElem?_set_ne (Ne.symm hj)] at e2
    obtain ⟨u',r',q⟩:=hl j y v' e1 e2 e3;refine ⟨u',r',?_⟩
    rcases q with ⟨k,e⟩|⟨k,c,e,z⟩
    ·refine .inl ⟨k,?_⟩
     have:y≠x:=λe=>hj (qir hN e1 (e ▸ hi))
     simp[this,e]
    ·exact .inr ⟨k,c,e,z.sameBut hs (cne y c e)⟩
  ·obtain ⟨w',z⟩:=I.cell y c e
   exact ⟨w',z.sameBut hs (cne y c e)⟩
  ·obtain ⟨e,n,ne,nf,d⟩:=I.pin p hp
   exact ⟨(hs.2 p.1 ne).trans e,n,ne,nf,d⟩
 ·have hfn:X.fn x=true:=by
   rcases hf with z|z
   ·exact z
   ·rw[z] at hk;cases hk
  obtain ⟨c,hc⟩:=I.ok.has x (.inl hk);obtain ⟨w',z⟩:=I.cell x c hc;refine wpAny_storeName_cell I.ok.kind hk hc z (λh' hc' hs=>?_);obtain ⟨oc,hoc,hocd⟩:=id z;refine h { s with heap:=h' } ⟨I.ok,I.os,I.bare,⟨λb o e n hb hx=>?_,λb o e n hb hx=>?_,I.base.free,λb o e hx=>?_,I.base.tups,I.base.frzs,I.base.tbls⟩,⟨m,hn.sameBut hs (Ne.symm (cne x c hc)),λj y v' e1 e2 e3=>?_⟩,λy c' e=>?_,I.free,I.freeC,λp hp=>?_,tracked ⟨oc,hoc,I.freeC x c hc⟩ hs,by simpa using I.len⟩ ⟨c,hs,.inr hc⟩
  ·exact (hs.2 b (Nat.ne_of_lt (Nat.lt_of_lt_of_le (Heap.lt_size e) (I.ok.cab x c hfn hc)))).trans (I.base.keep b o e n hb hx)
  ·obtain ⟨sl,e1⟩:=I.base.slot b o e n hb hx
   exact ⟨sl,(hs.2 b (Nat.ne_of_lt (Nat.lt_of_lt_of_le (Heap.lt_size e) (I.ok.cab x c hfn hc)))).trans e1⟩
  ·obtain ⟨o',e1⟩:=I.base.there b o e hx
   exact ⟨o',(hs.2 b (Nat.ne_of_lt (Nat.lt_of_lt_of_le (Heap.lt_size e) (I.ok.cab x c hfn hc)))).trans e1⟩
  ·by_cases hj:j=i
   ·subst hj
    rw[hi] at e1;cases e1;rw[List.getElem?_set_self hiσ] at e2;cases e2;exact ⟨u,r,.inr ⟨.inl hk,c,hc,hc'⟩⟩
   ·rw[List.getElem?_set_ne (Ne.symm hj)] at e2
    obtain ⟨u',r',q⟩:=hl j y v' e1 e2 e3;refine ⟨u',r',?_⟩
    rcases q with q|⟨k,c',e,z'⟩
    ·exact .inl q
    ·refine .inr ⟨k,c',e,z'.sameBut hs ?_⟩
     rintro rfl;exact hj (qir hN e1 (I.ok.inj _ _ _ e hc ▸ hi))
  ·by_cases hcc:c'=c
   ·subst hcc;exact ⟨_,hc'⟩
   ·obtain ⟨w2,z2⟩:=I.cell y c' e
    exact ⟨w2,z2.sameBut hs hcc⟩
  ·obtain ⟨e,n,ne,nf,d⟩:=I.pin p hp
   refine ⟨(hs.2 p.1 ?_).trans e,n,ne,nf,d⟩;intro q;rw[q,hoc] at e;have q':oc=p.2:=Option.some.inj e;exact d w' (by rw[<- q'];exact hocd)
theorem qis {M:Model} {A:Around} {E:Value->Shared->Prop} {i:Nat} {x:Str} {v:V} {u:Value} {Q:Unit->Shared->Prop} (I:Inv X pins σ H s) (hN:X.N.Nodup) (hi:X.N[i]?=some x) (hx:Loc X.env.scope x) (r:RelV v u)
  (h:∀ s',Inv X pins (σ.set i (some v)) H s'->Q () s') (hf:X.fn x=true\/X.env.scope.names.lookup x=some .local:=by first|exact .inl rfl|exact .inr rfl|assumption):wpAny M A (storeName X.env x u) Q E s:=
 qpu I hN hi hx r (λs' I' _=>h s' I') hf
theorem Inv.call' {s':Shared} {ch:List Addr} (I:Inv X pins σ H s) (ho:s'.os=s.os) (u:Un (frs X.stack) ch H H' s.heap s'.heap) (hok:HOk X.prog X.w H' s'.heap) (hg:AllBare s'.gens)
  (hch:∀ b∈ch,(b∈X.ex\/X.s₀.heap.objs.size<=b)/\b≠X.env.locals/\(∀ x c,X.env.cells.lookup x=some c->c≠b)/\∀ p∈X.pn ++ pins,p.1≠b):Inv X pins σ H' s':=by
 obtain ⟨h',g',d',t',o'⟩:=s';have e:o'=s.os:=ho;subst e;exact I.call (g':=g') (t':=t') (d':=d') u hok hg hch
end
abbrev XK:=Value->Option Addr->Hp->Prop
abbrev St:=List (Option V)
abbrev VK:=V->Hp->Prop
abbrev TE:=St->Hp->VK->Prop
abbrev TT:=St->Hp->(Bool->Hp->Prop)->Prop
abbrev TA:=St->Hp->(List V->Hp->Prop)->Prop
structure Ends where
 nx:St->Hp->Prop
 rt:VK
 bk:St->Hp->Prop:=λ_ _=>False
 ct:St->Hp->Prop:=λ_ _=>False
abbrev TS:=Ends->St->Hp->Prop
def EP (X:Cx) (pins:List (Addr×Obj)) (σ:St) (Q:VK) (u:Value) (s':Shared):Prop:=∃ v H',Inv X pins σ H' s'/\RelV v u/\Q v H'
def TP (X:Cx) (pins:List (Addr×Obj)) (σ:St) (Q:Bool->Hp->Prop) (b:Bool) (s':Shared):Prop:=∃ H',Inv X pins σ H' s'/\Q b H'
def AP (X:Cx) (pins:List (Addr×Obj)) (σ:St) (Q:List V->Hp->Prop) (us:List Value) (s':Shared):Prop:=∃ vs H',Inv X pins σ H' s'/\Vals vs us/\Q vs H'
def SP (X:Cx) (pins:List (Addr×Obj)) (D:Ends) (f:Flow) (s':Shared):Prop:=
 match f with
 | .next=>∃ σ' H',Inv X pins σ' H' s'/\D.nx σ' H'
 | .brk=>∃ σ' H',Inv X pins σ' H' s'/\D.bk σ' H'
 | .cont=>∃ σ' H',Inv X pins σ' H' s'/\D.ct σ' H'
 | .ret u=>∃ v σ' H',Inv X pins σ' H' s'/\RelV v u/\D.rt v H'
def PE (X:Cx) (e:Expr) (t:TE):Prop:=
 ∀ (pins:List (Addr×Obj)) (s:Shared) (σ:St) (H:Hp) (Q:VK),Inv X pins σ H s->t σ H Q->wpAny (model X.prog X.w) X.A (eval e X.env) (EP X pins σ Q) X.xe s
def PT (X:Cx) (e:Expr) (t:TT):Prop:=
 ∀ (pins:List (Addr×Obj)) (s:Shared) (σ:St) (H:Hp) (Q:Bool->Hp->Prop),Inv X pins σ H s->t σ H Q->wpAny (model X.prog X.w) X.A (isTrue e X.env (eval e X.env)) (TP X pins σ Q) X.xe s
def PW (X:Cx) (e:Expr) (t:TT):Prop:=
 ∀ (whole:Sem Value) (pins:List (Addr×Obj)) (s:Shared) (σ:St) (H:Hp) (Q:Bool->Hp->Prop),Inv X pins σ H s->t σ H Q->wpAny (model X.prog X.w) X.A (isTrue e X.env whole) (TP X pins σ Q) X.xe s
theorem PW.pt {X:Cx} {e:Expr} {t:TT} (h:PW X e t):PT X e t:=h _
def PA (X:Cx) (es:List Expr) (t:TA):Prop:=
 ∀ (pos:Pos) (pins:List (Addr×Obj)) (s:Shared) (σ:St) (H:Hp) (Q:List V->Hp->Prop),Inv X pins σ H s->t σ H Q->wpAny (model X.prog X.w) X.A (spliced (backTo pos (starEach es X.env))) (AP X pins σ Q) X.xe s
def PS (X:Cx) (st:Stmt) (t:TS):Prop:=
 ∀ (pins:List (Addr×Obj)) (s:Shared) (σ:St) (H:Hp) (D:Ends),Inv X pins σ H s->t D σ H->wpAny (model X.prog X.w) X.A (exec st X.env) (SP X pins D) X.xe s
def PSs (X:Cx) (st:List Stmt) (t:TS):Prop:=
 ∀ (pins:List (Addr×Obj)) (s:Shared) (σ:St) (H:Hp) (D:Ends),Inv X pins σ H s->t D σ H->wpAny (model X.prog X.w) X.A (execs st X.env) (SP X pins D) X.xe s
theorem thn {α:Type} {t:Sem α} {Q Q':α->Shared->Prop} {M:Model} {A:Around} {E:Value->Shared->Prop} {s:Shared} (h:wpAny M A t Q E s) (hQ:∀ a s,Q a s->Q' a s):wpAny M A t Q' E s:=wpAny_mono h hQ λ_ _ x=>x
open PySem PySem.Spec PyProof.Rows
section
variable {X:Cx}
inductive tVarS (i:Nat) (σ:St) (H:Hp) (Q:VK):Prop
 | mk (v:V) (h:σ[i]?=some (some v)) (k:Q v H)
def qAq (i:Nat):TE:=λσ H Q=>tVarS i σ H Q
def tC (v:V):TE:=λ_ H Q=>Q v H
theorem qya {i:Nat} {x:Str} {pos:Pos} (hN:X.N[i]?=some x) (hv:Vis X.env.scope x) (hd:(x == ("__debug__" : Str))=false:=by decide) (hcd:(x == ("__classdict__" : Str))=false:=by decide):PE X (.Name x pos) (qAq i):=by
 intro pins s σ H Q I h;obtain ⟨v,e,h⟩:=h;obtain ⟨m,hn,hl⟩:=I.loc;obtain ⟨u,r,l⟩:=hl i x v hN e hv;have fin:EP X pins σ Q u s:=⟨v,H,I,r,h⟩
 rcases l with ⟨hk,hm⟩|⟨hk,c,hc,hcell⟩
 ·exact wpAny_Name (wpAny_loadName_local I.ok.kind hk hn hm fin) hd
 ·rcases hk with hk|hk
  ·exact wpAny_Name (wpAny_loadName_cell I.ok.kind hk hc hcell fin) hd
  ·exact wpAny_Name (wpAny_loadName_free I.ok.kind hk hc hcell fin hcd) hd
theorem qaa {i j pos}:PE X (.Constant (.int i) j pos) (tC (.int i)):=λ_ _ _ H _ I h=>wpAny_Constant_int ⟨.int i,H,I.tok _,⟨_,rfl⟩,h⟩
theorem qet {b j pos}:PE X (.Constant (.bool b) j pos) (tC (.bl b)):=λ_ _ _ H _ I h=>Constant_bool ⟨.bl b,H,I,rfl,h⟩
theorem qbj {j pos}:PE X (.Constant .none j pos) (tC .non):=λ_ _ _ H _ I h=>Constant_none ⟨.non,H,I,rfl,h⟩
theorem qbb {x j pos}:PE X (.Constant (.str x) j pos) (tC (.str x)):=λ_ _ _ H _ I h=>Calls.Constant_str ⟨.str x,H,I.tok _,⟨_,rfl⟩,h⟩
def Gl (X:Cx) (x:Str):Prop:=X.env.kindOf x=some .globalImplicit
theorem qeu {E:Value->Shared->Prop} {pins:List (Addr×Obj)} {s:Shared} {σ:St} {H:Hp} {x:Str} {u:Value} {pos:Pos} {Q:Value->Shared->Prop} (I:Inv X pins σ H s) (hg:Gl X x) (hm:X.mg x=some u) (h:Q u s)
  (hd:(x == ("__debug__" : Str))=false:=by decide):wpAny (model X.prog X.w) X.A (eval (.Name x pos) X.env) Q E s:=
 Calls.Name_function_global I.ok.kind hg (Calls.loadGlobal_global (by rw[I.ok.glob];exact I.mod.glob.keeps I.bk) hm h) hd
theorem qjt {E:Value->Shared->Prop} {pins:List (Addr×Obj)} {s:Shared} {σ:St} {H:Hp} {x:Str} {u:Value} {pos:Pos} {Q:Value->Shared->Prop} (I:Inv X pins σ H s) (hg:Gl X x) (hm:X.mg x=none) (hv:bootBuiltins x=some u) (h:Q u s)
  (hn:x ≠ "__name__" :=by decide) (hd:(x == ("__debug__" : Str))=false:=by decide):wpAny (model X.prog X.w) X.A (eval (.Name x pos) X.env) Q E s:=by
 obtain ⟨mb,h1,h2⟩:=I.mod.blt;exact Calls.Name_function_global I.ok.kind hg (Calls.loadGlobal_builtin (by rw[I.ok.glob];exact I.mod.glob.keeps I.bk) hm (by rw[I.ok.blt];exact h1.keeps I.bk) ((h2 x hn).trans hv) h) hd
theorem qcw {x:Str} {v:V} {u:Value} {pos:Pos} (hg:Gl X x) (hm:X.mg x=some u) (r:RelV v u) (hd:(x == ("__debug__" : Str))=false:=by decide):PE X (.Name x pos) (tC v):=
 λ_ _ _ H _ I h=>qeu I hg hm ⟨v,H,I,r,h⟩ hd
theorem qd4 {x:Str} {v:V} {u:Value} {pos:Pos} (hg:Gl X x) (hm:X.mg x=none) (hv:bootBuiltins x=some u) (r:RelV v u) (hn:x ≠ "__name__" :=by decide) (hd:(x == ("__debug__" : Str))=false:=by decide):PE X (.Name x pos) (tC v):=
 λ_ _ _ H _ I h=>qjt I hg hm hv ⟨v,H,I,r,h⟩ hn hd
variable {a b:Expr} {ta tb:TE} {pos:Pos}
def PC (X:Cx) (op:CmpOp) (a b:Expr) (t:TE):Prop:=
 ∀ (pins:List (Addr×Obj)) (s:Shared) (σ:St) (H:Hp) (Q:VK),Inv X pins σ H s->t σ H Q ->
  wpAny (model X.prog X.w) X.A (eval a X.env) (λv s₁=>wpAny (model X.prog X.w) X.A (eval b X.env) (λu s₂=>wpAny (model X.prog X.w) X.A (compareOp op v u) (EP X pins σ Q) X.xe s₂) X.xe s₁) X.xe s
theorem qsu (b:Expr) {op:CmpOp} (h:op≠.In) (h2:op≠.NotIn):behindInMarks op b=false:=by
 have e1:(op == CmpOp.In)=false:=by cases op<;>first|rfl|exact absurd rfl h
 have e2:(op == CmpOp.NotIn)=false:=by cases op<;>first|rfl|exact absurd rfl h2
 cases b<;>simp[behindInMarks,e1,e2]
inductive tBS (x:V) (H:Hp) (Q:Bool->Hp->Prop):Prop
 | mk (c:Bool) (h:x=.bl c) (k:Q c H)
def tB (t:TE):TT:=λσ H Q=>t σ H λx H1=>tBS x H1 Q
theorem qpv {op:CmpOp} {t:TE} (h:PC X op a b t) (h1:behindInMarks op b=false:=by first|exact qsu _ (by decide) (by decide)|rfl):PT X (.Compare a [op] [b] pos) (tB t):=by
 intro pins s σ H Q I hw;refine wpAny_isTrue_Compare1 (thn (h pins s σ H _ I hw) λv s1 h1=>thn h1 λu s2 h2=>thn h2 λc s3 hq__=>?_) h1;obtain ⟨x,H1,I1,r1,q1⟩:=hq__;obtain ⟨d,rfl,q⟩:=q1;cases r1;exact wpAny_truthy_bool ⟨H1,I1,q⟩
theorem qc4 {e:Expr} {t:TE} (h:PE X e t) (he:∀ whole,isTrue e X.env whole=(do let v <- whole;standAt e.pos;holding [v] (truthy v)):=by intro _;rfl):PT X e (tB t):=by
 intro pins s σ H Q I hw;refine isTrue_plain (thn (h pins s σ H _ I hw) λv s1 hq__=>?_) (he _);obtain ⟨x,H1,I1,r1,q1⟩:=hq__;obtain ⟨d,rfl,q⟩:=q1;cases r1;exact wpAny_truthy_bool ⟨H1,I1,q⟩
variable {tA tB':TT} {rest:List Expr}
def qCx (t u:TT):TT:=λσ H Q=>t σ H λc H1=>if c=true then u σ H1 Q else Q false H1
def tOr (t u:TT):TT:=λσ H Q=>t σ H λc H1=>if c=true then Q true H1 else u σ H1 Q
def qCy (t:TT):TT:=λσ H Q=>t σ H λc H1=>Q (!c) H1
theorem ql1 (ha:PT X a tA):PW X (.BoolOp .And [a] pos) tA:=by
 intro wh pins s σ H Q I h;refine isTrue_and (thn (ha pins s σ H Q I h) λc s1 e=>?_)
 cases c with
 | true=>exact isTrue_and_nil e
 | false=>exact e
theorem qfb (ha:PT X a tA):PW X (.BoolOp .Or [a] pos) tA:=by
 intro wh pins s σ H Q I h;refine isTrue_or (thn (ha pins s σ H Q I h) λc s1 e=>?_)
 cases c with
 | false=>exact isTrue_or_nil e
 | true=>exact e
theorem qpw (ha:PT X a tA) (hb:PW X (.BoolOp .And (b :: rest) pos) tB'):PW X (.BoolOp .And (a :: b :: rest) pos) (qCx tA tB'):=by
 intro wh pins s σ H Q I h;refine isTrue_and (thn (ha pins s σ H _ I h) λc s1 hq__=>?_);obtain ⟨H1,I1,q1⟩:=hq__
 cases c with
 | true=>exact hb wh pins s1 σ H1 Q I1 q1
 | false=>exact ⟨H1,I1,q1⟩
theorem qhl (ha:PT X a tA) (hb:PW X (.BoolOp .Or (b :: rest) pos) tB'):PW X (.BoolOp .Or (a :: b :: rest) pos) (tOr tA tB'):=by
 intro wh pins s σ H Q I h;refine isTrue_or (thn (ha pins s σ H _ I h) λc s1 hq__=>?_);obtain ⟨H1,I1,q1⟩:=hq__
 cases c with
 | true=>exact ⟨H1,I1,q1⟩
 | false=>exact hb wh pins s1 σ H1 Q I1 q1
theorem qdt (ha:PT X a tA):PT X (.UnaryOp .Not a pos) (qCy tA):=by
 intro pins s σ H Q I h;exact isTrue_not (ha pins s σ H (λc H1=>Q (!c) H1) I h)
inductive tAndVS (tb:TE) (σ:St) (x:V) (H:Hp) (Q:VK):Prop
 | mk (c:Bool) (h:x=.bl c) (k:if c=true then tb σ H Q else Q (.bl false) H)
def qA5 (ta tb:TE):TE:=λσ H Q=>ta σ H λx H1=>tAndVS tb σ x H1 Q
inductive tOrVS (tb:TE) (σ:St) (x:V) (H:Hp) (Q:VK):Prop
 | mk (c:Bool) (h:x=.bl c) (k:if c=true then Q (.bl true) H else tb σ H Q)
inductive tNotVS (x:V) (H:Hp) (Q:VK):Prop
 | mk (c:Bool) (h:x=.bl c) (k:Q (.bl (!c)) H)
def qA6 (ta:TE):TE:=λσ H Q=>ta σ H λx H1=>tNotVS x H1 Q
theorem qju {op} {t:TE} (h:PE X a t):PE X (.BoolOp op [a] pos) t:=λpins s σ H Q I hw=>BoolOp_one (h pins s σ H Q I hw)
theorem qfc (ha:PE X a ta) (hb:PE X (.BoolOp .And (b :: rest) pos) tb):PE X (.BoolOp .And (a :: b :: rest) pos) (qA5 ta tb):=by
 intro pins s σ H Q I h;refine BoolOp_and (thn (ha pins s σ H _ I h) λv s1 hq__=>?_);obtain ⟨x,H1,I1,r1,q1⟩:=hq__;obtain ⟨c,rfl,q1⟩:=q1;cases r1;refine wpAny_truthy_bool ?_
 cases c with
 | true=>exact hb pins s1 σ H1 Q I1 q1
 | false=>exact ⟨.bl false,H1,I1,rfl,q1⟩
theorem qyb (ha:PE X a ta):PE X (.UnaryOp .Not a pos) (qA6 ta):=by
 intro pins s σ H Q I h;refine UnaryOp_ (thn (ha pins s σ H _ I h) λv s1 hq__=>?_);obtain ⟨x,H1,I1,r1,q1⟩:=hq__;obtain ⟨c,rfl,q1⟩:=q1;cases r1;exact not_of (wpAny_truthy_bool ⟨.bl (!c),H1,I1,rfl,q1⟩)
def tIf (t:TT) (ta tb:TE):TE:=λσ H Q=>t σ H λc H1=>if c=true then ta σ H1 Q else tb σ H1 Q
theorem qsv {c:Expr} (hc:PT X c tA) (ha:PE X a ta) (hb:PE X b tb):PE X (.IfExp c a b pos) (tIf tA ta tb):=by
 intro pins s σ H Q I h;refine wpAny_IfExp (thn (hc pins s σ H _ I h) λd s1 hq__=>?_);obtain ⟨H1,I1,q1⟩:=hq__
 cases d with
 | true=>exact ha pins s1 σ H1 Q I1 q1
 | false=>exact hb pins s1 σ H1 Q I1 q1
end
open PySem PySem.Spec PyProof.Rows
def SqL (K:Frag) (H:Hp) (a:Addr) (xs:List V):Prop:=
 Rd H a (.lst xs) \/
  ∃ (o:Obj) (its:Array Value) (n:Nat),K.lookup a=some o/\o.cls=.type "list" /\ o.dict=none/\o.data=.seq its n/\its.size<=sizeLine/\Vals xs its.toList
def SqT (K:Frag) (H:Hp) (a:Addr) (xs:List V):Prop:=
 Rd H a (.tup xs) \/
  ∃ (o:Obj) (its:Array Value) (n:Nat),K.lookup a=some o/\o.cls=.type "tuple" /\ o.data=.seq its n/\its.size<=sizeLine/\Vals xs its.toList
def qCz:Value->Option V
 | .none=>some .non
 | .bool b=>some (.bl b)
 | .int i _=>some (.int i)
 | .str x _=>some (.str x)
 | .bytes b _=>some (.byt b)
 | .float b _=>some (.flt b)
 | .ref a=>some (.ref a)
 | .type n=>some (.ty n)
 | _=>none
theorem RelV.abs {x:V} {u:Value} (r:RelV x u):qCz u=some x:=by
 cases x with
 | non=>cases r;rfl
 | bl _=>cases r;rfl
 | int _=>obtain ⟨t,rfl⟩:=r;rfl
 | str _=>obtain ⟨t,rfl⟩:=r;rfl
 | byt _=>obtain ⟨t,rfl⟩:=r;rfl
 | flt _=>obtain ⟨t,rfl⟩:=r;rfl
 | ref _=>cases r;rfl
 | ty _=>cases r;rfl
theorem RelV.inj {x y:V} {u:Value} (r:RelV x u) (q:RelV y u):x=y:=Option.some.inj (r.abs.symm.trans q.abs)
theorem Vals.inj:∀ {xs ys:List V} {us:List Value},Vals xs us->Vals ys us->xs=ys
 | _,_,_,.nil,.nil=>rfl
 | _,_,_,.cons r t,.cons r' t'=>by rw[r.inj r',Vals.inj t t']
section
variable {X:Cx} {pins:List (Addr×Obj)} {σ:St} {H:Hp} {s:Shared} {a:Addr} {xs ys:List V}
theorem SqL.of {K:Frag} (h:H a=some (.lst xs)):SqL K H a xs:=.inl (.inl h)
theorem SqT.of {K:Frag} (h:H a=some (.tup xs)):SqT K H a xs:=.inl (.inl h)
theorem Inv.list (I:Inv X pins σ H s) (h:SqL X.K H a xs):∃ its:List Value,Vals xs its/\PlainL s.heap a its.toArray/\xs.length<=sizeLine:=by
 rcases h with h|⟨o,its,n,hk,hc,hd,hs,hz,r⟩
 ·obtain ⟨z,its,n,r,e⟩:=h.ok I.hok
  exact ⟨its,r,⟨_,n,e,rfl,rfl,rfl⟩,z⟩
 ·refine ⟨its.toList,r,⟨o,n,I.kIn a o hk,hc,hd,by simpa using hs⟩,?_⟩
  have e:=r.length;simp only[Array.length_toList] at e;omega
theorem Inv.tuple (I:Inv X pins σ H s) (h:SqT X.K H a xs):∃ its:List Value,Vals xs its/\IsTup s.heap a its.toArray/\xs.length<=sizeLine:=by
 rcases h with h|⟨o,its,n,hk,hc,hs,hz,r⟩
 ·obtain ⟨z,its,r,p⟩:=h.ok I.hok
  exact ⟨its,r,p,z⟩
 ·refine ⟨its.toList,r,⟨o,I.kIn a o hk,hc,n,by simpa using hs⟩,?_⟩
  have e:=r.length;simp only[Array.length_toList] at e;omega
theorem Inv.list_inj (I:Inv X pins σ H s) (h:SqL X.K H a xs) (h':SqL X.K H a ys):xs=ys:=by
 obtain ⟨its,r,⟨o,n,e,_,_,d⟩,_⟩:=I.list h;obtain ⟨its',r',⟨o',n',e',_,_,d'⟩,_⟩:=I.list h';rw[e] at e';cases e';rw[d] at d';injection d' with d1 _
 have:its=its':=by simpa using congrArg Array.toList d1
 subst this;exact r.inj r'
theorem Inv.tuple_inj (I:Inv X pins σ H s) (h:SqT X.K H a xs) (h':SqT X.K H a ys):xs=ys:=by
 obtain ⟨its,r,⟨o,e,_,n,d⟩,_⟩:=I.tuple h;obtain ⟨its',r',⟨o',e',_,n',d'⟩,_⟩:=I.tuple h';rw[e] at e';cases e';rw[d] at d';injection d' with d1 _
 have:its=its':=by simpa using congrArg Array.toList d1
 subst this;exact r.inj r'
end
abbrev Cx.wish (X:Cx) (E:Value->Shared->Prop):Cx:={ X with xe:=E }
abbrev Cx.nox (X:Cx):Cx:=X.wish λ_ _=>False
theorem Cx.Ok.wish {X:Cx} (ok:X.Ok) (E:Value->Shared->Prop):(X.wish E).Ok:=
 ⟨ok.mod,ok.kind,ok.glob,ok.blt,ok.above,ok.inj,ok.has,ok.cab,ok.hd,ok.frames,ok.stk,ok.exf,ok.bs,ok.bsz,ok.noex,ok.exfs,ok.funs,ok.frf⟩
theorem Cx.Ok.unwish {X:Cx} {E:Value->Shared->Prop} (ok:(X.wish E).Ok):X.Ok:=
 ⟨ok.mod,ok.kind,ok.glob,ok.blt,ok.above,ok.inj,ok.has,ok.cab,ok.hd,ok.frames,ok.stk,ok.exf,ok.bs,ok.bsz,ok.noex,ok.exfs,ok.funs,ok.frf⟩
section
variable {X:Cx} {pins:List (Addr×Obj)} {σ:St} {H:Hp} {s:Shared} {E:Value->Shared->Prop}
theorem Inv.wish (I:Inv X pins σ H s) (E:Value->Shared->Prop):Inv (X.wish E) pins σ H s:=⟨I.ok.wish E,I.os,I.bare,I.base,I.loc,I.cell,I.free,I.freeC,I.pin,I.hok,I.len⟩
theorem Inv.unwish (I:Inv (X.wish E) pins σ H s):Inv X pins σ H s:=⟨I.ok.unwish,I.os,I.bare,I.base,I.loc,I.cell,I.free,I.freeC,I.pin,I.hok,I.len⟩
theorem SP.unwish {D:Ends} {f:Flow} {s':Shared} (h:SP (X.wish E) pins D f s'):SP X pins D f s':=by
 cases f with
 | next=>obtain ⟨σ',H',I,q⟩:=h;exact ⟨σ',H',I.unwish,q⟩
 | brk=>obtain ⟨σ',H',I,q⟩:=h;exact ⟨σ',H',I.unwish,q⟩
 | cont=>obtain ⟨σ',H',I,q⟩:=h;exact ⟨σ',H',I.unwish,q⟩
 | ret u=>obtain ⟨v,σ',H',I,r,q⟩:=h;exact ⟨v,σ',H',I.unwish,r,q⟩
theorem PSs.nox {st:List Stmt} {t:TS} (h:PSs X.nox st t):PSs X st t:=λpins s σ H D I hw =>
 wpAny_mono (h pins s σ H D (I.wish _) hw) (λ_ _ q=>q.unwish) λ_ _ z=>False.elim z
end
section
variable {X:Cx} {st:Stmt} {rest:List Stmt} {t u:TS} {e:Expr} {te:TE} {pos:Pos}
def qA7:TS:=λD σ H=>D.nx σ H
def qcj (t u:TS):TS:=λD σ H=>t { D with nx:=u D } σ H
theorem qap:PSs X [] qA7:=λ_ _ σ H _ I h=>wpAny_execs_nil ⟨σ,H,I,h⟩
theorem qaj (h1:PS X st t) (h2:PSs X rest u):PSs X (st :: rest) (qcj t u):=by
 intro pins s σ H D I h;refine wpAny_execs_cons (thn (h1 pins s σ H { D with nx:=u D } I h) λf s1 q=>?_)
 cases f with
 | next =>
  obtain ⟨σ',H',I',q⟩:=q;exact h2 pins s1 σ' H' D I' q
 | ret v=>exact q
 | brk=>exact q
 | cont=>exact q
theorem qad (h1:PS X st t):PSs X [st] t:=by
 intro pins s σ H D I h;refine wpAny_execs_cons (thn (h1 pins s σ H D I h) λf s1 q=>?_)
 cases f with
 | next=>exact wpAny_execs_nil q
 | ret v=>exact q
 | brk=>exact q
 | cont=>exact q
theorem Inv.quiet {pins:List (Addr×Obj)} {σ:St} {H:Hp} {s:Shared} (I:Inv X pins σ H s):interactive X.env=false:=by simp[interactive,I.ok.kind]
def qA8 (te:TE):TS:=λD σ H=>te σ H λ_ H1=>D.nx σ H1
theorem qa4 (he:PE X e te) (hs:swapsWith e none pos.line X.env=pure false:=by rfl):PS X (.Expr e pos) (qA8 te):=by
 intro pins s σ H D I h;exact wpAny_Expr_any (thn (he pins s σ H _ I h) λv s1 ⟨x,H1,I1,r1,q1⟩=>⟨σ,H1,I1,q1⟩) I.quiet hs
def qC0 (te:TE):TS:=λD σ H=>te σ H D.rt
theorem qak (he:PE X e te):PS X (.Return (some e) pos) (qC0 te):=by
 intro pins s σ H D I h;exact wpAny_Return_some (thn (he pins s σ H _ I h) λv s1 ⟨x,H1,I1,r1,q1⟩=>⟨x,σ,H1,I1,r1,q1⟩)
def qA9:TS:=λD _ H=>D.rt .non H
theorem qvu:PS X (.Return none pos) qA9:=λ_ _ σ H _ I h=>wpAny_Return_none ⟨.non,σ,H,I,rfl,h⟩
def qC1 (c:TT) (t u:TS):TS:=λD σ H=>c σ H λb H1=>if b=true then t D σ H1 else u D σ H1
theorem qa7 {c:Expr} {a b:List Stmt} {tc:TT} (hc:PT X c tc) (ha:PSs X a t) (hb:PSs X b u):PS X (.If c a b pos) (qC1 tc t u):=by
 intro pins s σ H D I h;refine wpAny_If (thn (hc pins s σ H _ I h) λd s1 hq__=>?_);obtain ⟨H1,I1,q1⟩:=hq__
 cases d with
 | true=>exact ha pins s1 σ H1 D I1 q1
 | false=>exact hb pins s1 σ H1 D I1 q1
def qyc:TS:=λ_ _ _=>False
theorem qcx:PS X st qyc:=λ_ _ _ _ _ _ h=>h.elim
end
abbrev TG:=V->St->Hp->(St->Hp->Prop)->Prop
abbrev TGs:=List V->St->Hp->(St->Hp->Prop)->Prop
def PG (X:Cx) (target:Expr) (t:TG):Prop:=
 ∀ (pins:List (Addr×Obj)) (s:Shared) (σ:St) (H:Hp) (v:V) (u:Value) (Q:St->Hp->Prop),Inv X pins σ H s->RelV v u->t v σ H Q ->
  wpAny (model X.prog X.w) X.A (assign target X.env u) (λ_ s'=>∃ σ' H',Inv X pins σ' H' s'/\Q σ' H') X.xe s
def PGs (X:Cx) (ts:List Expr) (t:TGs):Prop:=
 ∀ (pins:List (Addr×Obj)) (s:Shared) (σ:St) (H:Hp) (vs:List V) (us:List Value) (Q:St->Hp->Prop),Inv X pins σ H s->Vals vs us->t vs σ H Q ->
  wpAny (model X.prog X.w) X.A (assignInOrder ((assignEach ts X.env).map (·.2)) us) (λ_ s'=>∃ σ' H',Inv X pins σ' H' s'/\Q σ' H') X.xe s
section
variable {X:Cx} {pos:Pos}
def qcr (i:Nat):TG:=λv σ H Q=>Q (σ.set i (some v)) H
theorem qga {i:Nat} {x:Str} (hN:X.N.Nodup) (hi:X.N[i]?=some x) (hx:Loc X.env.scope x) (hf:X.fn x=true\/X.env.scope.names.lookup x=some .local:=by first|exact .inl rfl|exact .inr rfl|assumption):PG X (.Name x pos) (qcr i):=by
 intro pins s σ H v u Q I r h;exact wpAny_assign_Name (qis I hN hi hx r (λs' I'=>⟨_,H,I',h⟩) hf)
def qsw:TGs:=λvs σ H Q=>vs=[]/\Q σ H
def qcl (t:TG) (u:TGs):TGs:=λvs σ H Q=>∃ v r,vs=v :: r/\t v σ H λσ' H'=>u r σ' H' Q
theorem ql2:PGs X [] qsw:=by
 intro pins s σ H vs us Q I r h;obtain ⟨e,h⟩:=h;subst e;cases r;exact assignInOrder_nil ⟨σ,H,I,h⟩
theorem qb9 {e:Expr} {es:List Expr} {t:TG} {u:TGs} (h1:PG X e t) (h2:PGs X es u)
  (hs:(assignEach (e :: es) X.env).map (·.2)=assign e X.env :: (assignEach es X.env).map (·.2):=by rfl):PGs X (e :: es) (qcl t u):=by
 intro pins s σ H vs us Q I r h;obtain ⟨v,vr,e1,h⟩:=h;subst e1
 cases r with
 | cons r rr =>
  rw[hs];refine assignInOrder_cons (thn (h1 pins s σ H _ _ _ I r h) λ_ s1 hq__=>?_);obtain ⟨σ1,H1,I1,q1⟩:=hq__;exact h2 pins s1 σ1 H1 _ _ Q I1 rr q1
def qsx (K:Frag) (n:Nat) (t:TGs):TG:=λv σ H Q=>∃ a xs,v=.ref a/\SqT K H a xs/\xs.length=n/\t xs σ H Q
theorem qpx {es:List Expr} {k:Nat} {t:TGs} {n:Nat} (hc:X.calm=true) (h:PGs X es t)
  (hn:(assignEach es X.env).length=n:=by rfl) (hst:(assignEach es X.env).findIdx? (·.1)=none:=by rfl):PG X (.Tuple es k pos) (qsx X.K n t):=by
 intro pins s σ H v u Q I r hw;obtain ⟨a,xs,e1,hq,hl,hw⟩:=hw;subst e1;cases r;obtain ⟨its,rv,ht,hz⟩:=I.tuple hq;refine assign_Tuple_tuple (I.ok.hd hc) ht (by simp[hn,<- hl,rv.length]) hst λh' hx=>?_
 have I1:Inv X pins σ H { s with heap:=h' }:=I.kept (t':=s.toks) λb o e=>hx b o (Nat.ne_of_lt (Heap.lt_size e)) e
 exact h pins _ σ H xs _ Q I1 (by simpa using rv) hw
def qAr (te:TE) (g:TG):TS:=λD σ H=>te σ H λx H1=>g x σ H1 D.nx
theorem qm0 {tg e:Expr} {te:TE} {g:TG} (he:PE X e te) (hg:PG X tg g) (hs:swapsWithSole [tg] e pos.line X.env=pure false:=by rfl) (hw:swappedStores [tg] e X.env=pure none:=by rfl)
  (h1:(assignEach [tg] X.env).map (·.2)=[assign tg X.env]:=by rfl):PS X (.Assign [tg] e pos) (qAr te g):=by
 intro pins s σ H D I h;refine wpAny_Assign_stores (thn (he pins s σ H _ I h) λv s1 hq__=>?_) hs hw;obtain ⟨x,H1,I1,r1,q1⟩:=hq__;rw[h1];exact thn (hg pins s1 σ H1 x v _ I1 r1 q1) λ_ s2 q=>q
theorem qht {i:Nat} {x:Str} {e:Expr} {te:TE} {pos':Pos} (hN:X.N.Nodup) (hi:X.N[i]?=some x) (hx:Loc X.env.scope x) (he:PE X e te) (hs:swapsWith e (some (.Name x pos')) pos.line X.env=pure false:=by rfl) (hf:X.fn x=true\/X.env.scope.names.lookup x=some .local:=by first|exact .inl rfl|exact .inr rfl|assumption) :
  PS X (.Assign [.Name x pos'] e pos) (qAr te (qcr i)):=by
 intro pins s σ H D I h;refine wpAny_Assign_Name (thn (he pins s σ H _ I h) λv s1 hq__=>?_) hs;obtain ⟨y,H1,I1,r1,q1⟩:=hq__;exact qis I1 hN hi hx r1 (λs2 I2=>⟨_,H1,I2,q1⟩) hf
end
section
variable {X:Cx} {pos:Pos}
end
structure It where
 go:Nat->Hp->Prop
 yld:Nat->Hp->V->Hp->Prop
 stop:Nat->Hp->Prop
def qhu (X:Cx) (pins:List (Addr×Obj)) (H:Hp) (b:Addr):Prop:=
 H b=none/\b≠X.env.locals/\b ∉ X.fs/\(b∈X.ex\/X.s₀.heap.objs.size<=b)/\(∀ x c,X.env.cells.lookup x=some c->c≠b)/\∀ p∈X.pn ++ pins,p.1≠b
theorem Inv.fpOk {X:Cx} {pins:List (Addr×Obj)} {σ:St} {H H':Hp} {s:Shared} {b:Addr} (I:Inv X pins σ H s) (hb:s.heap.objs.size<=b) (hn:H' b=none):qhu X pins H' b:=by
 refine ⟨hn,Nat.ne_of_gt (Nat.lt_of_lt_of_le I.lt hb),I.nofs hb,.inr (Nat.le_trans I.sz hb),λx c e z=>?_,λp hp z=>?_⟩
 ·obtain ⟨v,q⟩:=I.cell x c e
  exact absurd (Nat.lt_of_lt_of_le q.lt (by rw[z];exact hb)) (Nat.lt_irrefl _)
 ·exact absurd (Nat.lt_of_lt_of_le (Heap.lt_size (I.pin p hp).1) (by rw[z];exact hb)) (Nat.lt_irrefl _)
structure Turn (P:Program) (w:World) (K:Frag) (tg:Expr) (J:It) (fp:List Addr) (it:Addr) (tn:Nat->Heap->Prop):Prop where
 mem:it∈fp
 obj:∀ i h,tn i h->∀ b∈fp,∃ o,h.get? b=some o/\∀ v,o.data≠.cell v
 keep:∀ i h h',tn i h->(∀ b∈fp,∀ o,h.get? b=some o->h'.get? b=some o)->tn i h'
 item:∀ (X:Cx),X.prog=P->X.w=w->X.K=K->X.calm=true->∀ (i:Nat) (pins:List (Addr×Obj)) (s:Shared) (σ:St) (H:Hp) (E:Value->Shared->Prop),Inv X pins σ H s->(∀ b∈fp,qhu X pins H b)->tn i s.heap->J.go i H ->
  wpAny (model P w) X.A (pyNext (.ref it)) (λr s1=>∃ u,r=some u /\
   wpAny (model P w) X.A (letOwnedTupleGo tg (.ref it) u) (λ_ s2=>∃ x H',Inv X pins σ H' s2/\RelV x u/\J.yld i H x H'/\tn (i+1) s2.heap/\∀ b∈fp,H' b=none) E s1) E s
 done:∀ (X:Cx),X.prog=P->X.w=w->X.K=K->X.calm=true->∀ (i:Nat) (pins:List (Addr×Obj)) (s:Shared) (σ:St) (H:Hp) (E:Value->Shared->Prop),Inv X pins σ H s->(∀ b∈fp,qhu X pins H b)->tn i s.heap->J.stop i H ->
  wpAny (model P w) X.A (pyNext (.ref it)) (λr s1=>r=none/\Inv X pins σ H s1) E s
 self:∀ (A:Around) (i:Nat) (s:Shared) (Q:Value->Shared->Prop) (E:Value->Shared->Prop),tn i s.heap->Q (.ref it) s->wpAny (model P w) A (pyIter (.ref it)) Q E s
abbrev TI:=St->Hp->(It->Hp->Prop)->Prop
def PIE (X:Cx) (pins:List (Addr×Obj)) (σ:St) (tg:Expr) (R:It->Hp->Prop) (itv:Value) (s2:Shared):Prop:=
 ∃ (it:Addr) (fp:List Addr) (tn:Nat->Heap->Prop) (J:It) (H':Hp),itv=.ref it/\Inv X pins σ H' s2/\Turn X.prog X.w X.K tg J fp it tn/\tn 0 s2.heap/\(∀ b∈fp,qhu X pins H' b)/\R J H'
def PI (X:Cx) (tg iter:Expr) (wi:TI):Prop:=
 ∀ (pins:List (Addr×Obj)) (s:Shared) (σ:St) (H:Hp) (R:It->Hp->Prop),Inv X pins σ H s->wi σ H R ->
  wpAny (model X.prog X.w) X.A (eval iter X.env) (λv s1=>wpAny (model X.prog X.w) X.A (pyIter v) (PIE X pins σ tg R) X.xe s1) X.xe s
theorem qpy {M:Model} {A:Around} {E:Value->Shared->Prop} {s:Shared} {tg:Expr} {it:Addr} {u:Value} {o:Obj} {n:String} {vs:Array Value} {Q:Unit->Shared->Prop} (ho:s.heap.get? it=some o) (hc:o.cls=.type n) (hd:o.data=.fields vs)
  (hn:["enumerate", "zip", "dict_itemiterator", "dict_reverseitemiterator", "odict_iterator", "itertools.zip_longest", "itertools.pairwise"].contains n=false) (hQ:Q () s):wpAny M A (letOwnedTupleGo tg (.ref it) u) Q E s:=by
 unfold letOwnedTupleGo
 cases tg<;>first
  | exact wpAny_pure hQ
  | (cases u<;>first
    | exact wpAny_pure hQ
    | (refine wpAny_bind (wpAny_load ho ?_)
       rw[hc,hd]
       show wpAny M A (if (["enumerate", "zip", "dict_itemiterator", "dict_reverseitemiterator", "odict_iterator", "itertools.zip_longest", "itertools.pairwise"].contains n && vs[0]? == some (rawInt _))=true then _ else _) Q E s
       rw[if_neg (by intro h;rw[hn,Bool.false_and] at h;cases h)];exact wpAny_pure hQ))
def Itl (K:Frag) (a:Addr):It:=
 ⟨λi H=>∃ xs x,SqL K H a xs/\xs[i]?=some x,λi H x H'=>H'=H/\∀ xs,SqL K H a xs->xs[i]?=some x,λi H=>∃ xs,SqL K H a xs/\xs.length<=i⟩
def Itt (K:Frag) (a:Addr):It:=
 ⟨λi H=>∃ xs x,SqT K H a xs/\xs[i]?=some x,λi H x H'=>H'=H/\∀ xs,SqT K H a xs->xs[i]?=some x,λi H=>∃ xs,SqT K H a xs/\xs.length<=i⟩
def Itr (lo:Int) (n:Nat):It:=⟨λi _=>i<n,λi H x H'=>H'=H/\x=.int (lo+i),λi _=>n<=i⟩
theorem qpz {P:Program} {w:World} {K:Frag} {tg:Expr} (a it:Addr):Turn P w K tg (Itl K a) [it] it (λi h=>h.IsListIter it a i) where
 mem:=by simp
 obj:=λi h st b hb=>by
  have e:b=it:=by simpa using hb
  subst e;obtain ⟨o,e,c,d⟩:=st;exact ⟨o,e,λv z=>by rw[d] at z;cases z⟩
 keep:=λi h h' st k=>st.at λo e=>k it (by simp) o e
 item:=by
  intro X hP hw hK hc i pins s σ H E I hf st hg;subst hP hw hK;obtain ⟨xs,x,hq,hx⟩:=hg;obtain ⟨its,rv,p,hz⟩:=I.list hq;obtain ⟨u,hu,ru⟩:=rv.get hx;obtain ⟨f0,f1,f2,f3,f4,f5⟩:=hf it (by simp);refine wpAny_pyNext_list_item st p.isList (x:=u) (by simpa using hu) λh' st' sb=>?_
  have I1:Inv X pins σ H { s with heap:=h' }:=I.turned (t':=s.toks) (λb o hb e=>(sb.2 b hb).trans e) f0 f1 f3 f4 f5;obtain ⟨o,e,c,d⟩:=id st';exact ⟨u,rfl,qpy (s:={ s with heap:=h' }) e c d (by decide) ⟨x,H,I1,ru,⟨rfl,λys hy=>by rw[I.list_inj hy hq];exact hx⟩,st',λb hb=>(hf b hb).1⟩⟩
 done:=by
  intro X hP hw hK hc i pins s σ H E I hf st hg;subst hP hw hK;obtain ⟨xs,hq,hx⟩:=hg;obtain ⟨its,rv,p,hz⟩:=I.list hq;obtain ⟨f0,f1,f2,f3,f4,f5⟩:=hf it (by simp);have hl:=rv.length;exact wpAny_pyNext_list_end (I.ok.hd hc) st p.isList (by simp;omega) λh' eb=>⟨rfl,I.turned (t':=s.toks) (λb o hb e=>eb b o hb e) f0 f1 f3 f4 f5⟩
 self:=λ_ _ _ _ _ st h=>wpAny_pyIter_listiter st h
theorem qon {P:Program} {w:World} {K:Frag} {tg:Expr} (a it:Addr):Turn P w K tg (Itt K a) [it] it (λi h=>h.IsTupleIter it a i) where
 mem:=by simp
 obj:=λi h st b hb=>by
  have e:b=it:=by simpa using hb
  subst e;obtain ⟨o,e,c,d⟩:=st;exact ⟨o,e,λv z=>by rw[d] at z;cases z⟩
 keep:=λi h h' st k=>st.at λo e=>k it (by simp) o e
 item:=by
  intro X hP hw hK hc i pins s σ H E I hf st hg;subst hP hw hK;obtain ⟨xs,x,hq,hx⟩:=hg;obtain ⟨its,rv,p,hz⟩:=I.tuple hq;obtain ⟨u,hu,ru⟩:=rv.get hx;obtain ⟨f0,f1,f2,f3,f4,f5⟩:=hf it (by simp);refine wpAny_pyNext_tuple_item st (show s.heap.IsTuple a its.toArray from p) (x:=u) (by simpa using hu) λh' st' sb=>?_
  have I1:Inv X pins σ H { s with heap:=h' }:=I.turned (t':=s.toks) (λb o hb e=>(sb.2 b hb).trans e) f0 f1 f3 f4 f5;obtain ⟨o,e,c,d⟩:=id st';exact ⟨u,rfl,qpy (s:={ s with heap:=h' }) e c d (by decide) ⟨x,H,I1,ru,⟨rfl,λys hy=>by rw[I.tuple_inj hy hq];exact hx⟩,st',λb hb=>(hf b hb).1⟩⟩
 done:=by
  intro X hP hw hK hc i pins s σ H E I hf st hg;subst hP hw hK;obtain ⟨xs,hq,hx⟩:=hg;obtain ⟨its,rv,p,hz⟩:=I.tuple hq;obtain ⟨f0,f1,f2,f3,f4,f5⟩:=hf it (by simp);have hl:=rv.length;exact wpAny_pyNext_tuple_end (I.ok.hd hc) st (show s.heap.IsTuple a its.toArray from p) (by simp;omega) λh' eb=>⟨rfl,I.turned (t':=s.toks) (λb o hb e=>eb b o hb e) f0 f1 f3 f4 f5⟩
 self:=λ_ _ _ _ _ st h=>wpAny_pyIter_tupleiter st h
theorem qoo {P:Program} {w:World} {K:Frag} {tg:Expr} (it:Addr) (lo:Int) (n:Nat):Turn P w K tg (Itr lo n) [it] it (λi h=>IsRangeIter h it (lo+(i:Nat)*1) ((n:Int)-(i:Nat)) 1) where
 mem:=by simp
 obj:=λi h st b hb=>by
  have e:b=it:=by simpa using hb
  subst e;exact ⟨_,st,λv z=>by
   have z':Data.fields _=Data.cell v:=z
   cases z'⟩
 keep:=λi h h' st k=>k it (by simp) _ st
 item:=by
  intro X hP hw hK hc i pins s σ H E I hf st hg;subst hP hw hK;obtain ⟨f0,f1,f2,f3,f4,f5⟩:=hf it (by simp);have W:=Walks.range (prog:=X.prog) (w:=X.w) (I.ok.hd hc) it lo 1 n;refine W.item i s _ _ hg st λv h' tk hv st' kk=>?_
  obtain ⟨t,rfl⟩:=hv;have I1:Inv X pins σ H { s with heap:=h',toks:=tk }:=I.turned (λb o hb e=>kk b o (by simpa using hb) e) f0 f1 f3 f4 f5;refine ⟨_,rfl,qpy (s:={ s with heap:=h',toks:=tk }) (n:= "range_iterator") st' rfl rfl (by decide) ⟨.int (lo+i),H,I1,⟨t,?_⟩,⟨rfl,rfl⟩,st',λb hb=>(hf b hb).1⟩⟩;rw[Int.mul_one]
 done:=by
  intro X hP hw hK hc i pins s σ H E I hf st hg;subst hP hw hK;obtain ⟨f0,f1,f2,f3,f4,f5⟩:=hf it (by simp);exact wpAny_pyNext_range_end (I.ok.hd hc) st (by have:n<=i:=hg;omega) λh' eb=>⟨rfl,I.turned (t':=s.toks) (λb o hb e=>eb b o hb e) f0 f1 f3 f4 f5⟩
 self:=λ_ _ _ _ _ st h=>wpAny_pyIter_rangeiter st h
open PySem PySem.Spec PyProof.Rows
section
variable {X:Cx} {tg:Expr}
def qsy (K:Frag) (tl:TE):TI:=λσ H R=>tl σ H λx H1=>∃ a,x=.ref a/\(∃ xs,SqL K H1 a xs)/\R (Itl K a) H1
def qC2 (K:Frag) (tl:TE):TI:=λσ H R=>tl σ H λx H1=>∃ a,x=.ref a/\(∃ xs,SqT K H1 a xs)/\R (Itt K a) H1
theorem qa8 {l:Expr} {tl:TE} (hl:PE X l tl):PI X tg l (qsy X.K tl):=by
 intro pins s σ H R I h;refine thn (hl pins s σ H _ I h) λv s1 hq__=>?_
 obtain ⟨x,H1,I1,r1,q1⟩:=hq__;obtain ⟨a,e,⟨xs,hq⟩,q⟩:=q1;subst e;cases r1;obtain ⟨its,rv,p,hz⟩:=I1.list hq;refine wpAny_pyIter_list p.isList ?_;refine ⟨s1.heap.objs.size,[s1.heap.objs.size],_,_,H1,rfl,I1.kept (t':=s1.toks) λb o e=>Heap.get?_push_of_some _ e,qpz a _,⟨_,Heap.get?_push_size _ rfl,rfl,rfl⟩,λb hb=>?_,q⟩;have e:b=s1.heap.objs.size:=by simpa using hb
 subst e;exact I1.fpOk (Nat.le_refl _) (I1.hok.fresh (Nat.le_refl _))
theorem qyd {l:Expr} {tl:TE} (hl:PE X l tl):PI X tg l (qC2 X.K tl):=by
 intro pins s σ H R I h;refine thn (hl pins s σ H _ I h) λv s1 hq__=>?_
 obtain ⟨x,H1,I1,r1,q1⟩:=hq__;obtain ⟨a,e,⟨xs,hq⟩,q⟩:=q1;subst e;cases r1;obtain ⟨its,rv,p,hz⟩:=I1.tuple hq;refine wpAny_pyIter_tuple (show s1.heap.IsTuple a its.toArray from p) ?_;refine ⟨s1.heap.objs.size,[s1.heap.objs.size],_,_,H1,rfl,I1.kept (t':=s1.toks) λb o e=>Heap.get?_push_of_some _ e,qon a _,⟨_,Heap.get?_push_size _ rfl,rfl,rfl⟩,λb hb=>?_,q⟩;have e:b=s1.heap.objs.size:=by simpa using hb
 subst e;exact I1.fpOk (Nat.le_refl _) (I1.hok.fresh (Nat.le_refl _))
theorem qsz {pins:List (Addr×Obj)} {σ:St} {H:Hp} {s:Shared} {R:It->Hp->Prop} {E:Value->Shared->Prop} {lo hi:Int} {t u v:Tok} {tk:Nat} (I:Inv X pins σ H s) (h1:-(2 ^ 62)<=lo) (h2:lo<2 ^ 62) (h3:-(2 ^ 62)<=hi) (h4:hi<2 ^ 62)
  (q:R (Itr lo (hi-lo).toNat) H):wpAny (model X.prog X.w) X.A (pyIter (.ref s.heap.objs.size)) (PIE X pins σ tg R) E { s with heap:=s.heap.push { cls:=.type "range",data:=.fields #[.int lo t,.int hi u,.int 1 v] },toks:=tk }:=by
 refine wpAny_pyIter_range (IsRange.new ..) (small_one h1 h2 h3 h4) ?_;have I1:Inv X pins σ H { s with heap:=s.heap.push { cls:=.type "range",data:=.fields #[.int lo t,.int hi u,.int 1 v] },toks:=tk }:=I.kept λb o e=>Heap.get?_push_of_some _ e
 refine ⟨(s.heap.push { cls:=.type "range",data:=.fields #[.int lo t,.int hi u,.int 1 v] }).objs.size,[(s.heap.push { cls:=.type "range",data:=.fields #[.int lo t,.int hi u,.int 1 v] }).objs.size],_,_,H,rfl,
  I1.kept (t':=tk) λb o e=>Heap.get?_push_of_some _ e,qoo _ lo (hi-lo).toNat,?_,λb hb=>?_,q⟩
 ·have e1:lo+((0:Nat):Int)*1=lo:=by simp
  have e2:(((hi-lo).toNat:Nat):Int)-((0:Nat):Int)=Builtin.Range.rangeSize lo hi 1:=by rw[rangeSize_one];split<;>omega
  show IsRangeIter _ _ (lo+((0:Nat):Int)*1) ((((hi-lo).toNat:Nat):Int)-((0:Nat):Int)) 1
  rw[e1,e2];exact Heap.get?_push_size _ rfl
 ·have e:b=(s.heap.push { cls:=.type "range",data:=.fields #[.int lo t,.int hi u,.int 1 v] }).objs.size:=by simpa using hb
  subst e;exact I1.fpOk (Nat.le_refl _) (I1.hok.fresh (Nat.le_refl _))
def qBa (ta:TA):TI:=λσ H R=>ta σ H λvs H1=>∃ j:Int,vs=[.int j] /\ -(2 ^ 62)<=j/\j<2 ^ 62/\R (Itr 0 j.toNat) H1
theorem qcc {a:Expr} {ta:TA} {p pos:Pos} (hg:Gl X "range") (hm:X.mg "range" = none) (ha:PA X [a] ta) (hs:starEach [a] X.env=[(false,eval a X.env)]:=by rfl):PI X tg (.Call (.Name "range" p) [a] [] pos) (qBa ta):=by
 intro pins s σ H R I h;refine Call_ (qjt I hg hm boot_range (PyProof.Rows.callWith_type1 (thn (ha pos pins s σ H _ I h) λus s1 hq__=>?_) hs rfl));obtain ⟨vs,H1,I1,r1,q1⟩:=hq__;obtain ⟨j,e,q1,q2,q⟩:=q1;subst e
 cases r1 with
 | cons r rr =>
  cases rr;obtain ⟨t,rfl⟩:=r;exact call_range_1 (qsz I1 (by omega) (by omega) q1 q2 (by simpa using q))
def qCi (wi:TI) (g:TG) (tb:TS):TS:=λD σ H=>wi σ H λJ H1=>∃ W:Nat->Nat->St->Hp->Prop,(∃ m,W 0 m σ H1)/\∀ i m σ H,W i m σ H ->
 (J.stop i H/\D.nx σ H)\/(J.go i H/\∃ N:St->Hp->Prop,(∀ σ' H',N σ' H'->∃ m',m'<m/\W (i+1) m' σ' H')/\∀ x H',J.yld i H x H'->g x σ H' λσ2 H2=>tb { D with nx:=N,ct:=N,bk:=D.nx } σ2 H2)
def qhv (fp:List Addr) (h:Heap):List (Addr×Obj):=fp.filterMap λb=>(h.get? b).map λo=>(b,o)
theorem qcb {fp:List Addr} {h:Heap} {b:Addr} {o:Obj} (hb:b∈fp) (e:h.get? b=some o):(b,o)∈qhv fp h:=List.mem_filterMap.mpr ⟨b,hb,by rw[e];rfl⟩
theorem qp0 {fp:List Addr} {h:Heap} {p:Addr×Obj} (hp:p∈qhv fp h):p.1∈fp/\h.get? p.1=some p.2:=by
 obtain ⟨b,hb,e⟩:=List.mem_filterMap.mp hp
 cases q:h.get? b with
 | none=>rw[q] at e;cases e
 | some o =>
  rw[q] at e;have e':(b,o)=p:=Option.some.inj e;subst e';exact ⟨hb,q⟩
theorem Inv.pinned {pins:List (Addr×Obj)} {σ:St} {H:Hp} {s:Shared} {fp:List Addr} (I:Inv X pins σ H s) (hf:∀ b∈fp,qhu X pins H b) (ho:∀ b∈fp,∃ o,s.heap.get? b=some o/\∀ v,o.data≠.cell v):Inv X (pins ++ qhv fp s.heap) σ H s:=
 I.pins_of λp hp=>(List.mem_append.mp hp).elim (λz=>I.pin p (List.mem_append_right _ z)) λz=>by
  obtain ⟨hb,e⟩:=qp0 z;obtain ⟨f0,f1,f2,_⟩:=hf p.1 hb;obtain ⟨o,e',d⟩:=ho p.1 hb;rw[e] at e';cases e';exact ⟨e,f0,f1,f2,d⟩
theorem Inv.unpinned {pins pl:List (Addr×Obj)} {σ:St} {H:Hp} {s:Shared} (I:Inv X (pins ++ pl) σ H s):Inv X pins σ H s:=I.pins_of λp hp=>I.pin p (List.mem_append_right _ (List.mem_append_left _ hp))
theorem qb8 {iter:Expr} {body:List Stmt} {wi:TI} {g:TG} {tb:TS} {pos:Pos} (hp:PassesOwn (model X.prog X.w) X.A X.env X.xe) (hc:X.calm=true) (hi:PI X tg iter wi) (hg:PG X tg g) (hb:PSs X body tb)
  (hs:∀ x,foldedSetIterable iter X.env x=pure x:=by intro _;rfl):PS X (.For tg iter body [] pos) (qCi wi g tb):=by
 intro pins s σ H D I h;refine wpAny_For (thn (hi pins s σ H _ I h) λv s1 h1=>thn h1 λitv s2 h2=>?_) hs;obtain ⟨it,fp,tn,J,H2,e,I2,T,st2,f2,W,⟨m0,w0⟩,turn⟩:=h2;subst e;have stat:∀ {H':Hp},(∀ b∈fp,H' b=none)->∀ b∈fp,qhu X pins H' b:=λhn b hb=>⟨hn b hb,(f2 b hb).2⟩
 refine codeAny_forLoop_any (λn s'=>∃ i σ' H',Inv X pins σ' H' s'/\tn i s'.heap/\(∀ b∈fp,H' b=none)/\W i n σ' H') ?_ m0 ⟨0,σ,H2,I2,st2,λb hb=>(f2 b hb).1,w0⟩;rintro n s3 ⟨i,σ3,H3,I3,st3,fr3,w3⟩
 rcases turn i n σ3 H3 w3 with ⟨stop,qn⟩|⟨go,N,hN,step⟩
 ·refine wpAny_passesOwn hp (thn (T.done X rfl rfl rfl hc i pins s3 σ3 H3 X.xe I3 (stat fr3) st3 stop) λr s4 hq__=>?_)
  obtain ⟨hr,I4⟩:=hq__;subst hr;exact wpAny_execs_nil ⟨σ3,H3,I4,qn⟩
 ·refine wpAny_passesOwn hp (thn (T.item X rfl rfl rfl hc i pins s3 σ3 H3 X.xe I3 (stat fr3) st3 go) λr s4 hq__=>?_)
  obtain ⟨u,hr,h4⟩:=hq__;subst hr;refine wpAny_passesOwn hp (thn h4 λ_ s5 hq__=>?_);obtain ⟨x,H5,I5,r5,y5,st5,fr5⟩:=hq__;have I5':=I5.pinned (stat fr5) (T.obj _ _ st5);refine wpAny_passesOwn hp (thn (hg _ s5 σ3 H5 x u _ I5' r5 (step x H5 y5)) λ_ s6 hq__=>?_);obtain ⟨σ6,H6,I6,q6⟩:=hq__;refine wpAny_passesOwn hp (thn (hb _ s6 σ6 H6 _ I6 q6) λf s7 q7=>?_);have again:∀ {σ7:St} {H7:Hp},Inv X (pins ++ qhv fp s5.heap) σ7 H7 s7->N σ7 H7->∃ m,m<n/\∃ i σ' H',Inv X pins σ' H' s7/\tn i s7.heap/\(∀ b∈fp,H' b=none)/\W i m σ' H':=fun {σ7 H7} I7 n7=>by
   obtain ⟨m',hm,w7⟩:=hN σ7 H7 n7;refine ⟨m',hm,i+1,σ7,H7,I7.unpinned,T.keep _ _ _ st5 λb hb o e=>(I7.pin (b,o) (List.mem_append_right _ (List.mem_append_right _ (qcb hb e)))).1,λb hb=>?_,w7⟩;obtain ⟨o,e,d⟩:=T.obj _ _ st5 b hb;exact (I7.pin (b,o) (List.mem_append_right _ (List.mem_append_right _ (qcb hb e)))).2.1
  cases f with
  | next=>obtain ⟨σ7,H7,I7,n7⟩:=q7;exact again I7 n7
  | cont=>obtain ⟨σ7,H7,I7,n7⟩:=q7;exact again I7 n7
  | brk=>obtain ⟨σ7,H7,I7,q7⟩:=q7;exact ⟨σ7,H7,I7.unpinned,q7⟩
  | ret v=>obtain ⟨x7,σ7,H7,I7,r7,q7⟩:=q7;exact ⟨x7,σ7,H7,I7.unpinned,r7,q7⟩
end
theorem qb2 {K:Frag} {a:Addr} {xs:List V} {g:TG} {tb:TS} {D:Ends} {σ:St} {H:Hp} (Pv:Nat->St->Hp->Prop) (h0:Pv 0 σ H) (hl:∀ i σ H,i<=xs.length->Pv i σ H->SqL K H a xs)
  (hs:∀ i x σ H,xs[i]?=some x->Pv i σ H->g x σ H λσ2 H2=>tb { D with nx:=Pv (i+1),ct:=Pv (i+1),bk:=D.nx } σ2 H2) (hd:∀ σ H,Pv xs.length σ H->D.nx σ H) :
  ∃ W:Nat->Nat->St->Hp->Prop,(∃ m,W 0 m σ H)/\∀ i m σ H,W i m σ H ->
   ((Itl K a).stop i H/\D.nx σ H)\/((Itl K a).go i H/\∃ N:St->Hp->Prop,(∀ σ' H',N σ' H'->∃ m',m'<m/\W (i+1) m' σ' H')/\∀ x H',(Itl K a).yld i H x H'->g x σ H' λσ2 H2=>tb { D with nx:=N,ct:=N,bk:=D.nx } σ2 H2):=by
 refine ⟨λi m σ H=>m=xs.length-i/\i<=xs.length/\Pv i σ H,⟨xs.length,by simp,Nat.zero_le _,h0⟩,?_⟩;rintro i m σ H ⟨rfl,hi,p⟩;have q:=hl i σ H hi p
 by_cases hlt:i<xs.length
 ·refine .inr ⟨⟨xs,xs[i],q,by simp[hlt]⟩,Pv (i+1),λσ' H' p'=>⟨xs.length-(i+1),by omega,rfl,hlt,p'⟩,λx H' y=>?_⟩
  obtain ⟨e,y⟩:=y;subst e;exact hs i x σ _ (y xs q) p
 ·have e:i=xs.length:=by omega
  subst e;exact .inl ⟨⟨xs,q,Nat.le_refl _⟩,hd σ H p⟩
theorem qvv {K:Frag} {a:Addr} {xs:List V} {g:TG} {tb:TS} {D:Ends} {σ:St} {H:Hp} (Pv:Nat->St->Hp->Prop) (h0:Pv 0 σ H) (hl:∀ i σ H,i<=xs.length->Pv i σ H->SqT K H a xs)
  (hs:∀ i x σ H,xs[i]?=some x->Pv i σ H->g x σ H λσ2 H2=>tb { D with nx:=Pv (i+1),ct:=Pv (i+1),bk:=D.nx } σ2 H2) (hd:∀ σ H,Pv xs.length σ H->D.nx σ H) :
  ∃ W:Nat->Nat->St->Hp->Prop,(∃ m,W 0 m σ H)/\∀ i m σ H,W i m σ H ->
   ((Itt K a).stop i H/\D.nx σ H)\/((Itt K a).go i H/\∃ N:St->Hp->Prop,(∀ σ' H',N σ' H'->∃ m',m'<m/\W (i+1) m' σ' H')/\∀ x H',(Itt K a).yld i H x H'->g x σ H' λσ2 H2=>tb { D with nx:=N,ct:=N,bk:=D.nx } σ2 H2):=by
 refine ⟨λi m σ H=>m=xs.length-i/\i<=xs.length/\Pv i σ H,⟨xs.length,by simp,Nat.zero_le _,h0⟩,?_⟩;rintro i m σ H ⟨rfl,hi,p⟩;have q:=hl i σ H hi p
 by_cases hlt:i<xs.length
 ·refine .inr ⟨⟨xs,xs[i],q,by simp[hlt]⟩,Pv (i+1),λσ' H' p'=>⟨xs.length-(i+1),by omega,rfl,hlt,p'⟩,λx H' y=>?_⟩
  obtain ⟨e,y⟩:=y;subst e;exact hs i x σ _ (y xs q) p
 ·have e:i=xs.length:=by omega
  subst e;exact .inl ⟨⟨xs,q,Nat.le_refl _⟩,hd σ H p⟩
theorem qgb {lo:Int} {n:Nat} {g:TG} {tb:TS} {D:Ends} {σ:St} {H:Hp} (Pv:Nat->St->Hp->Prop) (h0:Pv 0 σ H)
  (hs:∀ i σ H,i<n->Pv i σ H->g (.int (lo+i)) σ H λσ2 H2=>tb { D with nx:=Pv (i+1),ct:=Pv (i+1),bk:=D.nx } σ2 H2) (hd:∀ σ H,Pv n σ H->D.nx σ H) :
  ∃ W:Nat->Nat->St->Hp->Prop,(∃ m,W 0 m σ H)/\∀ i m σ H,W i m σ H ->
   ((Itr lo n).stop i H/\D.nx σ H)\/((Itr lo n).go i H/\∃ N:St->Hp->Prop,(∀ σ' H',N σ' H'->∃ m',m'<m/\W (i+1) m' σ' H')/\∀ x H',(Itr lo n).yld i H x H'->g x σ H' λσ2 H2=>tb { D with nx:=N,ct:=N,bk:=D.nx } σ2 H2):=by
 refine ⟨λi m σ H=>m=n-i/\i<=n/\Pv i σ H,⟨n,by simp,Nat.zero_le _,h0⟩,?_⟩;rintro i m σ H ⟨rfl,hi,p⟩
 by_cases hlt:i<n
 ·refine .inr ⟨hlt,Pv (i+1),λσ' H' p'=>⟨n-(i+1),by omega,rfl,hlt,p'⟩,λx H' y=>?_⟩
  obtain ⟨e,y⟩:=y;subst e y;exact hs i σ _ hlt p
 ·have e:i=n:=by omega
  subst e;exact .inl ⟨Nat.le_refl _,hd σ H p⟩
open PySem PySem.Spec PyProof.Rows
abbrev R2:=V->V->Hp->VK->Prop
def OpR (X:Cx) (f:Value->Value->Sem Value) (r:R2):Prop:=
 ∀ (pins:List (Addr×Obj)) (s:Shared) (σ:St) (H:Hp) (x y:V) (v u:Value) (Q:VK),Inv X pins σ H s->RelV x v->RelV y u->r x y H Q ->
  wpAny (model X.prog X.w) X.A (f v u) (EP X pins σ Q) X.xe s
def UnR (X:Cx) (f:Value->Sem Value) (r:V->Hp->VK->Prop):Prop:=
 ∀ (pins:List (Addr×Obj)) (s:Shared) (σ:St) (H:Hp) (x:V) (v:Value) (Q:VK),Inv X pins σ H s->RelV x v->r x H Q ->
  wpAny (model X.prog X.w) X.A (f v) (EP X pins σ Q) X.xe s
def CallR (X:Cx) (f:Value) (r:List V->Hp->VK->Prop):Prop:=
 ∀ (pins:List (Addr×Obj)) (s:Shared) (σ:St) (H:Hp) (xs:List V) (us:List Value) (Q:VK),Inv X pins σ H s->Vals xs us->r xs H Q ->
  wpAny (model X.prog X.w) X.A (call f us) (EP X pins σ Q) X.xe s
def tOp (r:R2) (ta tb:TE):TE:=λσ H Q=>ta σ H λx H1=>tb σ H1 λy H2=>r x y H2 Q
def tUn (r:V->Hp->VK->Prop) (ta:TE):TE:=λσ H Q=>ta σ H λx H1=>r x H1 Q
inductive rIS (C:Int->Int->Prop) (g:Int->Int->V) (x y:V) (H:Hp) (Q:VK):Prop
 | mk (i j:Int) (hx:x=.int i) (hy:y=.int j) (hc:C i j) (k:Q (g i j) H)
def rI (C:Int->Int->Prop) (g:Int->Int->V):R2:=λx y H Q=>rIS C g x y H Q
inductive rI0S (g:Int->Int->V) (x y:V) (H:Hp) (Q:VK):Prop
 | mk (i j:Int) (hx:x=.int i) (hy:y=.int j) (k:Q (g i j) H)
def rI0 (g:Int->Int->V):R2:=λx y H Q=>rI0S g x y H Q
inductive rUS (g:Int->V) (x:V) (H:Hp) (Q:VK):Prop
 | mk (i:Int) (h:x=.int i) (k:Q (g i) H)
def rU (g:Int->V):V->Hp->VK->Prop:=λx H Q=>rUS g x H Q
section
variable {X:Cx} {a b c:Expr} {ta tb tc:TE} {pos:Pos}
theorem qAs (ha:PE X a ta) (hb:PE X b tb) {pins:List (Addr×Obj)} {s:Shared} {σ:St} {H:Hp} {R:V->V->Hp->Prop} (I:Inv X pins σ H s)
  (h:ta σ H λx H1=>tb σ H1 λy H2=>R x y H2) {Q:Value->Shared->Prop} {f:Value->Value->Sem Value}
  (hf:∀ v u s2 x y H2,Inv X pins σ H2 s2->RelV x v->RelV y u->R x y H2->wpAny (model X.prog X.w) X.A (f v u) Q X.xe s2) :
  wpAny (model X.prog X.w) X.A (eval a X.env) (λv s₁=>wpAny (model X.prog X.w) X.A (eval b X.env) (λu s₂=>wpAny (model X.prog X.w) X.A (f v u) Q X.xe s₂) X.xe s₁) X.xe s:=by
 refine thn (ha pins s σ H _ I h) λv s1 hq__=>?_
 obtain ⟨x,H1,I1,r1,q1⟩:=hq__;refine thn (hb pins s1 σ H1 _ I1 q1) λu s2 hq__=>?_
 obtain ⟨y,H2,I2,r2,q2⟩:=hq__;exact hf v u s2 x y H2 I2 r1 r2 q2
theorem qae {op:Operator} {r:R2} (ho:OpR X (binaryOp op) r) (ha:PE X a ta) (hb:PE X b tb):PE X (.BinOp a op b pos) (tOp r ta tb):=by
 intro pins s σ H Q I h;exact wpAny_BinOp (qAs ha hb I h λv u s2 x y H2 I2 rx ry q=>ho pins s2 σ H2 x y v u Q I2 rx ry q)
theorem qd5 {op:UnaryOp} {r:V->Hp->VK->Prop} (ho:UnR X (unaryOp op) r) (ha:PE X a ta):PE X (.UnaryOp op a pos) (tUn r ta):=by
 intro pins s σ H Q I h;exact UnaryOp_ (thn (ha pins s σ H _ I h) λv s1 ⟨x,H1,I1,r1,q1⟩=>ho pins s1 σ H1 x v Q I1 r1 q1)
theorem opI {f:Value->Value->Sem Value} {C:Int->Int->Prop} {g:Int->Int->Int}
  (rule:∀ (i j:Int) (t u:Tok) (s:Shared) (Q:Value->Shared->Prop) (E:Value->Shared->Prop),C i j->Q (.int (g i j) s.toks) { s with toks:=s.toks+1 }->wpAny (model X.prog X.w) X.A (f (.int i t) (.int j u)) Q E s) :
  OpR X f (rI C λi j=>.int (g i j)):=by
 intro pins s σ H x y v u Q I rx ry h;obtain ⟨i,j,rfl,rfl,hc,q⟩:=h;obtain ⟨t,rfl⟩:=rx;obtain ⟨t',rfl⟩:=ry;exact rule i j t t' s _ _ hc ⟨.int (g i j),H,I.tok _,⟨_,rfl⟩,q⟩
theorem qCj {f:Value->Value->Sem Value} {g:Int->Int->Int}
  (rule:∀ (i j:Int) (t u:Tok) (s:Shared) (Q:Value->Shared->Prop) (E:Value->Shared->Prop),Q (.int (g i j) s.toks) { s with toks:=s.toks+1 }->wpAny (model X.prog X.w) X.A (f (.int i t) (.int j u)) Q E s) :
  OpR X f (rI0 λi j=>.int (g i j)):=by
 intro pins s σ H x y v u Q I rx ry h;obtain ⟨i,j,rfl,rfl,q⟩:=h;obtain ⟨t,rfl⟩:=rx;obtain ⟨t',rfl⟩:=ry;exact rule i j t t' s _ _ ⟨.int (g i j),H,I.tok _,⟨_,rfl⟩,q⟩
theorem qAt {f:Value->Value->Sem Value} {g:Int->Int->Bool}
  (rule:∀ (i j:Int) (t u:Tok) (s:Shared) (Q:Value->Shared->Prop) (E:Value->Shared->Prop),Q (.bool (g i j)) s->wpAny (model X.prog X.w) X.A (f (.int i t) (.int j u)) Q E s) :
  OpR X f (rI0 λi j=>.bl (g i j)):=by
 intro pins s σ H x y v u Q I rx ry h;obtain ⟨i,j,rfl,rfl,q⟩:=h;obtain ⟨t,rfl⟩:=rx;obtain ⟨t',rfl⟩:=ry;exact rule i j t t' s _ _ ⟨.bl (g i j),H,I,rfl,q⟩
def qC3 (i j:Int):Prop:=0<j/\j<1073741824
def qC4 (i j:Int):Prop:=0<=j/\j<=1000000/\i.natAbs<2 ^ 64
def CMul (i j:Int):Prop:=(-(2 ^ 64)<i/\i<2 ^ 64)\/(-(2 ^ 64)<j/\j<2 ^ 64)
theorem CMul.ok {i j:Int} (h:CMul i j):IntMulOk i j:=by
 rcases h with ⟨h1,h2⟩|⟨h1,h2⟩
 ·exact .of_left (intBits_le_64 h1 h2)
 ·exact .of_right (intBits_le_64 h1 h2)
theorem qat:OpR X (binaryOp .Add) (rI0 λi j=>.int (i+j)):=qCj λ_ _ _ _ _ _ _ q=>add_int q
theorem qc5:OpR X (binaryOp .Sub) (rI0 λi j=>.int (i-j)):=qCj λ_ _ _ _ _ _ _ q=>sub_int q
theorem qdu:OpR X (binaryOp .Mult) (rI CMul λi j=>.int (i*j)):=opI λ_ _ _ _ _ _ _ hc q=>mul_int q hc.ok
theorem qcd:OpR X (binaryOp .FloorDiv) (rI qC3 λi j=>.int (i / j)):=opI λi j _ _ _ _ _ hc q=>by
 have h1:(0:Int)<j:=hc.1;have h2:j<1073741824:=hc.2;exact floordiv_int (by omega) (by rw[Int.fdiv_eq_ediv_of_nonneg i (by omega)];exact q) (.inl (PyProof.noPylong_small (by omega)))
theorem qar:OpR X (binaryOp .Mod) (rI (λ_ j=>0<j) λi j=>.int (i % j)):=opI λi j _ _ _ _ _ hc q=>by
 have h1:(0:Int)<j:=hc;exact mod_int' (by omega) (by rw[Int.fmod_eq_emod_of_nonneg i (by omega)];exact q)
theorem qfd:OpR X (binaryOp .Pow) (rI qC4 λi j=>.int (i ^ j.toNat)):=opI λ_ _ _ _ _ _ _ hc q=>pow_int_small hc.1 hc.2.1 hc.2.2 q
theorem unI {f:Value->Sem Value} {g:Int->Int}
  (rule:∀ (i:Int) (t:Tok) (s:Shared) (Q:Value->Shared->Prop) (E:Value->Shared->Prop),Q (.int (g i) s.toks) { s with toks:=s.toks+1 }->wpAny (model X.prog X.w) X.A (f (.int i t)) Q E s) :
  UnR X f (rU λi=>.int (g i)):=by
 intro pins s σ H x v Q I rx h;obtain ⟨i,rfl,q⟩:=h;obtain ⟨t,rfl⟩:=rx;exact rule i t s _ _ ⟨.int (g i),H,I.tok _,⟨_,rfl⟩,q⟩
theorem qce:UnR X (unaryOp .USub) (rU λi=>.int (-i)):=unI λ_ _ _ _ _ q=>neg_int q
end
def qCk:V->V->Bool
 | .non,.non=>true|.non,.int _=>true|.int _,.non=>true|.non,.bl _=>true|.bl _,.non=>true|.non,.str _=>true|.str _,.non=>true
 | .int _,.int _=>true|.bl _,.bl _=>true|.str _,.str _=>true|.byt _,.byt _=>true
 | .int _,.str _=>true|.str _,.int _=>true|.bl _,.str _=>true|.str _,.bl _=>true
 | _,_=>false
def rEq:R2:=λx y H Q=>qCk x y=true/\Q (.bl (decide (x=y))) H
def rNe:R2:=λx y H Q=>qCk x y=true/\Q (.bl (!decide (x=y))) H
theorem qp1 {i j:Int}:decide (V.int i=V.int j)=(i == j):=by
 rw[Bool.eq_iff_iff]
 simp
theorem qul {i j:Bool}:decide (V.bl i=V.bl j)=(i == j):=by
 rw[Bool.eq_iff_iff]
 simp
theorem qp2 {i j:Str}:decide (V.str i=V.str j)=(i == j):=by
 rw[Bool.eq_iff_iff]
 simp
theorem qp3 {i j:Array UInt8}:decide (V.byt i=V.byt j)=(i.toList == j.toList):=by
 rw[Bool.eq_iff_iff];cases i;cases j
 simp
section
variable {X:Cx} {a b c:Expr} {ta tb tc:TE} {pos:Pos}
theorem qa3 {pins:List (Addr×Obj)} {σ:St} {H:Hp} {s:Shared} {Q:VK} {k k':Bool} (I:Inv X pins σ H s) (q:Q (.bl k) H) (e:k=k'):EP X pins σ Q (.bool k') s:=by
 subst e;exact ⟨.bl k,H,I,rfl,q⟩
theorem qec:OpR X (compareOp .Eq) rEq:=by
 intro pins s σ H x y v u Q I rx ry h;obtain ⟨hs,q⟩:=h
 cases x with
 | non =>
  cases rx
  cases y with
  | non=>cases ry;exact PySem.EqNone.eq_none_none (qa3 I q (by simp))
  | bl j=>cases ry;exact PySem.EqNone.eq_none_bool (qa3 I q (by simp))
  | int j=>obtain ⟨t',rfl⟩:=ry;exact PySem.EqNone.eq_none_int (qa3 I q (by simp))
  | str j=>obtain ⟨t',rfl⟩:=ry;exact PySem.EqNone.eq_none_str (qa3 I q (by simp))
  | _=>exact absurd (show false=true from hs) Bool.false_ne_true
 | bl i =>
  cases rx
  cases y with
  | non=>cases ry;exact PySem.EqNone.eq_bool_none (qa3 I q (by simp))
  | bl j=>cases ry;exact eq_bool (qa3 I q qul)
  | str j=>obtain ⟨t',rfl⟩:=ry;exact PySem.EqMixed.eq_bool_str (qa3 I q (by simp))
  | _=>exact absurd (show false=true from hs) Bool.false_ne_true
 | int i =>
  obtain ⟨t,rfl⟩:=rx
  cases y with
  | non=>cases ry;exact PySem.EqNone.eq_int_none (qa3 I q (by simp))
  | int j=>obtain ⟨t',rfl⟩:=ry;exact eq_int (qa3 I q qp1)
  | str j=>obtain ⟨t',rfl⟩:=ry;exact PySem.EqMixed.eq_int_str (qa3 I q (by simp))
  | _=>exact absurd (show false=true from hs) Bool.false_ne_true
 | str i =>
  obtain ⟨t,rfl⟩:=rx
  cases y with
  | non=>cases ry;exact PySem.EqNone.eq_str_none (qa3 I q (by simp))
  | bl j=>cases ry;exact PySem.EqMixed.eq_str_bool (qa3 I q (by simp))
  | int j=>obtain ⟨t',rfl⟩:=ry;exact PySem.EqMixed.eq_str_int (qa3 I q (by simp))
  | str j=>obtain ⟨t',rfl⟩:=ry;exact eq_str (qa3 I q qp2)
  | _=>exact absurd (show false=true from hs) Bool.false_ne_true
 | byt i =>
  obtain ⟨t,rfl⟩:=rx
  cases y with
  | byt j=>obtain ⟨t',rfl⟩:=ry;exact PySem.W.eq_bytes (qa3 I q qp3)
  | _=>exact absurd (show false=true from hs) Bool.false_ne_true
 | _=>cases y<;>exact absurd (show false=true from hs) Bool.false_ne_true
theorem qjv:OpR X (compareOp .NotEq) rNe:=by
 intro pins s σ H x y v u Q I rx ry h;obtain ⟨hs,q⟩:=h
 cases x with
 | non =>
  cases rx
  cases y with
  | non=>cases ry;exact PySem.EqNone.ne_none_none (qa3 I q (by simp))
  | bl j=>cases ry;exact PySem.EqNone.ne_none_bool (qa3 I q (by simp))
  | int j=>obtain ⟨t',rfl⟩:=ry;exact PySem.EqNone.ne_none_int (qa3 I q (by simp))
  | str j=>obtain ⟨t',rfl⟩:=ry;exact PySem.EqNone.ne_none_str (qa3 I q (by simp))
  | _=>exact absurd (show false=true from hs) Bool.false_ne_true
 | bl i =>
  cases rx
  cases y with
  | non=>cases ry;exact PySem.EqNone.ne_bool_none (qa3 I q (by simp))
  | bl j=>cases ry;exact ne_bool (qa3 I q (congrArg not qul))
  | str j=>obtain ⟨t',rfl⟩:=ry;exact PySem.EqMixed.ne_bool_str (qa3 I q (by simp))
  | _=>exact absurd (show false=true from hs) Bool.false_ne_true
 | int i =>
  obtain ⟨t,rfl⟩:=rx
  cases y with
  | non=>cases ry;exact PySem.EqNone.ne_int_none (qa3 I q (by simp))
  | int j=>obtain ⟨t',rfl⟩:=ry;exact ne_int (qa3 I q (congrArg not qp1))
  | str j=>obtain ⟨t',rfl⟩:=ry;exact PySem.EqMixed.ne_int_str (qa3 I q (by simp))
  | _=>exact absurd (show false=true from hs) Bool.false_ne_true
 | str i =>
  obtain ⟨t,rfl⟩:=rx
  cases y with
  | non=>cases ry;exact PySem.EqNone.ne_str_none (qa3 I q (by simp))
  | bl j=>cases ry;exact PySem.EqMixed.ne_str_bool (qa3 I q (by simp))
  | int j=>obtain ⟨t',rfl⟩:=ry;exact PySem.EqMixed.ne_str_int (qa3 I q (by simp))
  | str j=>obtain ⟨t',rfl⟩:=ry;exact ne_str (qa3 I q (congrArg not qp2))
  | _=>exact absurd (show false=true from hs) Bool.false_ne_true
 | byt i =>
  obtain ⟨t,rfl⟩:=rx
  cases y with
  | byt j=>obtain ⟨t',rfl⟩:=ry;exact PySem.W.ne_bytes (qa3 I q (congrArg not qp3))
  | _=>exact absurd (show false=true from hs) Bool.false_ne_true
 | _=>cases y<;>exact absurd (show false=true from hs) Bool.false_ne_true
theorem qhm:OpR X (compareOp .Lt) (rI0 λi j=>.bl (decide (i<j))):=qAt λ_ _ _ _ _ _ _ q=>lt_int q
theorem qye:OpR X (compareOp .LtE) (rI0 λi j=>.bl (decide (i<=j))):=qAt λ_ _ _ _ _ _ _ q=>le_int q
theorem qvw:OpR X (compareOp .Gt) (rI0 λi j=>.bl (decide (j<i))):=qAt λ_ _ _ _ _ _ _ q=>gt_int q
theorem qyf:OpR X (compareOp .GtE) (rI0 λi j=>.bl (decide (j<=i))):=qAt λ_ _ _ _ _ _ _ q=>ge_int q
theorem qp4:OpR X (compareOp .In) (λx y H Q=>∃ i j,x=.str i/\y=.str j/\Q (.bl (!(Builtin.Str.occurrences j i 0 j.length 1).isEmpty)) H):=by
 intro pins s σ H x y v u Q I rx ry h;obtain ⟨i,j,rfl,rfl,q⟩:=h;obtain ⟨t,rfl⟩:=rx;obtain ⟨t',rfl⟩:=ry;exact in_str (qa3 I q rfl)
theorem qdv:OpR X (compareOp .Is) (λx y H Q=>y=.non/\Q (.bl (decide (x=.non))) H):=by
 intro pins s σ H x y v u Q I rx ry h;obtain ⟨rfl,q⟩:=h;cases ry;refine is_none_gen (qa3 I q ?_)
 cases x<;>first
  | (cases rx;rfl)
  | (obtain ⟨t,rfl⟩:=rx;rfl)
theorem qgc:OpR X (compareOp .IsNot) (λx y H Q=>y=.non/\Q (.bl (!decide (x=.non))) H):=by
 intro pins s σ H x y v u Q I rx ry h;obtain ⟨rfl,q⟩:=h;cases ry;refine isnot_none_gen (qa3 I q ?_)
 cases x<;>first
  | (cases rx;rfl)
  | (obtain ⟨t,rfl⟩:=rx;rfl)
theorem qp5 (b:Expr) {op:CmpOp} (h:op≠.In:=by decide) (h2:op≠.NotIn:=by decide):behindInMarks op b=false:=by
 have e1:(op == CmpOp.In)=false:=by cases op<;>first|rfl|exact absurd rfl h
 have e2:(op == CmpOp.NotIn)=false:=by cases op<;>first|rfl|exact absurd rfl h2
 cases b<;>simp[behindInMarks,e1,e2]
theorem qp6 {op:CmpOp} {r:R2} (ho:OpR X (compareOp op) r) (ha:PE X a ta) (hb:PE X b tb) (hm:behindInMarks op b=false):PE X (.Compare a [op] [b] pos) (tOp r ta tb):=by
 intro pins s σ H Q I h;exact wpAny_Compare1 (qAs ha hb I h λv u s2 x y H2 I2 rx ry q=>ho pins s2 σ H2 x y v u Q I2 rx ry q) hm
def qvx (t:TE):TT:=λσ H Q=>t σ H λx H'=>∃ k,x=.bl k/\Q k H'
theorem ql3 {op:CmpOp} {r:R2} (ho:OpR X (compareOp op) r) (ha:PE X a ta) (hb:PE X b tb) (hm:behindInMarks op b=false):PT X (.Compare a [op] [b] pos) (qvx (tOp r ta tb)):=by
 intro pins s σ H Q I h;refine wpAny_isTrue_Compare1 (thn (ha pins s σ H _ I h) λv s1 ⟨x,H1,I1,r1,q1⟩=>thn (hb pins s1 σ H1 _ I1 q1) λu s2 ⟨y,H2,I2,r2,q2⟩ =>
  thn (ho pins s2 σ H2 x y v u _ I2 r1 r2 q2) λc s3 ⟨z,H3,I3,r3,k,e,q3⟩=>?_) hm
 subst e;cases r3;exact wpAny_truthy_bool ⟨H3,I3,q3⟩
theorem qm1:(sizeLine:Nat)<2 ^ 63:=by rw[sizeLine_eq];decide
theorem qbs:OpR X (binaryOp .Add) (λx y H Q=>∃ i j,x=.str i/\y=.str j/\i.length+j.length<=sizeLine/\Q (.str (i ++ j)) H):=by
 intro pins s σ H x y v u Q I rx ry h;obtain ⟨i,j,rfl,rfl,hz,q⟩:=h;obtain ⟨t,rfl⟩:=rx;obtain ⟨t',rfl⟩:=ry;exact add_str (λt' tk=>⟨.str (i ++ j),H,I.tok _,⟨_,rfl⟩,q⟩) hz
def qs0 (b:Expr):Prop:=∀ o i,subscripted b false o i=operate [o,i] (getItem o i)
theorem vals1 {x:V} {us:List Value} (r:Vals [x] us):∃ u,us=[u]/\RelV x u:=by
 cases r with
 | cons r1 r2=>cases r2;exact ⟨_,rfl,r1⟩
theorem vals2 {x y:V} {us:List Value} (r:Vals [x,y] us):∃ u w',us=[u,w']/\RelV x u/\RelV y w':=by
 cases r with
 | cons r1 r2 =>
  cases r2 with
  | cons r3 r4=>cases r4;exact ⟨_,_,rfl,r1,r3⟩
theorem qed (hc:X.calm=true):CallR X (.builtin "max") (λxs H Q=>∃ i j,xs=[.int i,.int j]/\Q (.int (if j>i then j else i)) H):=by
 intro pins s σ H xs us Q I r h;obtain ⟨i,j,rfl,q⟩:=h;obtain ⟨u,w',rfl,⟨t,rfl⟩,⟨t',rfl⟩⟩:=vals2 r;refine max_two_ints (I.ok.hd hc) λh' tk k=>⟨_,H,I.kept k,?_,q⟩
 by_cases hj:j>i
 ·rw[if_pos hj,if_pos hj];exact ⟨_,rfl⟩
 ·rw[if_neg hj,if_neg hj];exact ⟨_,rfl⟩
theorem qjw (hc:X.calm=true):CallR X (.builtin "min") (λxs H Q=>∃ i j,xs=[.int i,.int j]/\Q (.int (if j<i then j else i)) H):=by
 intro pins s σ H xs us Q I r h;obtain ⟨i,j,rfl,q⟩:=h;obtain ⟨u,w',rfl,⟨t,rfl⟩,⟨t',rfl⟩⟩:=vals2 r;refine min_two_ints (I.ok.hd hc) λh' tk k=>⟨_,H,I.kept k,?_,q⟩
 by_cases hj:j<i
 ·rw[if_pos hj,if_pos hj];exact ⟨_,rfl⟩
 ·rw[if_neg hj,if_neg hj];exact ⟨_,rfl⟩
theorem qjx:CallR X (.type "int") (λxs H Q=>(∃ i,xs=[.int i]/\Q (.int i) H)\/∃ k,xs=[.bl k]/\Q (.int (if k then 1 else 0)) H):=by
 intro pins s σ H xs us Q I r h
 rcases h with ⟨i,rfl,q⟩|⟨k,rfl,q⟩
 ·obtain ⟨u,rfl,t,rfl⟩:=vals1 r
  exact call_int_int ⟨.int i,H,I,⟨_,rfl⟩,q⟩
 ·obtain ⟨u,rfl,r1⟩:=vals1 r
  cases r1;exact call_int_bool ⟨.int (if k then 1 else 0),H,I.tok _,⟨_,rfl⟩,q⟩
def qC5 (K:Frag) (x:V) (H:Hp) (n:Nat):Prop:=
 match x with
 | .str y=>y.length<=sizeLine/\n=y.length
 | .byt y=>y.size<=sizeLine/\n=y.size
 | .ref p=>(∃ xs,SqL K H p xs/\n=xs.length)\/∃ xs,SqT K H p xs/\n=xs.length
 | _=>False
theorem qs1:CallR X (.builtin "len") (λxs H Q=>∃ x n,xs=[x]/\qC5 X.K x H n/\Q (.int n) H):=by
 intro pins s σ H xs us Q I r h;obtain ⟨x,n,rfl,e,q⟩:=h;obtain ⟨u,rfl,rx⟩:=vals1 r;have hl:=qm1;have hs:sizeLine=16777216:=sizeLine_eq
 cases x with
 | str y =>
  obtain ⟨t,rfl⟩:=rx;obtain ⟨hy,e'⟩:y.length<=sizeLine/\n=y.length:=e;subst e';exact len_str (by omega) ⟨.int _,H,I.tok _,⟨_,rfl⟩,q⟩
 | byt y =>
  obtain ⟨t,rfl⟩:=rx;obtain ⟨hy,e'⟩:y.size<=sizeLine/\n=y.size:=e;subst e';exact PySem.W.len_bytes (by omega) ⟨.int _,H,I.tok _,⟨_,rfl⟩,q⟩
 | ref p =>
  cases rx;have e':(∃ xs,SqL X.K H p xs/\n=xs.length)\/∃ xs,SqT X.K H p xs/\n=xs.length:=e
  rcases e' with ⟨xs,hx,e'⟩|⟨xs,hx,e'⟩
  ·subst e'
   obtain ⟨its,r',pl,hz⟩:=I.list hx;have hlen:=r'.length;exact Calls.call_len_list pl.isList (by simp only[List.size_toArray];omega) ⟨.int xs.length,H,I.tok _,⟨_,by simp only[List.size_toArray];rw[hlen]⟩,q⟩
  ·subst e'
   obtain ⟨its,r',pl,hz⟩:=I.tuple hx;have hlen:=r'.length;exact len_tuple pl (by simp only[List.size_toArray];omega) ⟨.int xs.length,H,I.tok _,⟨_,by simp only[List.size_toArray];rw[hlen]⟩,q⟩
 | _=>exact (show False from e).elim
end
open PySem PySem.Spec PyProof.Rows
structure ObjM (h:Heap) (x dx C:Addr) (mA:Str->Option Value):Prop where
 obj:h.get? x=some (PySem.W.instObj C dx)
 ns:h.Ns1 dx mA
 ne:dx≠x
theorem qp7 {h:Heap} {dx:Addr} {mA:Str->Option Value} (n:h.Ns1 dx mA):∃ od,h.get? dx=some od/\∀ name,PySem.W.lookIn name od=some (mA name):=by
 obtain ⟨o,es,ep,ho,hd,hk,_,hm⟩:=n;refine ⟨o,ho,λname=>?_⟩;have e:=hm name;unfold nsFind findBy at e;rw[<- Array.find?_toList] at e;unfold PySem.W.lookIn;rw[hd];dsimp only
 split
 ·rename_i y q
  rw[q] at e;exact congrArg some e
 ·rename_i q
  rw[q] at e;have a:es.toList.any (·.refKey)=false:=by
   rw[List.any_eq_false];intro y hy;obtain ⟨z,t,hkey⟩:=hk y (Array.mem_toList_iff.mp hy)
   simp[DictEntry.refKey,hkey]
  have a':¬ es.toList.any (·.refKey)=true:=by rw[a];exact Bool.false_ne_true
  rw[if_neg a'];exact congrArg some e
theorem ObjM.look {h:Heap} {x dx C:Addr} {mA:Str->Option Value} (I:ObjM h x dx C mA):∃ od,PySem.W.InstAt h x (PySem.W.instObj C dx) C (some od)/\∀ name,PySem.W.lookIn name od=some (mA name):=
 let ⟨od,ho,hl⟩:=qp7 I.ns
 ⟨od,⟨I.obj,rfl,rfl,ho⟩,hl⟩
section
variable {prog:Program} {w:World} {A:Around} {E:Value->Shared->Prop} {s:Shared} {K:Frag} {x dx C f:Addr} {mA:Str->Option Value} {name:Str} {v:Value}
theorem qvy {expr:Bool} {Q:Value->Shared->Prop} (X:K.In s.heap) (I:ObjM s.heap x dx C mA) (hg:PySem.W.plainGet K C name=true) (hh:PySem.W.hasDictIn K C=true)
  (ha:PySem.W.findIn K (.ref C) name=some none) (hv:mA name=some v) (hv':PySem.W.handedIn v=true) (h:Q v { s with toks:=s.toks+1 }) :
  wpAny (model prog w) A (getAttr (.ref x) name expr) Q E s:=by
 obtain ⟨od,J,hl⟩:=I.look;exact PySem.W.get_value X J (PySem.W.plainGet_of hg).1 (PySem.W.findObj_own hh ha rfl (by rw[hl,hv])) hv' h
theorem qs2 {pl:Sem Bool} {Q:Value×List Value->Shared->Prop} (X:K.In s.heap) (I:ObjM s.heap x dx C mA) (hg:PySem.W.plainGet K C name=true)
  (hf:PySem.W.findIn K (.ref C) name=some (some (.ref f))) (ht:PySem.W.isFn K (.ref f)=true) (hv:mA name=none) (h:Q (.ref f,[.ref x]) s) :
  wpAny (model prog w) A (getMethod (.ref x) name pl) Q E s:=by
 obtain ⟨od,J,hl⟩:=I.look;exact PySem.W.method_fn X J (PySem.W.plainGet_of hg).1 (PySem.W.plainGet_of hg).2 hf (beq_iff_eq.mp ht) (by show (PySem.W.lookIn name od).map (·.isSome)=some false;rw[hl,hv];rfl) h
theorem qvz {ns:List Str} {Q:Unit->Shared->Prop} (X:K.In s.heap) (I:ObjM s.heap x dx C mA)
  (hs:PySem.W.findIn K (.ref C) "__setattr__" = some (some (.builtin "object.__setattr__"))) (hp:PySem.W.plainOver K C=true) (ht:PySem.W.takerIn K C name=some none) (hh:PySem.W.hasDictIn K C=true)
  (hw:PySem.Within mA ns) (hsz:ns.length<=sizeLine)
  (h:∀ h',ObjM h' x dx C (λy=>if y=name then some v else mA y)->Heap.SameBut dx s.heap h'->Q () { s with heap:=h',toks:=s.toks+2 }) :
  wpAny (model prog w) A (setAttr (.ref x) name v) Q E s:=by
 obtain ⟨od,J,hl⟩:=I.look;refine PySem.W.set_plain X J hs (PySem.W.osa_open (s:={ s with toks:=s.toks+1 }) (r:=none) X J hp ht λb=>?_);obtain ⟨cd,hc,hd'⟩:=PySem.W.any_some hh;have hx:s.heap.get? x=some ⟨.ref C,some dx,.plain,#[]⟩:=I.obj;refine wpAny_bind (wpAny_pure (wpAny_bind (wpAny_bind (wpAny_loadPart hx (wpAny_bind (PySem.W.Looks.here (s:={ s with toks:=s.toks+1 }) (PySem.W.looks_clsIn X hc) ?_))))));rw[hd'];refine wpAny_pure (a:=some dx) (wpAny_bind (wpAny_pure (wpAny_bind ?_)));refine wpAny_nsSet1 (s:={ s with toks:=s.toks+1 }) I.ns λh' hn2 hs2=>?_
 obtain ⟨oD,esD,epD,hoD,hdD,hcD⟩:=hn2.count (PySem.Within.cons name v hw);refine wpAny_bind (wpAny_lookBehind hoD (by rw[hdD];exact pastItsLine_dict (Nat.le_trans hcD (by rw[List.length_cons];omega))) ?_);exact wpAny_pure (h _ ⟨(hs2.2 _ (Ne.symm I.ne)).trans I.obj,hn2,I.ne⟩ hs2)
theorem qs3 {R:Result->Shared->Prop} {vs:List Value} {kw:List (Str×Value)} (X:K.In s.heap) (hm:PySem.W.makesIn K C=true)
  (hi:PySem.W.findIn K (.ref C) "__init__" = some (some (.ref f))) (hf:PySem.W.typeIn K (.ref f)=some (.type "function"))
  (h:codeAny (model prog w) (A.under (.builtin "type.__call__" ⟨.ref C :: vs,kw⟩)) (.call (.ref f) ⟨.ref (s.heap.objs.size+1) :: vs,kw⟩) (PySem.W.InitBack (s.heap.objs.size+1) R)
   {s with heap:=(s.heap.push PySem.W.emptyDict).push (PySem.W.instObj C s.heap.objs.size) }) :
  codeAny (model prog w) A (.call (.ref C) ⟨vs,kw⟩) R s:=by
 obtain ⟨hh,g,d,t,os⟩:=s;exact PySem.W.make_core (PySem.W.makes_of X hm) (PySem.W.looks_findIn X hi) (λself=>PySem.W.bind_fn X self hf) (.inl rfl) h
end
def qeb (f:Str) (v:V):List (Str×V)->List (Str×V)
 | []=>[(f,v)]
 | (g,x) :: r=>if g=f then (g,v) :: r else (g,x) :: qeb f v r
theorem qac (f g:Str) (v:V):∀ fs:List (Str×V),(qeb f v fs).lookup g=if g=f then some v else fs.lookup g
 | []=>by
  show List.lookup g [(f,v)]=_
  by_cases h:g=f
  ·have hb:(g == f)=true:=beq_iff_eq.mpr h
   simp only[List.lookup,hb,if_pos h]
  ·have hb:(g == f)=false:=beq_eq_false_iff_ne.mpr h
   simp only[List.lookup,hb,if_neg h]
 | (k,x) :: r=>by
  have ih:=qac f g v r;rw[show qeb f v ((k,x) :: r)=(if k=f then (k,v) :: r else (k,x) :: qeb f v r) from rfl]
  by_cases hk:k=f
  ·rw[if_pos hk]
   by_cases h:g=k
   ·have hb:(g == k)=true:=beq_iff_eq.mpr h
    simp only[List.lookup,hb,if_pos (h.trans hk)]
   ·have hb:(g == k)=false:=beq_eq_false_iff_ne.mpr h
    simp only[List.lookup,hb,if_neg (λe:g=f=>h (e.trans hk.symm))]
  ·rw[if_neg hk]
   by_cases h:g=k
   ·have hb:(g == k)=true:=beq_iff_eq.mpr h
    simp only[List.lookup,hb,if_neg (λe:g=f=>hk (h.symm.trans e))]
   ·have hb:(g == k)=false:=beq_eq_false_iff_ne.mpr h
    simp only[List.lookup,hb];exact ih
theorem qgd (f:Str) (v:V):∀ fs:List (Str×V),f∈(qeb f v fs).map (·.1)/\∀ g,g∈fs.map (·.1)->g∈(qeb f v fs).map (·.1)
 | []=>⟨by simp[qeb],λg h=>by simp at h⟩
 | (k,x) :: r=>by
  obtain ⟨i1,i2⟩:=qgd f v r;rw[show qeb f v ((k,x) :: r)=(if k=f then (k,v) :: r else (k,x) :: qeb f v r) from rfl]
  by_cases hk:k=f
  ·rw[if_pos hk]
   subst hk;exact ⟨by simp,λg h=>by simpa using h⟩
  ·rw[if_neg hk]
   refine ⟨?_,λg h=>?_⟩
   ·rw[List.map_cons]
    exact List.mem_cons_of_mem _ i1
   ·rw[List.map_cons] at h ⊢
    rcases List.mem_cons.mp h with e|e
    ·exact List.mem_cons.mpr (.inl e)
    ·exact List.mem_cons_of_mem _ (i2 g e)
theorem qge (f:Str) (v:V):∀ fs:List (Str×V),(qeb f v fs).length<=fs.length+1
 | []=>by simp[qeb]
 | (k,x) :: r=>by
  have ih:=qge f v r;rw[show qeb f v ((k,x) :: r)=(if k=f then (k,v) :: r else (k,x) :: qeb f v r) from rfl]
  by_cases hk:k=f
  ·rw[if_pos hk,List.length_cons,List.length_cons];omega
  ·rw[if_neg hk,List.length_cons,List.length_cons];omega
theorem RelO.some_of {v:V} {o:Option Value} (r:RelO (some v) o):∃ u,o=some u/\RelV v u:=by
 cases o with
 | none=>exact (show False from r).elim
 | some u=>exact ⟨u,rfl,r⟩
theorem RelO.none_of {o:Option Value} (r:RelO none o):o=none:=by
 cases o with
 | none=>rfl
 | some u=>exact (show False from r).elim
theorem qp8 {v:V} {u:Value} (r:RelV v u):PySem.W.handedIn u=true:=by
 cases v with
 | non=>cases (show u=Value.none from r);rfl
 | bl b=>cases (show u=Value.bool b from r);rfl
 | int i=>obtain ⟨t,e⟩:=(show ∃ t,u=Value.int i t from r);cases e;rfl
 | str x=>obtain ⟨t,e⟩:=(show ∃ t,u=Value.str x t from r);cases e;rfl
 | byt b=>obtain ⟨t,e⟩:=(show ∃ t,u=Value.bytes b t from r);cases e;rfl
 | flt b=>obtain ⟨t,e⟩:=(show ∃ t,u=Value.float b t from r);cases e;rfl
 | ref a=>cases (show u=Value.ref a from r);rfl
 | ty n=>cases (show u=Value.type n from r);rfl
section
variable {P:Program} {w:World} {H H':Hp} {h h':Heap} {a C dx:Addr} {fs fs':List (Str×V)}
theorem qit (hok:HOk P w H h) (e:H a=some (.ins C dx fs)):∃ mA,ObjM h a dx C mA/\(∀ f,RelO (fs.lookup f) (mA f))/\PySem.Within mA (fs.map (·.1))/\fs.length<=1000/\H dx=some (.own a):=by
 obtain ⟨d,z,ne,ob,mA,n,r,q⟩:=(show ObjOk P w H h a (.ins C dx fs) from hok a _ e);exact ⟨mA,⟨ob,n,ne⟩,r,q,z,d⟩
end
structure Cls (K:Frag) (C:Addr):Prop where
 pg:PySem.W.plainGet K C Str.empty=true
 hd:PySem.W.hasDictIn K C=true
 po:PySem.W.plainOver K C=true
 sa:PySem.W.findIn K (.ref C) "__setattr__" = some (some (.builtin "object.__setattr__"))
theorem Cls.get {K:Frag} {C:Addr} (c:Cls K C) (f:Str):PySem.W.plainGet K C f=true:=c.pg
def NoAttr (K:Frag) (C:Addr) (f:Str):Prop:=PySem.W.findIn K (.ref C) f=some none
theorem NoAttr.taker {K:Frag} {C:Addr} {f:Str} (n:NoAttr K C f):PySem.W.takerIn K C f=some none:=by
 unfold PySem.W.takerIn;rw[show PySem.W.findIn K (.ref C) f=some none from n]
 rfl
structure qp9 (K:Frag) (C:Addr) (m:Str) (f:Addr):Prop where
 at_:PySem.W.findIn K (.ref C) m=some (some (.ref f))
 fn:PySem.W.isFn K (.ref f)=true
 kp:keepIn K (.ref f)=true
section
variable {X:Cx} {pins:List (Addr×Obj)} {σ:St} {H:Hp} {s:Shared} {a C dx:Addr} {fs:List (Str×V)} {f:Str} {v:V} {A:Around} {E:Value->Shared->Prop}
theorem qop {b:Bool} {Q:Value->Shared->Prop} (I:Inv X pins σ H s) (e:H a=some (.ins C dx fs)) (c:Cls X.K C) (n:NoAttr X.K C f) (l:fs.lookup f=some v)
  (h:∀ u s',Inv X pins σ H s'->RelV v u->Q u s'):wpAny (model X.prog X.w) A (getAttr (.ref a) f b) Q E s:=by
 obtain ⟨mA,O,r,_,_,_⟩:=qit I.hok e;obtain ⟨u,hu,ru⟩:=RelO.some_of (v:=v) (o:=mA f) (by rw[<- l];exact r f);exact qvy I.kIn O (c.get f) c.hd n hu (qp8 ru) (h u _ (I.tok _) ru)
theorem qev {m:Str} {g:Addr} {pl:Sem Bool} {Q:Value×List Value->Shared->Prop} (I:Inv X pins σ H s) (e:H a=some (.ins C dx fs)) (c:Cls X.K C) (k:qp9 X.K C m g) (l:fs.lookup m=none)
  (h:Q (.ref g,[.ref a]) s):wpAny (model X.prog X.w) A (getMethod (.ref a) m pl) Q E s:=by
 obtain ⟨mA,O,r,_,_,_⟩:=qit I.hok e;have hn:mA m=none:=RelO.none_of (by rw[<- l];exact r m);exact qs2 I.kIn O (c.get m) k.at_ k.fn hn h
theorem qoq {y:V} {u:Value} {Q:Unit->Shared->Prop} (I:Inv X pins σ H s) (e:H a=some (.ins C dx fs)) (c:Cls X.K C) (n:NoAttr X.K C f) (hl:fs.length<1000) (ry:RelV y u)
  (h:∀ s',Inv X pins σ (upd H a (.ins C dx (qeb f y fs))) s'->Q () s'):wpAny (model X.prog X.w) A (setAttr (.ref a) f u) Q E s:=by
 obtain ⟨mA,O,r,wi,_,ho⟩:=qit I.hok e;have hz:(fs.map (·.1)).length<=sizeLine:=by rw[List.length_map,sizeLine_eq];omega
 refine qvz I.kIn O c.sa c.po n.taker c.hd wi hz λh' O' sb=>h _ ?_
 have hd:∃ o,h'.get? dx=some o:=let ⟨o,_,_,e',_⟩:=O'.ns;⟨o,e'⟩
 refine I.write (x:=a) (e:=dx) (by rw[e];exact True.intro) (.inr ho) (λb q hb z=>(sb.2 b hb).trans z) hd ?_;refine ⟨by rw[qao O.ne];exact ho,?_,O.ne,O'.obj,_,O'.ns,λg=>?_,λg hg=>?_⟩
 ·have:=qge f y fs;omega
 ·show RelO ((qeb f y fs).lookup g) (if g=f then some u else mA g)
  rw[qac]
  by_cases q:g=f
  ·rw[if_pos q,if_pos q];exact ry
  ·rw[if_neg q,if_neg q];exact r g
 ·by_cases q:g=f
  ·rw[q];exact (qgd f y fs).1
  ·refine (qgd f y fs).2 g (wi g λz=>hg ?_)
   show (if g=f then some u else mA g)=none
   rw[if_neg q];exact z
theorem Inv.made (I:Inv X pins σ H s):Inv X pins σ (upd (upd H s.heap.objs.size (.own (s.heap.objs.size+1))) (s.heap.objs.size+1) (.ins C s.heap.objs.size []))
  {s with heap:=(s.heap.push PySem.W.emptyDict).push (PySem.W.instObj C s.heap.objs.size) }:=by
 have e1:(s.heap.push PySem.W.emptyDict).get? s.heap.objs.size=some PySem.W.emptyDict:=Heap.get?_push_size s.heap rfl;have e2:((s.heap.push PySem.W.emptyDict).push (PySem.W.instObj C s.heap.objs.size)).get? (s.heap.objs.size+1)=some (PySem.W.instObj C s.heap.objs.size):=by
  have:=Heap.get?_push_size (s.heap.push PySem.W.emptyDict) (o:=PySem.W.instObj C s.heap.objs.size) rfl
  rwa [Heap.size_push] at this
 have e3:(s.heap.push PySem.W.emptyDict).Ns s.heap.objs.size (λ_=>none):=⟨PySem.W.emptyDict,#[],_,e1,rfl,(λe he=>absurd he (by simp)),λ_=>rfl⟩;have I1:=I.laid (a:=s.heap.objs.size) (o:=.own (s.heap.objs.size+1)) (h':=s.heap.push PySem.W.emptyDict) (t':=s.toks) (λb u q=>Heap.get?_push_of_some _ q) (Nat.le_refl _) ⟨_,e1⟩;refine I1.laid (a:=s.heap.objs.size+1) (o:=.ins C s.heap.objs.size []) (t':=s.toks) (λb u q=>Heap.get?_push_of_some _ q) (Nat.le_of_eq (Heap.size_push _ _)) ?_;have ne:s.heap.objs.size≠s.heap.objs.size+1:=Nat.ne_of_lt (Nat.lt_succ_self _);refine ⟨by rw[qao ne,qau],Nat.zero_le _,ne,e2,λ_=>none,(Heap.Ns1.of_empty e3).at λo q=>Heap.get?_push_of_some _ q,λ_=>True.intro,λy hy=>absurd rfl hy⟩
theorem qv0 {prog:Program} {w:World} {env:Env} {e:Expr} {f:Str} {pos:Pos} {s:Shared} {Q:Value->Shared->Prop} (hb:attributeBase e f env (eval e env)=eval e env)
  (h:wpAny (model prog w) A (eval e env) (λo s₁=>wpAny (model prog w) A (getAttr o f true) Q E s₁) E s):wpAny (model prog w) A (eval (.Attribute e f pos) env) Q E s:=
 Attribute_any_ h (by rw[arm_eval_Attribute,hb])
end
inductive qBb (K:Frag) (f:Str) (x:V) (H1:Hp) (Q:VK):Prop
 | mk (a C dx:Addr) (fs:List (Str×V)) (v:V) (hx:x=.ref a) (ho:H1 a=some (.ins C dx fs)) (hc:Cls K C) (hn:NoAttr K C f) (hl:fs.lookup f=some v) (k:Q v H1)
def qBc (K:Frag) (ta:TE) (f:Str):TE:=λσ H Q=>ta σ H λx H1=>qBb K f x H1 Q
section
variable {X:Cx} {o e value:Expr} {f:Str} {pos pos' tpos:Pos} {ta tv:TE}
theorem qbc (he:PE X e ta) (hb:attributeBase e f X.env (eval e X.env)=eval e X.env):PE X (.Attribute e f pos) (qBc X.K ta f):=by
 intro pins s σ H Q I h;refine qv0 hb (thn (he pins s σ H _ I h) λu s1 hq__=>?_);obtain ⟨x,H1,I1,rx,a,C,dx,fs,v,ex,ea,c,n,l,q⟩:=hq__;subst ex;obtain rfl:u=Value.ref a:=rx;exact qop I1 ea c n l λu' s2 I2 ru=>⟨v,H1,I2,ru,q⟩
end
section
variable {X:Cx} {pins:List (Addr×Obj)} {σ:St} {H:Hp} {s:Shared} {A:Around} {E:Value->Shared->Prop} {Q:Value->Shared->Prop} {c:Value} {b:Bool}
inductive TyOf (K:Frag) (H:Hp):V->Value->Prop where
 | non:TyOf K H .non (.type "NoneType")
 | bl (x:Bool):TyOf K H (.bl x) (.type "bool")
 | int (i:Int):TyOf K H (.int i) (.type "int")
 | str (x:Str):TyOf K H (.str x) (.type "str")
 | flt (x:UInt64):TyOf K H (.flt x) (.type "float")
 | lst {a:Addr} {xs:List V} (e:H a=some (.lst xs)):TyOf K H (.ref a) (.type "list")
 | frz {a:Addr} {o:Obj} {xs:List V} (e:H a=some (.frz o (.lst xs))):TyOf K H (.ref a) (.type "list")
 | tup {a:Addr} {xs:List V} (e:H a=some (.tup xs)):TyOf K H (.ref a) (.type "tuple")
 | dK {a:Addr} {kvs:List (Key×V)} (e:H a=some (.dK kvs)):TyOf K H (.ref a) (.type "dict")
 | dT {a:Addr} {kvs:List (List Key×V)} (e:H a=some (.dT kvs)):TyOf K H (.ref a) (.type "dict")
 | ins {a C dx:Addr} {fs:List (Str×V)} (e:H a=some (.ins C dx fs)) (cl:Cls K C) (ha:PySem.W.findIn K (.ref C) "__class__" = some (some (.builtin "object.__class__")))
   (hn:PySem.W.specialIn K (.builtin "object.__class__") "__get__" = some (some (.builtin "getset_descriptor.__get__"))) (htk:PySem.W.takesIn K (.builtin "object.__class__")=some true)
   (hm:PySem.W.mroIn K C (.type "object")=some true):TyOf K H (.ref a) (.ref C)
theorem qqa {x:V} {u t:Value} (I:Inv X pins σ H s) (rx:RelV x u) (ty:TyOf X.K H x t) (e:PySem.W.kitOne X.K t c=some b) (h:∀ tk,Q (.bool b) { s with toks:=tk }) :
  wpAny (model X.prog X.w) A (call (.builtin "isinstance") [u,c]) Q E s:=by
 cases ty with
 | non=>cases (show u=Value.none from rx);exact PySem.W.kia_one PySem.W.kitx_none I.kIn True.intro e (λz=>nomatch z) h
 | bl y=>cases (show u=Value.bool y from rx);exact PySem.W.kia_one PySem.W.kitx_bool I.kIn True.intro e (λz=>nomatch z) h
 | int i=>obtain ⟨t,q⟩:=(show ∃ t,u=Value.int i t from rx);cases q;exact PySem.W.kia_one PySem.W.kitx_int I.kIn True.intro e (λz=>nomatch z) h
 | str y=>obtain ⟨t,q⟩:=(show ∃ t,u=Value.str y t from rx);cases q;exact PySem.W.kia_one PySem.W.kitx_str I.kIn True.intro e (λz=>nomatch z) h
 | flt y=>obtain ⟨t,q⟩:=(show ∃ t,u=Value.float y t from rx);cases q;exact PySem.W.kia_one PySem.W.kitx_float I.kIn True.intro e (λz=>nomatch z) h
 | @lst a xs ea =>
  cases (show u=Value.ref a from rx)
  obtain ⟨_,_,n,_,h1⟩:=(show ObjOk X.prog X.w H s.heap a (.lst xs) from I.hok a _ ea);exact PySem.W.kia_one PySem.W.kitx_list I.kIn ⟨_,h1,rfl⟩ e (λz=>nomatch z) h
 | @frz a ob xs ea =>
  cases (show u=Value.ref a from rx)
  obtain ⟨_,_,_,n,_,h1⟩:=(show ObjOk X.prog X.w H s.heap a (.frz ob (.lst xs)) from I.hok a _ ea);exact PySem.W.kia_one PySem.W.kitx_list I.kIn ⟨_,h1,rfl⟩ e (λz=>nomatch z) h
 | @tup a xs ea =>
  cases (show u=Value.ref a from rx)
  obtain ⟨_,_,_,p⟩:=(show ObjOk X.prog X.w H s.heap a (.tup xs) from I.hok a _ ea);obtain ⟨o,h1,h2,_⟩:=p;exact PySem.W.kia_one PySem.W.kitx_tuple I.kIn ⟨o,h1,h2⟩ e (λz=>nomatch z) h
 | @dK a kvs ea =>
  cases (show u=Value.ref a from rx)
  obtain ⟨_,_,vs,_,p⟩:=(show ObjOk X.prog X.w H s.heap a (.dK kvs) from I.hok a _ ea);obtain ⟨o,es,ep,h1,h2,_⟩:=p;exact PySem.W.kia_one PySem.W.kitx_dict I.kIn ⟨o,h1,h2.1⟩ e (λz=>nomatch z) h
 | @dT a kvs ea =>
  cases (show u=Value.ref a from rx)
  obtain ⟨_,_,xs,_,o,es,ep,h1,h2,_⟩:=(show ObjOk X.prog X.w H s.heap a (.dT kvs) from I.hok a _ ea);exact PySem.W.kia_one PySem.W.kitx_dict I.kIn ⟨o,h1,h2.1⟩ e (λz=>nomatch z) h
 | @ins a C dx fs ea cl ha hn htk hm =>
  cases (show u=Value.ref a from rx)
  obtain ⟨mA,O,_⟩:=qit I.hok ea;obtain ⟨od,J,_⟩:=O.look;exact PySem.W.kia_one (PySem.W.kitx_own (cl.get _) cl.hd ha hn htk hm) I.kIn J e (λz=>nomatch z) h
end
open PySem PySem.Spec PyProof.Rows
structure Room (k:Nat) (A:Around):Prop where
 hd:A.handled=none
 dp:A.depth+3*k+5<recursionLimit
 un:A.units+16*k+200<cLine
theorem Room.mono {j k:Nat} {A:Around} (r:Room k A) (h:j<=k):Room j A:=⟨r.hd,by have:=r.dp;omega,by have:=r.un;omega⟩
theorem Room.deeper {k:Nat} {A:Around} (r:Room (k+1) A) (env:Env):Room k (A.deeper env):=
 ⟨r.hd,by have:=r.dp;show A.depth+1+3*k+5<_;omega,by have:=r.un;show A.units+3+16*k+200<_;omega⟩
theorem qor {A:Around} {C:Addr} {us:List Value} {kw:List (Str×Value)}:(A.under (.builtin "type.__call__" ⟨.ref C :: us,kw⟩)).depth=A.depth+1:=by
 first|rfl|simp[Around.under,Code.weight,Code.isCreation,Code.isGuard,Code.isCaller,Code.frames,Code.isFrame,guardIds]
theorem qos {A:Around} {C:Addr} {us:List Value} {kw:List (Str×Value)}:(A.under (.builtin "type.__call__" ⟨.ref C :: us,kw⟩)).units=A.units+1:=by
 first|rfl|simp[Around.under,Code.cUnits,Code.frames,Code.isFrame]
theorem Room.make {k:Nat} {A:Around} (r:Room (k+1) A) (C:Addr) (us:List Value) (kw:List (Str×Value)):Room k (A.under (.builtin "type.__call__" ⟨.ref C :: us,kw⟩)):=
 ⟨r.hd,by have:=r.dp;rw[qor];omega,by have:=r.un;rw[qos];omega⟩
theorem Room.depth {k:Nat} {A:Around} (r:Room k A):A.depth<recursionLimit:=by have:=r.dp;omega
theorem Room.units {k:Nat} {A:Around} (r:Room k A):A.units+64<cLine:=by have:=r.un;omega
def qm2:TA:=λ_ H Q=>Q [] H
def qc9 (ta:TE) (tr:TA):TA:=λσ H Q=>ta σ H λx H1=>tr σ H1 λxs H2=>Q (x :: xs) H2
section
variable {X:Cx} {e:Expr} {es:List Expr} {te:TE} {t:TA} {pos:Pos}
theorem qbn:PA X [] qm2:=λ_ _ _ _ H Q I h=>Calls.spliced_nil ⟨[],H,I,.nil,h⟩
theorem qaw (ha:PE X e te) (hr:PA X es t) (hs:starEach (e :: es) X.env=(false,eval e X.env) :: starEach es X.env:=by rfl):PA X (e :: es) (qc9 te t):=by
 intro pos pins s σ H Q I h;rw[hs]
 show wpAny _ _ (spliced ((false,eval e X.env) :: backTo pos (starEach es X.env))) _ _ s
 refine Calls.spliced_cons (thn (ha pins s σ H _ I h) λu s1 hq__=>?_);obtain ⟨x,H1,I1,r1,q1⟩:=hq__;exact thn (hr pos pins s1 σ H1 _ I1 q1) λus s2 ⟨xs,H2,I2,r2,q2⟩=>⟨x :: xs,H2,I2,.cons r1 r2,q2⟩
end
abbrev Sp:=List V->Hp->VK->XK->Prop
abbrev CXT:=List Env->Hp->Shared->XK->Value->Shared->Prop
structure Env0 (P:Program) (w:World) (K:Frag) (mg:Str->Option Value) (base:Heap) (A:Around) (outer:List Env) (s:Shared) (H:Hp):Prop where
 frames:A.frames=some outer
 mod:Mod K mg base
 bs:∀ b o,base.get? b=some o->s.heap.get? b=some o/\H b=none
 bsz:base.objs.size<=s.heap.objs.size
 funs:s.heap.FunFrames base outer
 frf:∀ b∈frs outer,H b=none
 hok:HOk P w H s.heap
 bare:AllBare s.gens
def CE (outer:List Env) (P:Program) (w:World) (H:Hp) (s:Shared) (Q:VK) (u:Value) (s':Shared):Prop:=
 ∃ v H',s'.os=s.os/\AllBare s'.gens/\Un (frs outer) [] H H' s.heap s'.heap/\HOk P w H' s'.heap/\RelV v u/\Q v H'
def CR (CX:CXT) (outer:List Env) (P:Program) (w:World) (H:Hp) (s:Shared) (Q:VK) (E:XK) (r:Result) (s':Shared):Prop:=
 match r with
 | .ok (.ret u)=>CE outer P w H s Q u s'
 | .ok _=>False
 | .error e=>CX outer H s E e s'
structure qfy (P:Program) (w:World) (K:Frag) (mg:Str->Option Value) (base:Heap) (CX:CXT) (k:Nat) (f:Addr) (fd:FuncData) (ps:List Str) (sp:Sp):Prop where
 len:∀ vs H Q E,sp vs H Q E->vs.length=ps.length
 run:∀ (A:Around) (outer:List Env) (s:Shared) (H:Hp) (args:Args) (us:List Value) (vs:List V) (Q:VK) (E:XK),Room k A->Env0 P w K mg base A outer s H->BindsTo s fd args (ps.zip us)->Vals vs us->sp vs H Q E ->
  codeAny (model P w) A (.call (.ref f) args) (CR CX outer P w H s Q E) s
theorem Env0.make {P:Program} {w:World} {K:Frag} {mg:Str->Option Value} {base:Heap} {A:Around} {outer:List Env} {s:Shared} {H:Hp} (e:Env0 P w K mg base A outer s H) (C:Addr) (us:List Value) (kw:List (Str×Value)) :
  Env0 P w K mg base (A.under (.builtin "type.__call__" ⟨.ref C :: us,kw⟩)) outer s H:=⟨by first|exact e.frames|(simpa [Around.under,Code.envs,Code.isFrame,pushEnvs] using e.frames),e.mod,e.bs,e.bsz,e.funs,e.frf,e.hok,e.bare⟩
section
variable {X:Cx} {pins:List (Addr×Obj)} {σ:St} {H:Hp} {s s':Shared}
theorem Inv.env0 (I:Inv X pins σ H s):Env0 X.prog X.w X.K X.mg X.base X.A X.stack s H:=
 ⟨I.ok.frames,I.ok.mod,I.bs,Nat.le_trans I.ok.bsz I.sz,I.stack,I.stkFree,I.hok,I.bare⟩
theorem Inv.after {Q:VK} {u:Value} (I:Inv X pins σ H s) (h:CE X.stack X.prog X.w H s Q u s'):EP X pins σ Q u s':=by
 obtain ⟨v,H',os,bare,un,hok,r,q⟩:=h;obtain ⟨hh,g,d,t,os'⟩:=s';obtain rfl:os'=s.os:=os;exact ⟨v,H',I.call (h':=hh) (g':=g) (d':=d) (t':=t) (ch:=[]) un hok bare (λb z=>absurd z (by simp)),r,q⟩
end
def qv1 (sp:Sp) (dvs:List V) (E:XK) (t:TA):TE:=λσ H Q=>t σ H λvs H1=>sp (vs ++ dvs) H1 Q E
inductive qum (C:Addr) (m:Str) (x:V) (H:Hp) (k:Prop):Prop
 | mk (a dx:Addr) (fs:List (Str×V)) (hx:x=.ref a) (ho:H a=some (.ins C dx fs)) (hl:fs.lookup m=none) (hk:k)
def qs4 (C:Addr) (m:Str) (sp:Sp) (dvs:List V) (E:XK) (ta:TE) (t:TA):TE:=λσ H Q=>ta σ H λx H1=>qum C m x H1 (t σ H1 λvs H2=>sp (x :: (vs ++ dvs)) H2 Q E)
def Binds (K:Frag) (fd:FuncData) (ps:List Str) (ds:List Value):Prop:=
 ∀ (s:Shared) (us:List Value),K.In s.heap->(us ++ ds).length=ps.length->BindsTo s fd ⟨us,[]⟩ (ps.zip (us ++ ds))
theorem Binds.all {K:Frag} {fd:FuncData} {ps:List Str} (h:∀ us:List Value,us.length=ps.length->bindArgs fd ⟨us,[]⟩=pure (ps.zip us)):Binds K fd ps []:=λs us _ hl=>by
 rw[List.append_nil] at hl ⊢;exact .of_eq (h us hl)
def qhw (CX:CXT) (X:Cx) (E:XK):Prop:=∀ (pins:List (Addr×Obj)) (σ:St) (H:Hp) (s:Shared) (e:Value) (s':Shared),Inv X pins σ H s->CX X.stack H s E e s'->X.xe e s'
section
variable {X:Cx} {CX:CXT} {k:Nat} {f C:Addr} {fd:FuncData} {ps:List Str} {sp:Sp} {dvs:List V} {ds:List Value} {E:XK} {x m:Str} {p pos apos:Pos} {e o:Expr} {es:List Expr} {ta:TE} {t:TA}
theorem qqb {pins:List (Addr×Obj)} {σ:St} {H:Hp} {s:Shared} {Q:VK} {us:List Value} {vs:List V} (F:qfy X.prog X.w X.K X.mg X.base CX k f fd ps sp) (hr:Room k X.A) (hb:Binds X.K fd ps ds) (hd:Vals dvs ds) (hx:qhw CX X E)
  (I:Inv X pins σ H s) (r:Vals vs us) (h:sp (vs ++ dvs) H Q E):wpAny (model X.prog X.w) X.A (call (.ref f) us) (EP X pins σ Q) X.xe s:=by
 have r2:Vals (vs ++ dvs) (us ++ ds):=r.append hd;have hl:(us ++ ds).length=ps.length:=by rw[<- r2.length];exact F.len _ _ _ _ h
 refine wpAny_call (codeAny_mono (F.run X.A X.stack s H ⟨us,[]⟩ (us ++ ds) (vs ++ dvs) Q E hr I.env0 (hb s us I.kIn hl) r2 h) λr s' hq=>?_)
 cases r with
 | error e=>exact hx pins σ H s e s' I hq
 | ok fl =>
  cases fl with
  | ret u=>exact I.after hq
  | next=>exact False.elim hq
  | brk=>exact False.elim hq
  | cont=>exact False.elim hq
theorem qv2 (F:qfy X.prog X.w X.K X.mg X.base CX k f fd ps sp) (hr:Room k X.A) (hg:Gl X x) (hm:X.mg x=some (.ref f)) (hk:keepIn X.K (.ref f)=true) (hb:Binds X.K fd ps ds) (hd:Vals dvs ds) (hx:qhw CX X E)
  (ha:PA X (e :: es) t) (hdb:(x == ("__debug__" : Str))=false:=by decide) (he:starEach (e :: es) X.env=(false,eval e X.env) :: starEach es X.env:=by rfl) (hpl:(backTo pos (starEach es X.env)).any (·.1)=false:=by rfl) :
  PE X (.Call (.Name x p) (e :: es) [] pos) (qv1 sp dvs E t):=by
 intro pins s σ H Q I h;refine wpAny_Call_Name_kw (qeu I hg hm ?_ hdb);refine PySem.W.callWith_K (h₀:=X.base) I.ok.mod.kin hk (thn (ha pos pins s σ H _ I h) λus s1 ⟨vs,H1,I1,r,q⟩=>⟨I1.kIn,?_⟩) he hpl;exact qqb F hr hb hd hx I1 r q
theorem qv3 {pl:Sem Bool} (he:PE X o ta) (c:Cls X.K C) (hm:qp9 X.K C m f) (F:qfy X.prog X.w X.K X.mg X.base CX k f fd ps sp) (hr:Room k X.A) (hb:Binds X.K fd ps ds) (hd:Vals dvs ds) (hx:qhw CX X E) (ha:PA X (e :: es) t)
  (hst:starEach (e :: es) X.env=(false,eval e X.env) :: starEach es X.env:=by rfl) (hpl:(backTo pos (starEach es X.env)).any (·.1)=false:=by rfl)
  (ht:eval (.Call (.Attribute o m apos) (e :: es) [] pos) X.env=(do
   let ov <- eval o X.env
   standAt apos.atName
   let (f,first) <- holding [ov] (getMethod ov m pl)
   callWith pos f first (backTo pos (starEach (e :: es) X.env)) (backToKw pos (keywordEach [] X.env))):=by rfl) :
  PE X (.Call (.Attribute o m apos) (e :: es) [] pos) (qs4 C m sp dvs E ta t):=by
 intro pins s σ H Q I h;refine PySem.W.methodCall_KW (pl:=pl) (thn (he pins s σ H _ I h) λu s1 hq__=>?_) ht;obtain ⟨x,H1,I1,rx,a,dx,fs,ex,ea,l,q⟩:=hq__;subst ex;obtain rfl:u=Value.ref a:=rx;refine qev I1 ea c hm l ?_;refine PySem.W.callWith_K (first:=[.ref a]) (h₀:=X.base) I.ok.mod.kin hm.kp (thn (ha pos pins s1 σ H1 _ I1 q) λus s2 ⟨vs,H2,I2,r,q2⟩=>⟨I2.kIn,?_⟩) hst hpl;exact qqb (us:=.ref a :: us) (vs:=.ref a :: vs) F hr hb hd hx I2 (.cons rfl r) q2
theorem qs5 {pl:Sem Bool} (he:PE X o ta) (c:Cls X.K C) (hm:qp9 X.K C m f) (F:qfy X.prog X.w X.K X.mg X.base CX k f fd ps sp) (hr:Room k X.A) (hb:Binds X.K fd ps ds) (hd:Vals dvs ds) (hx:qhw CX X E)
  (ht:eval (.Call (.Attribute o m apos) [] [] pos) X.env=(do
   let ov <- eval o X.env
   standAt apos.atName
   let (f,first) <- holding [ov] (getMethod ov m pl)
   callWith pos f first (backTo pos (starEach [] X.env)) (backToKw pos (keywordEach [] X.env))):=by rfl) :
  PE X (.Call (.Attribute o m apos) [] [] pos) (qs4 C m sp dvs E ta qm2):=by
 intro pins s σ H Q I h;refine PySem.W.methodCall_KW (pl:=pl) (thn (he pins s σ H _ I h) λu s1 hq__=>?_) ht;obtain ⟨x,H1,I1,rx,a,dx,fs,ex,ea,l,q⟩:=hq__;subst ex;obtain rfl:u=Value.ref a:=rx;refine qev I1 ea c hm l ?_;exact PySem.W.callWith_K0 (first:=[.ref a]) I1.kIn hm.kp (qqb (us:=[.ref a]) (vs:=[.ref a]) F hr hb hd hx I1 (.cons rfl .nil) q)
structure Mk (K:Frag) (C f:Addr):Prop where
 makes:PySem.W.makesIn K C=true
 init:PySem.W.findIn K (.ref C) "__init__" = some (some (.ref f))
 fn:PySem.W.isFn K (.ref f)=true
 kp:keepIn K (.ref C)=true
theorem qs6 {pins:List (Addr×Obj)} {σ:St} {H:Hp} {s:Shared} {Q:VK} {us:List Value} {vs:List V} (M:Mk X.K C f) (F:qfy X.prog X.w X.K X.mg X.base CX k f fd ps sp) (hr:Room (k+1) X.A) (hb:Binds X.K fd ps ds) (hd:Vals dvs ds)
  (hx:qhw CX X E) (I:Inv X pins σ H s) (r:Vals vs us)
  (h:∀ x dx,H x=none->H dx=none->dx≠x->sp (.ref x :: (vs ++ dvs)) (upd (upd H dx (.own x)) x (.ins C dx [])) (λv H2=>v=.non/\Q (.ref x) H2) E) :
  wpAny (model X.prog X.w) X.A (call (.ref C) us) (EP X pins σ Q) X.xe s:=by
 have hq:=h (s.heap.objs.size+1) s.heap.objs.size (I.hok.fresh (Nat.le_succ _)) (I.hok.fresh (Nat.le_refl _)) (Nat.ne_of_lt (Nat.lt_succ_self _));have I2:=Inv.made (C:=C) I;have r2:Vals (V.ref (s.heap.objs.size+1) :: (vs ++ dvs)) (Value.ref (s.heap.objs.size+1) :: (us ++ ds)):=.cons rfl (r.append hd);have hl:(Value.ref (s.heap.objs.size+1) :: us ++ ds).length=ps.length:=by
  have e:=r2.length;rw[F.len _ _ _ _ hq] at e;exact e.symm
 refine wpAny_call (qs3 (f:=f) I.kIn M.makes M.init (beq_iff_eq.mp M.fn) (codeAny_mono (F.run _ X.stack _ _ ⟨Value.ref (s.heap.objs.size+1) :: us,[]⟩ (Value.ref (s.heap.objs.size+1) :: (us ++ ds)) _ _ E (hr.make C us [])
  (I2.env0.make C us []) (hb _ (Value.ref (s.heap.objs.size+1) :: us) I2.kIn hl) r2 hq) λr s' hq'=>?_))
 cases r with
 | error e=>exact hx pins σ _ _ e s' I2 hq'
 | ok fl =>
  cases fl with
  | ret u =>
   obtain ⟨v,H',I3,rv,ev,q3⟩:=I2.after hq';subst ev;exact ⟨rv,⟨V.ref (s.heap.objs.size+1),H',I3,rfl,q3⟩⟩
  | next=>exact False.elim hq'
  | brk=>exact False.elim hq'
  | cont=>exact False.elim hq'
end
section
variable {X:Cx} {CX:CXT} {k:Nat} {f C:Addr} {fd:FuncData} {ps ks:List Str} {sp:Sp} {E:XK} {x m:Str} {p pos apos kpos:Pos} {e o:Expr} {es:List Expr} {kws:List Keyword} {te ta:TE} {t tk:TA} {nm:Option Str}
variable {g:List Value->List Value->List Value} {gV:List V->List V->List V}
end
structure qag (N P:List Str) (sc:Scope):Prop where
 kind:sc.kind=.function
 co:sc.isCoroutine=false
 gen:sc.isGenerator=false
 nd:N.Nodup
 pre:N.take P.length=P
 par:∀ x∈P,sc.names.lookup x=some .local\/sc.names.lookup x=some .cell
 nofree:∀ y∈sc.names,y.2≠.free
theorem qjy {kindOf:Str->Option NameKind} {x:Str}:∀ {binds:List (Str×Value)} {m:Str->Option Value},(∀ v,(x,v) ∉ binds)->bindL kindOf binds m x=m x
 | [],_,_=>rfl
 | (n,v) :: r,m,h=>by
  unfold bindL;rw[qjy λw hw=>h w (List.mem_cons_of_mem _ hw)]
  split
  ·have:x≠n:=by rintro rfl;exact h v List.mem_cons_self
   simp[this]
  ·rfl
theorem qjz {kindOf:Str->Option NameKind} {x:Str}:∀ {binds:List (Str×Value)} {m:Str->Option Value},(∀ v,(x,v) ∉ binds)->bindC kindOf binds m x=m x
 | [],_,_=>rfl
 | (n,v) :: r,m,h=>by
  unfold bindC;rw[qjz λw hw=>h w (List.mem_cons_of_mem _ hw)]
  split
  ·rfl
  ·have:x≠n:=by rintro rfl;exact h v List.mem_cons_self
   simp[this]
theorem qj0 {kindOf:Str->Option NameKind} {x:Str} {v:Value}:∀ {P:List Str} {vs:List Value} {i:Nat} {m:Str->Option Value},P.Nodup->P[i]?=some x->vs[i]?=some v->kindOf x=some .local ->
  bindL kindOf (P.zip vs) m x=some v
 | [],_,_,_,_,h,_,_=>by simp at h
 | _ :: _,[],_,_,_,_,h,_=>by simp at h
 | p :: P,w :: vs,0,m,nd,h1,h2,hk=>by
  simp at h1 h2;subst h1;subst h2
  show bindL kindOf ((p,w) :: P.zip vs) m p=_
  unfold bindL;rw[qjy λv hv=>(List.nodup_cons.mp nd).1 (List.of_mem_zip hv).1,if_pos hk]
  simp
 | p :: P,w :: vs,i+1,m,nd,h1,h2,hk=>by
  show bindL kindOf ((p,w) :: P.zip vs) m x=_
  unfold bindL;exact qj0 (i:=i) (List.nodup_cons.mp nd).2 (by simpa using h1) (by simpa using h2) hk
theorem qj1 {kindOf:Str->Option NameKind} {x:Str} {v:Value}:∀ {P:List Str} {vs:List Value} {i:Nat} {m:Str->Option Value},P.Nodup->P[i]?=some x->vs[i]?=some v->kindOf x≠some .local ->
  bindC kindOf (P.zip vs) m x=some v
 | [],_,_,_,_,h,_,_=>by simp at h
 | _ :: _,[],_,_,_,_,h,_=>by simp at h
 | p :: P,w :: vs,0,m,nd,h1,h2,hk=>by
  simp at h1 h2;subst h1;subst h2
  show bindC kindOf ((p,w) :: P.zip vs) m p=_
  unfold bindC;rw[qjz λv hv=>(List.nodup_cons.mp nd).1 (List.of_mem_zip hv).1,if_neg hk]
  simp
 | p :: P,w :: vs,i+1,m,nd,h1,h2,hk=>by
  show bindC kindOf ((p,w) :: P.zip vs) m x=_
  unfold bindC;exact qj1 (i:=i) (List.nodup_cons.mp nd).2 (by simpa using h1) (by simpa using h2) hk
def start (N:List Str) (vs:List V):St:=vs.map some ++ List.replicate (N.length-vs.length) none
def qpp (CX:CXT) (P:Program) (w:World) (K:Frag) (mg:Str->Option Value) (base:Heap) (N:List Str) (qual:Str) (scope:Scope) (f:Addr) (cd:Value) (A:Around) (outer:List Env) (s:Shared) (H:Hp) (E:XK):Cx where
 prog:=P
 w:=w
 K:=K
 mg:=mg
 base:=base
 A:=A.deeper (envOfC qual scope s.heap.objs.size f cd)
 N:=N
 s₀:=s
 H₀:=H
 env:=envOfC qual scope s.heap.objs.size f cd
 outer:=outer
 stack:=envOfC qual scope s.heap.objs.size f cd :: outer
 ex:=[]
 calm:=true
 fn:=λ_=>true
 pn:=[]
 xe:=λe s'=>wpAny (model P w) (A.deeper (envOfC qual scope s.heap.objs.size f cd)) (leaving (envOfC qual scope s.heap.objs.size f cd) e) (λ_ s''=>CX outer H s E e s'') (λe' s''=>CX outer H s E e' s'') s'
theorem qm3 {sc:Scope} {n:Nat} {x:Str} (h:sc.names.lookup x=some .cell):∃ c,(cellsFrom n sc.names []).lookup x=some c:=by
 have q:=PySem.W.cellsFrom_some sc.names n [] (.inl h);exact Option.isSome_iff_exists.mp q
theorem qqc {CX:CXT} {P:Program} {w:World} {K:Frag} {mg:Str->Option Value} {base:Heap} {N ps:List Str} {qual:Str} {scope:Scope} {f:Addr} {cd:Value} {A:Around} {outer:List Env} {s s1:Shared} {H:Hp} {E:XK} {us:List Value} {vs:List V}
  (S:qag N ps scope) (hd:A.handled=none) (e0:Env0 P w K mg base A outer s H) (hl:vs.length=ps.length) (r:Vals vs us)
  (x:InCallC s s.heap.objs.size (bindL (envOfC qual scope s.heap.objs.size f cd).kindOf (ps.zip us) λ_=>none) (cellsFrom (s.heap.objs.size+1) scope.names []) (bindC (envOfC qual scope s.heap.objs.size f cd).kindOf (ps.zip us) λ_=>none) s1) :
  Inv (qpp CX P w K mg base N qual scope f cd A outer s H E) [] (start N vs) H s1:=by
 have hpl:ps.length<=N.length:=by have:=congrArg List.length S.pre;rw[List.length_take] at this;omega
 obtain ⟨h1,tk,rfl,hk⟩:=x.done;have noA:∀ b:Addr,b ∉ (qpp CX P w K mg base N qual scope f cd A outer s H E).ex:=λb z=>absurd (show b∈([]:List Addr) from z) (by simp)
 refine ⟨⟨e0.mod,S.kind,rfl,rfl,Nat.le_refl _,λy z c h1 h2=>?_,λy hy=>?_,λy c _ h=>?_,λ_=>hd,Around.frames_deeper e0.frames,.inr ⟨rfl,rfl⟩,λb z=>absurd z (noA b),e0.bs,e0.bsz,λb _ _=>noA b,λb z=>absurd z (noA b),e0.funs,e0.frf⟩,
  rfl,e0.bare,Un.kept hk,⟨_,x.toInCall.ns,λi y v h1 h2 h3=>?_⟩,λy c h=>⟨_,x.cell y c h⟩,e0.hok.fresh (Nat.le_refl _),λy c h=>?_,λp hp=>absurd (show p∈([]:List (Addr×Obj)) from hp) (by simp),e0.hok.kept hk,?_⟩
 ·exact name_of_addr x.apart (PySem.mem_of_lookup h1) (PySem.mem_of_lookup h2)
 ·have hy:scope.names.lookup y=some .cell\/scope.names.lookup y=some .free:=hy
  rcases hy with hy|hy
  ·exact qm3 hy
  ·exact absurd rfl (S.nofree _ (PySem.mem_of_lookup hy))
 ·exact Nat.le_of_lt (x.above y c (PySem.mem_of_lookup h))
 ·have hi:i<vs.length:=by
   unfold start at h2
   by_cases hi:i<vs.length
   ·exact hi
   ·rw[List.getElem?_append_right (by simpa using hi)] at h2
    rw[List.getElem?_replicate] at h2
    split at h2<;>cases h2
  have ha:vs[i]?=some v:=by
   unfold start at h2;rw[List.getElem?_append_left (by simpa using hi),List.getElem?_map] at h2
   cases e:vs[i]? with
   | none=>rw[e] at h2;cases h2
   | some a=>rw[e] at h2;cases h2;rfl
  obtain ⟨u,hu,rv⟩:=r.get ha;have hp:ps[i]?=some y:=by
   rw[<- S.pre,List.getElem?_take_of_lt (by omega)];exact h1
  have ndP:ps.Nodup:=by rw[<- S.pre];exact S.nd.sublist (List.take_sublist _ _)
  refine ⟨u,rv,?_⟩
  rcases S.par y (List.mem_of_getElem? hp) with k|k
  ·exact .inl ⟨k,qj0 ndP hp hu k⟩
  ·obtain ⟨c,e⟩:=qm3 (n:=s.heap.objs.size+1) k
   refine .inr ⟨.inl k,c,e,?_⟩;have q:=x.cell y c e;rw[qj1 ndP hp hu (by show scope.names.lookup y≠_;rw[k];decide)] at q;exact q
 ·exact e0.hok.fresh (Nat.le_of_lt (x.above y c (PySem.mem_of_lookup h)))
 ·unfold start
  show _=N.length
  rw[List.length_append,List.length_map,List.length_replicate];omega
theorem qs7 {CX:CXT} {P:Program} {w:World} {K:Frag} {mg:Str->Option Value} {base:Heap} {k:Nat} {f:Addr} {name qual:Str} {params:Arguments} {body:List Stmt} {scope:Scope} {dV kV doc pm cdv ct oc:Value} {an od:Option Addr}
  {osl:Array (Option Value)} {N ps:List Str} {sp:Sp} (lk:K.lookup f=some ⟨oc,od,.func (fnOf name qual params body scope dV kV doc pm an cdv ct),osl⟩) (hcd:codeIn K cdv qual=true) (S:qag N ps scope)
  (len:∀ vs H Q E,sp vs H Q E->vs.length=ps.length)
  (hbody:∀ (A:Around) (outer:List Env) (s:Shared) (H:Hp) (vs:List V) (Q:VK) (E:XK),Room k (A.deeper (envOfC qual scope s.heap.objs.size f cdv))->sp vs H Q E ->
   ∃ t,PSs (qpp CX P w K mg base N qual scope f cdv A outer s H E) body t/\t { nx:=λ_ H'=>Q .non H',rt:=Q } (start N vs) H) :
  qfy P w K mg base CX (k+1) f (fnOf name qual params body scope dV kV doc pm an cdv ct) ps sp:=by
 refine ⟨len,λA outer s H args us vs Q E hr e0 hb r hsp=>?_⟩;have hl:=len _ _ _ _ hsp;have KX:K.In s.heap:=e0.mod.kin.keeps λb o e=>(e0.bs b o e).1
 have lim:s.heap.NoLimit:=e0.mod.nolimit.keeps λb o e=>(e0.bs b o e).1
 have hkind:∀ y∈ps.zip us,scope.names.lookup y.1=some .local\/(scope.names.lookup y.1=some .cell/\((cellsFrom (s.heap.objs.size+1) scope.names []).lookup y.1).isSome=true):=fun ⟨n,v⟩ hy=>by
  rcases S.par n (List.of_mem_zip hy).1 with q|q
  ·exact .inl q
  ·exact .inr ⟨q,PySem.W.cellsFrom_some _ _ _ (.inl q)⟩
 refine codeAny_call_function hr.depth (KX _ _ lk) rfl S.co S.gen rfl (PySem.W.codeRec_of KX hcd) (hb _ _ _ _ ?_);refine wpAny_newFunctionEnv_cells S.kind hkind λenv he s1 x=>?_
 subst he;refine ⟨lim.keeps x.toInCall.keep,codeAny_func ?_⟩;obtain ⟨t,ht,hq⟩:=hbody A outer s H vs Q E (hr.deeper _) hsp;have I:Inv (qpp CX P w K mg base N qual scope f cdv A outer s H E) [] (start N vs) H s1:=qqc S hr.hd e0 hl r x;refine wpAny_mono (ht [] s1 (start N vs) H _ I hq) (λfl s' hs=>?_) λe s' hs=>hs
 have fin:∀ {σ':St} {H':Hp} {v:V} {u:Value},Inv (qpp CX P w K mg base N qual scope f cdv A outer s H E) [] σ' H' s'->RelV v u->Q v H'->CE outer P w H s Q u s':=
  fun {σ' H' v u} J rv q=>⟨v,H',J.os,J.bare,J.base,J.hok,rv,q⟩
 cases fl with
 | ret u =>
  obtain ⟨v,σ',H',J,rv,q⟩:=hs;exact fin J rv q
 | next =>
  obtain ⟨σ',H',J,q⟩:=hs;exact fin (v:=V.non) (u:=Value.none) J rfl q
 | brk =>
  obtain ⟨_,_,_,q⟩:=hs;exact False.elim q
 | cont =>
  obtain ⟨_,_,_,q⟩:=hs;exact False.elim q
open PySem PySem.Spec PyProof.Rows
section
variable {X:Cx} {x:Str} {p pos:Pos} {e:Expr} {es:List Expr} {t:TA} {id T:String} {r:List V->Hp->VK->Prop}
def tCB (r:List V->Hp->VK->Prop) (t:TA):TE:=λσ H Q=>t σ H λvs H1=>r vs H1 Q
theorem qai (hc:CallR X (.builtin id) r) (hg:Gl X x) (hm:X.mg x=none) (hv:bootBuiltins x=some (.builtin id)) (ha:PA X (e :: es) t) (hn:x ≠ "__name__" :=by decide) (hdb:(x == ("__debug__" : Str))=false:=by decide)
  (he:starEach (e :: es) X.env=(false,eval e X.env) :: starEach es X.env:=by rfl) (hpl:(backTo pos (starEach es X.env)).any (·.1)=false:=by rfl):PE X (.Call (.Name x p) (e :: es) [] pos) (tCB r t):=by
 intro pins s σ H Q I h;refine wpAny_Call_Name_kw (qjt I hg hm hv ?_ hn hdb);exact PyProof.Rows.callWith_builtin1 (thn (ha pos pins s σ H _ I h) λus s1 ⟨vs,H1,I1,r1,q1⟩=>hc pins s1 σ H1 vs us Q I1 r1 q1) he hpl
theorem qbk (hc:CallR X (.type T) r) (hg:Gl X x) (hm:X.mg x=none) (hv:bootBuiltins x=some (.type T)) (ha:PA X (e :: es) t) (hn:x ≠ "__name__" :=by decide) (hdb:(x == ("__debug__" : Str))=false:=by decide)
  (he:starEach (e :: es) X.env=(false,eval e X.env) :: starEach es X.env:=by rfl) (hpl:(backTo pos (starEach es X.env)).any (·.1)=false:=by rfl):PE X (.Call (.Name x p) (e :: es) [] pos) (tCB r t):=by
 intro pins s σ H Q I h;refine wpAny_Call_Name_kw (qjt I hg hm hv ?_ hn hdb);exact PyProof.Rows.callWith_type1 (thn (ha pos pins s σ H _ I h) λus s1 ⟨vs,H1,I1,r1,q1⟩=>hc pins s1 σ H1 vs us Q I1 r1 q1) he hpl
end
end L2
namespace HT
open PySem PyProof.Rows
section
open PySem.SeqAt
open PySem.AutoSeq1 (wpAny_loadPart')
open PySem.MeetsSeq PySem.MeetsSeq2 PySem.MeetsSeq3
end
section
variable {prog:Program} {w:World} {A:Around} {E:Value->Shared->Prop} {s:Shared}
theorem cat_tup {t b:Addr} {vs ws:List Value} {Q:Value->Shared->Prop} (ht:IsTup s.heap t vs.toArray) (hb:IsTup s.heap b ws.toArray) (hv:vs≠[])
  (h1:ws=[]->Q (.ref t) s) (h2:ws≠[]->Q (.ref s.heap.objs.size) { s with heap:=s.heap.push { cls:=.type "tuple",data:=.seq (vs ++ ws).toArray } })
  (hsz:vs.length+ws.length<=sizeLine):wpAny (model prog w) A (binaryOp .Add (.ref t) (.ref b)) Q E s:=by
 obtain ⟨⟨cls,dd,data,sl⟩,ho,hc,n,hd⟩:=id ht;obtain ⟨⟨cls2,dd2,data2,sl2⟩,ho2,hc2,n2,hd2⟩:=id hb;simp only at hc hd hc2 hd2;subst hc hd hc2 hd2;have e:vs.toArray ++ ws.toArray=(vs ++ ws).toArray:=by simp
 by_cases hw:ws=[]
 ·exact concat_meets ⟨_,ho,rfl⟩ ⟨_,ho2,rfl⟩ noFill_tuple_add seq_tuple_add PySem.F.slot_tuple_add PySem.F.entry_tuple_add (PySem.F.args_tuple_add_2 _ _)
   (tuple_addW1 t b vs.toArray ws.toArray n n2 dd dd2 sl sl2 (by simpa using hv) (by simp[hw])) ⟨ho,ho2,h1 hw⟩
 ·refine concat_meets ⟨_,ho,rfl⟩ ⟨_,ho2,rfl⟩ noFill_tuple_add seq_tuple_add PySem.F.slot_tuple_add PySem.F.entry_tuple_add (PySem.F.args_tuple_add_2 _ _)
   (tuple_addW2 t b vs.toArray ws.toArray n n2 dd dd2 sl sl2 (by simpa using hv) (by simpa using hw) (by rw[List.size_toArray,List.size_toArray];exact hsz)) ⟨ho,ho2,?_⟩
  rw[e];exact h2 hw
def sIx (n d:Nat):Option Int->Nat
 | none=>d
 | some v=>if v<0 then (v+(n:Int)).toNat else min v.toNat n
theorem sIx_none (n d:Nat):sIx n d none=d:=rfl
theorem sIx_nat (n d k:Nat):sIx n d (some (k:Int))=min k n:=by
 show (if (k:Int)<0 then ((k:Int)+(n:Int)).toNat else min (k:Int).toNat n)=min k n
 rw[if_neg (by omega),Int.toNat_natCast]
end
end HT
namespace L2
open PySem PySem.Spec PyProof.Rows
abbrev TO:=St->Hp->(Option Int->Hp->Prop)->Prop
def PO (X:Cx) (e:Option Expr) (t:TO):Prop:=
 ∀ (pins:List (Addr×Obj)) (s:Shared) (σ:St) (H:Hp) (Q:Option Int->Hp->Prop),Inv X pins σ H s->t σ H Q ->
  wpAny (model X.prog X.w) X.A (evalPart e X.env) (λu s'=>∃ o H',Inv X pins σ H' s'/\IsPart u o/\Q o H') X.xe s
def qv4:TO:=λ_ H Q=>Q none H
inductive tPartS (x:V) (H:Hp) (Q:Option Int->Hp->Prop):Prop
 | mk (i:Int) (h:x=.int i) (k:Q (some i) H)
def qBd (t:TE):TO:=λσ H Q=>t σ H λx H1=>tPartS x H1 Q
theorem intsAre_of {ns:List Int}:∀ {us:List Value},Vals (ns.map V.int) us->IntsAre us ns:=by
 induction ns with
 | nil=>intro us r;rw[List.map_nil] at r;cases r;exact .nil
 | cons n ns ih =>
  intro us r;rw[List.map_cons] at r
  cases r with
  | cons r1 r2 =>
   obtain ⟨t,e⟩:=r1;subst e;exact .cons n t (ih r2)
section
variable {X:Cx} {e:Expr} {te:TE} {lo hi:Option Expr} {tl th:TO} {pos p2:Pos}
theorem qcf:PO X none qv4:=by
 intro pins s σ H Q I h;rw[evalPart_none];exact wpAny_pure ⟨none,H,I,.none,h⟩
theorem qb0 (h:PE X e te):PO X (some e) (qBd te):=by
 intro pins s σ H Q I hw;rw[evalPart_some];refine thn (h pins s σ H _ I hw) λu s1 hq__=>?_
 obtain ⟨x,H1,I1,r1,q1⟩:=hq__;obtain ⟨i,rfl,q⟩:=q1;obtain ⟨t,rfl⟩:=r1;exact ⟨some i,H1,I1,.int i t,q⟩
def SlR (X:Cx) (r:V->Option Int->Option Int->Hp->VK->Prop):Prop:=
 ∀ (pins:List (Addr×Obj)) (s:Shared) (σ:St) (H:Hp) (x:V) (v vl vu:Value) (lo hi:Option Int) (sl:Addr) (Q:VK),Inv X pins σ H s->RelV x v->s.heap.IsSliceOf sl vl vu .none->IsPart vl lo->IsPart vu hi->r x lo hi H Q ->
  ∃ T id,typeLookup (.type T) "__getitem__" = pure (some (.builtin id))/\s.TypeIs v T/\wpAny (model X.prog X.w) X.A (getItem v (.ref sl)) (EP X pins σ Q) X.xe s
def tSl (r:V->Option Int->Option Int->Hp->VK->Prop) (te:TE) (tl th:TO):TE:=λσ H Q=>te σ H λx H1=>tl σ H1 λl H2=>th σ H2 λu H3=>r x l u H3 Q
theorem qbq {r:V->Option Int->Option Int->Hp->VK->Prop} (hr:SlR X r) (he:PE X e te) (hl:PO X lo tl) (hu:PO X hi th):PE X (.Subscript e (.Slice lo hi none p2) pos) (tSl r te tl th):=by
 intro pins s σ H Q I h;refine Subscript_ (thn (he pins s σ H _ I h) λv s1 hq__=>?_);obtain ⟨x,H1,I1,r1,q1⟩:=hq__;refine wpAny_Slice (thn (hl pins s1 σ H1 _ I1 q1) λvl s2 ⟨l,H2,I2,pl,q2⟩=>thn (hu pins s2 σ H2 _ I2 q2) λvu s3 hq__=>?_);obtain ⟨u,H3,I3,pu,q3⟩:=hq__;rw[evalPart_none];refine wpAny_pure ?_;have I4:Inv X pins σ H3 { s3 with heap:=s3.heap.push { cls:=.type "slice",data:=.fields #[vl,vu,.none] } }:=I3.kept (t':=s3.toks) λb ob q=>Heap.get?_push_of_some _ q
 obtain ⟨T,id,hT,ht,hg⟩:=hr pins { s3 with heap:=s3.heap.push { cls:=.type "slice",data:=.fields #[vl,vu,.none] } } σ H3 x v vl vu l u s3.heap.objs.size Q I4 r1 (Heap.IsSliceOf.new ..) pl pu q3
 show wpAny (model X.prog X.w) X.A (subscriptTail e (.Slice lo hi none p2) v (.ref s3.heap.objs.size)) (EP X pins σ Q) X.xe { s3 with heap:=s3.heap.push { cls:=.type "slice",data:=.fields #[vl,vu,.none] } }
 exact tail_any (ops:=[.ref s3.heap.objs.size,v]) ht hT hg (by with_unfolding_all rfl)
def qj2 (xs:List V) (lo hi:Option Int):List V:=(xs.drop (HT.sIx xs.length 0 lo)).take (HT.sIx xs.length xs.length hi-HT.sIx xs.length 0 lo)
theorem ql4 (xs:List V) (lo hi:Option Int):(qj2 xs lo hi).length<=xs.length:=by
 unfold qj2;rw[List.length_take,List.length_drop];omega
def qBe (K:Frag):R2:=λx y H Q=>∃ a b xs ys,x=.ref a/\y=.ref b/\SqT K H a xs/\SqT K H b ys/\xs≠[]/\xs.length+ys.length<=sizeLine /\
 (ys=[]->Q (.ref a) H)/\(ys≠[]->∀ p,H p=none->Q (.ref p) (upd H p (.tup (xs ++ ys))))
theorem Vals.nil_iff {xs:List V} {us:List Value} (r:Vals xs us):us=[]↔xs=[]:=by
 cases r with
 | nil=>simp
 | cons _ _=>simp
theorem op_catT:OpR X (binaryOp .Add) (qBe X.K):=by
 intro pins s σ H x y v u Q I rx ry h;obtain ⟨a,b,xs,ys,rfl,rfl,ha,hb,hx,hz,q1,q2⟩:=h;cases rx;cases ry;obtain ⟨its,r1,p1,_⟩:=I.tuple ha;obtain ⟨its2,r2,p2,_⟩:=I.tuple hb;refine HT.cat_tup p1 p2 (λz=>hx (r1.nil_iff.mp z)) (λz=>⟨.ref a,H,I,rfl,q1 (r2.nil_iff.mp z)⟩) (λz=>?_) (by rw[<- r1.length,<- r2.length];exact hz);refine ⟨.ref s.heap.objs.size,_,I.laid (t':=s.toks) (o:=.tup (xs ++ ys)) (λb ob q=>Heap.get?_push_of_some _ q) (Nat.le_refl _) ?_,rfl,q2 (λw=>z (r2.nil_iff.mpr w)) _ (I.hok.fresh (Nat.le_refl _))⟩;exact ⟨by rw[List.length_append];exact hz,_,r1.append r2,IsTup.new _ _⟩
end
open PySem PySem.Spec PyProof.Rows
def ixN (n:Nat) (i:Int):Option Nat:=if 0<=i then (if i<n then some i.toNat else none) else if -(n:Int)<=i then some (i+n).toNat else none
def atI {α:Type} (xs:List α) (i:Int):Option α:=(ixN xs.length i).bind λj=>xs[j]?
theorem qv5 {n:Nat} {i:Int} {j:Nat} (h:ixN n i=some j):seqIndex? i n=some j/\j<n /\ -(n:Int)<=i/\i<n:=by
 unfold ixN at h
 by_cases h0:0<=i
 ·rw[if_pos h0] at h
  by_cases h1:i<n
  ·rw[if_pos h1] at h
   have e:i.toNat=j:=Option.some.inj h;exact ⟨by rw[seqIndex_of h0 h1,e],by omega,by omega,h1⟩
  ·rw[if_neg h1] at h;cases h
 ·rw[if_neg h0] at h
  by_cases h1:-(n:Int)<=i
  ·rw[if_pos h1] at h
   have e:(i+n).toNat=j:=Option.some.inj h;exact ⟨by rw[seqIndex_neg (by omega) h1,e],by omega,h1,by omega⟩
  ·rw[if_neg h1] at h;cases h
theorem qqd {α:Type} {xs:List α} {i:Int} {v:α} (h:atI xs i=some v):∃ j,seqIndex? i xs.length=some j/\xs[j]?=some v/\j<xs.length /\ -(xs.length:Int)<=i/\i<xs.length:=by
 unfold atI at h
 cases e:ixN xs.length i with
 | none=>rw[e] at h;cases h
 | some j =>
  rw[e] at h;obtain ⟨h1,h2,h3,h4⟩:=qv5 e;exact ⟨j,h1,h,h2,h3,h4⟩
theorem qdc {α:Type} {xs:List α} {j:Nat} {v:α} (h:xs[j]?=some v):atI xs (j:Int)=some v:=by
 have hj:j<xs.length:=(List.getElem?_eq_some_iff.mp h).1;have e:ixN xs.length (j:Int)=some j:=by
  unfold ixN;rw[if_pos (by omega),if_pos (by omega)];simp
 unfold atI;rw[e];exact h
def ql5 (b:Expr):Prop:=∀ o i,subscripted b false o i=operate [o,i] (getItem o i)
def IxR (X:Cx) (r:R2):Prop:=
 ∀ (value slice:Expr) (pins:List (Addr×Obj)) (s:Shared) (σ:St) (H:Hp) (x y:V) (v u:Value) (Q:VK),Inv X pins σ H s->RelV x v->RelV y u->r x y H Q ->
  subscripted slice false v u=operate [v,u] (getItem v u)->wpAny (model X.prog X.w) X.A (subscriptTail value slice v u) (EP X pins σ Q) X.xe s
def MtR (X:Cx) (id:String) (r:V->List V->Hp->VK->Prop):Prop:=
 ∀ (pins:List (Addr×Obj)) (s:Shared) (σ:St) (H:Hp) (x:V) (xs:List V) (v:Value) (us:List Value) (Q:VK),Inv X pins σ H s->RelV x v->Vals xs us->r x xs H Q ->
  wpAny (model X.prog X.w) X.A (call (.builtin id) (v :: us)) (EP X pins σ Q) X.xe s
section
variable {X:Cx} {a b:Expr} {ta tb:TE} {pos:Pos}
theorem ql6 {r:R2} (hr:IxR X r) (ha:PE X a ta) (hb:PE X b tb) (hs:ql5 b):PE X (.Subscript a b pos) (tOp r ta tb):=by
 intro pins s σ H Q I h;exact Subscript_ (qAs ha hb I h λv u s2 x y H2 I2 rx ry q=>hr a b pins s2 σ H2 x y v u Q I2 rx ry q (hs _ _))
inductive rIxLS (K:Frag) (x y:V) (H:Hp) (Q:VK):Prop
 | mk (p:Addr) (xs:List V) (i:Int) (v:V) (hx:x=.ref p) (hy:y=.int i) (hs:SqL K H p xs) (ha:atI xs i=some v) (k:Q v H)
def qyg (K:Frag):R2:=λx y H Q=>rIxLS K x y H Q
inductive rIxTS (K:Frag) (x y:V) (H:Hp) (Q:VK):Prop
 | mk (p:Addr) (xs:List V) (i:Int) (v:V) (hx:x=.ref p) (hy:y=.int i) (hs:SqT K H p xs) (ha:atI xs i=some v) (k:Q v H)
def qAu (K:Frag):R2:=λx y H Q=>rIxTS K x y H Q
theorem qiu:IxR X (qyg X.K):=by
 intro value slice pins s σ H x y v u Q I rx ry h hs;obtain ⟨p,xs,i,z,rfl,rfl,hq,he,q⟩:=h;cases rx;obtain ⟨t,rfl⟩:=ry;obtain ⟨its,r,pl,hz⟩:=I.list hq;obtain ⟨j,h1,h2,h3,h4,h5⟩:=qqd he;obtain ⟨w,ew,rw'⟩:=r.get h2;have hl:=r.length;have hn:=qm1;have fin:EP X pins σ Q w s:=⟨z,H,I,rw',q⟩
 by_cases h0:0<=i
 ·have hj:i.toNat=j:=by
   rw[seqIndex_of h0 h5] at h1;exact Option.some.inj h1
  exact item_listR pl.isList h0 (by omega) (by rw[hj];simpa using ew) fin hs
 ·have hj:(i+(its.toArray.size:Int)).toNat=j:=by
   rw[seqIndex_neg (by omega) h4] at h1;rw[List.size_toArray,<- hl];exact Option.some.inj h1
  exact subscriptTail_builtinR (x:=w) pl.isList.typeIs slot_list_getitem.lookup
   (wpAny_getItem_list_neg (Q:=λr s'=>r=w/\EP X pins σ Q r s') pl.isList (by omega) (by rw[List.size_toArray]<;>omega) (by omega) (by rw[hj];simpa using ew) ⟨rfl,fin⟩) hs
theorem qqe:IxR X (qAu X.K):=by
 intro value slice pins s σ H x y v u Q I rx ry h hs;obtain ⟨p,xs,i,z,rfl,rfl,hq,he,q⟩:=h;cases rx;obtain ⟨t,rfl⟩:=ry;obtain ⟨its,r,pl,hz⟩:=I.tuple hq;obtain ⟨j,h1,h2,h3,h4,h5⟩:=qqd he;obtain ⟨w,ew,rw'⟩:=r.get h2;have hl:=r.length;have hn:=qm1;have fin:EP X pins σ Q w s:=⟨z,H,I,rw',q⟩;exact subscriptTail_builtinR (x:=w) pl.typeIs slot_tuple_getitem.lookup
  (getItem_tuple (j:=j) (Q:=λr s'=>r=w/\EP X pins σ Q r s') pl (by omega) (by omega) (by rw[List.size_toArray,<- hl];exact h1) (by simpa using ew) ⟨rfl,fin⟩) hs
theorem qj3 (lo hi:Option Int) (n:Nat):(sliceBounds lo hi none n).1=((HT.sIx n 0 lo:Nat):Int)/\(sliceBounds lo hi none n).2.1=((HT.sIx n n hi:Nat):Int)/\(sliceBounds lo hi none n).2.2=1:=by
 refine ⟨?_,?_,rfl⟩
 ·cases lo with
  | none=>simp[sliceBounds,HT.sIx]
  | some i =>
   simp only[sliceBounds,HT.sIx,Option.getD_none,show (1:Int)>0 by decide,if_true]
   by_cases h:i<0
   ·simp only[h,if_true]<;>omega
   ·simp only[h,if_false]<;>omega
 ·cases hi with
  | none=>simp[sliceBounds,HT.sIx]
  | some i =>
   simp only[sliceBounds,HT.sIx,Option.getD_none,show (1:Int)>0 by decide,if_true]
   by_cases h:i<0
   ·simp only[h,if_true]<;>omega
   ·simp only[h,if_false]<;>omega
theorem qiv (its:List Value) (lo hi:Option Int):slicePick its.toArray lo hi none=((its.drop (HT.sIx its.length 0 lo)).take (HT.sIx its.length its.length hi-HT.sIx its.length 0 lo)).toArray:=by
 obtain ⟨h1,h2,h3⟩:=qj3 lo hi its.toArray.size;unfold slicePick;rw[h1,h2,h3];simp only[sliceRange_one,pick_run,List.size_toArray]<;>rfl
def qC6 (K:Frag):V->Option Int->Option Int->Hp->VK->Prop:=λx lo hi H Q=>∃ a xs,x=.ref a/\SqL K H a xs/\∀ p,H p=none->Q (.ref p) (upd H p (.lst (qj2 xs lo hi)))
theorem qv6:SlR X (qC6 X.K):=by
 intro pins s σ H x v vl vu lo hi sl Q I rx hs pl pu h;obtain ⟨a,xs,rfl,hx,q⟩:=h;cases rx;obtain ⟨its,r,ht,hz⟩:=I.list hx;have hlen:=r.length;refine ⟨"list",_,slot_list_getitem.lookup,ht.isList.typeIs,?_⟩;refine wpAny_getItem_list_slice ht.isList hs pl pu .none (by simp) ?_ (by rw[List.size_toArray]<;>omega);rw[qiv,<- hlen];refine ⟨.ref s.heap.objs.size,_,I.laid (t':=s.toks) (o:=.lst (qj2 xs lo hi)) (λb ob q=>Heap.get?_push_of_some _ q) (Nat.le_refl _) ?_,rfl,q _ (I.hok.fresh (Nat.le_refl _))⟩;exact ⟨Nat.le_trans (ql4 xs lo hi) hz,_,0,(r.drop (HT.sIx xs.length 0 lo)).take (HT.sIx xs.length xs.length hi-HT.sIx xs.length 0 lo),Heap.get?_push_size _ rfl⟩
def qiw:V->Bool
 | .non=>true
 | .bl _=>true
 | .int _=>true
 | .str _=>true
 | _=>false
def eqV:V->V->Bool
 | .non,.non=>true
 | .bl a,.bl b=>a == b
 | .bl a,.int b=>(if a then 1 else 0) == b
 | .int a,.bl b=>a == (if b then 1 else 0)
 | .int a,.int b=>a == b
 | .str a,.str b=>a == b
 | _,_=>false
theorem qyh {A:Around} {s:Shared} {y x:V} {u v:Value} (ry:RelV y u) (rx:RelV x v) (fy:qiw y=true) (fx:qiw x=true):SeqAt.EqAt A s u v (eqV y x):=by
 cases y with
 | non =>
  cases ry
  cases x with
  | non=>cases rx;exact SeqAt.EqAt.same _
  | bl b=>cases rx;exact SeqAt.EqAt.none_bool b
  | int b=>obtain ⟨t,rfl⟩:=rx;exact SeqAt.EqAt.none_int b t
  | str b=>obtain ⟨t,rfl⟩:=rx;exact SeqAt.EqAt.none_str b t
  | _=>exact absurd (show false=true from fx) Bool.false_ne_true
 | bl a =>
  cases ry
  cases x with
  | non=>cases rx;exact SeqAt.EqAt.bool_none a
  | bl b=>cases rx;exact SeqAt.EqAt.bool_bool a b
  | int b=>obtain ⟨t,rfl⟩:=rx;exact SeqAt.EqAt.bool_int a b t
  | str b=>obtain ⟨t,rfl⟩:=rx;exact SeqAt.EqAt.bool_str a b t
  | _=>exact absurd (show false=true from fx) Bool.false_ne_true
 | int a =>
  obtain ⟨t',rfl⟩:=ry
  cases x with
  | non=>cases rx;exact SeqAt.EqAt.int_none a t'
  | bl b=>cases rx;exact SeqAt.EqAt.int_bool a t' b
  | int b=>obtain ⟨t,rfl⟩:=rx;exact SeqAt.EqAt.int_int a t' b t
  | str b=>obtain ⟨t,rfl⟩:=rx;exact SeqAt.EqAt.int_str a t' b t
  | _=>exact absurd (show false=true from fx) Bool.false_ne_true
 | str a =>
  obtain ⟨t',rfl⟩:=ry
  cases x with
  | non=>cases rx;exact SeqAt.EqAt.str_none a t'
  | bl b=>cases rx;exact SeqAt.EqAt.str_bool a t' b
  | int b=>obtain ⟨t,rfl⟩:=rx;exact SeqAt.EqAt.str_int a t' b t
  | str b=>obtain ⟨t,rfl⟩:=rx;exact SeqAt.EqAt.str_str a t' b t
  | _=>exact absurd (show false=true from fx) Bool.false_ne_true
 | _=>exact absurd (show false=true from fy) Bool.false_ne_true
def eqU (x:V) (u:Value):Bool:=match u with
 | .none=>eqV .non x
 | .bool b=>eqV (.bl b) x
 | .int i _=>eqV (.int i) x
 | .str z _=>eqV (.str z) x
 | _=>false
theorem qun {x y:V} {u:Value} (r:RelV y u) (f:qiw y=true):eqU x u=eqV y x:=by
 cases y with
 | non=>cases r;rfl
 | bl b=>cases r;rfl
 | int i=>obtain ⟨t,rfl⟩:=r;rfl
 | str z=>obtain ⟨t,rfl⟩:=r;rfl
 | _=>exact absurd (show false=true from f) Bool.false_ne_true
theorem ql7 {x:V}:∀ {xs:List V} {us:List Value},Vals xs us->xs.all qiw=true->us.any (eqU x)=xs.any λy=>eqV y x
 | _,_,.nil,_=>rfl
 | y :: xs,u :: us,.cons r t,f=>by
  rw[List.all_cons,Bool.and_eq_true] at f;rw[List.any_cons,List.any_cons,qun r f.1,ql7 t f.2]
theorem qix {A:Around} {s:Shared} {x:V} {v:Value} (rx:RelV x v) (fx:qiw x=true):∀ {xs:List V} {us:List Value},Vals xs us->xs.all qiw=true->∀ u∈us,SeqAt.EqAt A s u v (eqU x u)
 | _,_,.nil,_=>λu hu=>by cases hu
 | y :: xs,u :: us,.cons r t,f=>λu' hu=>by
  rw[List.all_cons,Bool.and_eq_true] at f
  rcases List.mem_cons.mp hu with rfl|hu
  ·rw[qun r f.1];exact qyh r rx f.1 fx
  ·exact qix rx fx t f.2 u' hu
def inV (x:V) (xs:List V):Bool:=xs.any λy=>eqV y x
def rIn (K:Frag) (neg:Bool):R2:=λx y H Q=>∃ p xs,y=.ref p/\(SqL K H p xs\/SqT K H p xs)/\qiw x=true/\xs.all qiw=true/\Q (.bl (if neg then !inV x xs else inV x xs)) H
theorem qj4:OpR X (compareOp .NotIn) (rIn X.K true):=by
 intro pins s σ H x y v u Q I rx ry h;obtain ⟨p,xs,rfl,hq,fx,fs,q⟩:=h;cases ry
 rcases hq with hq|hq
 ·obtain ⟨its,r,pl,hz⟩:=I.list hq
  refine SeqAt.notIn_listAt (eqU x) pl.isList (λw hw=>qix rx fx r fs w (by simpa using hw)) ⟨.bl _,H,I,rfl,?_⟩;rw[show its.toArray.any (eqU x)=its.any (eqU x) by simp,ql7 r fs];exact q
 ·obtain ⟨its,r,pl,hz⟩:=I.tuple hq
  refine SeqAt.notIn_tupleAt (eqU x) pl (λw hw=>qix rx fx r fs w (by simpa using hw)) ⟨.bl _,H,I,rfl,?_⟩;rw[show its.toArray.any (eqU x)=its.any (eqU x) by simp,ql7 r fs];exact q
theorem qa0:CallR X (.builtin "len") (λxs H Q=>∃ p ys,xs=[.ref p]/\(SqL X.K H p ys\/SqT X.K H p ys)/\Q (.int ys.length) H):=by
 intro pins s σ H xs us Q I r h;obtain ⟨p,ys,rfl,hq,q⟩:=h;obtain ⟨u,rfl,rx⟩:=vals1 r;cases rx;have hn:=qm1
 rcases hq with hq|hq
 ·obtain ⟨its,r',pl,hz⟩:=I.list hq
  have hlen:=r'.length;exact Calls.call_len_list pl.isList (by simp only[List.size_toArray]<;>omega) ⟨.int ys.length,H,I.tok _,⟨s.toks+1,by rw[List.size_toArray,hlen]⟩,q⟩
 ·obtain ⟨its,r',pl,hz⟩:=I.tuple hq
  have hlen:=r'.length;exact len_tuple pl (by simp only[List.size_toArray]<;>omega) ⟨.int ys.length,H,I.tok _,⟨s.toks+1,by rw[List.size_toArray,hlen]⟩,q⟩
theorem call_list_of:CallR X (.type "list") (λxs H Q=>∃ p ys,xs=[.ref p]/\(SqL X.K H p ys\/SqT X.K H p ys)/\∀ l,H l=none->Q (.ref l) (upd H l (.lst ys))):=by
 intro pins s σ H xs us Q I r h;obtain ⟨p,ys,rfl,hq,q⟩:=h;obtain ⟨u,rfl,rx⟩:=vals1 r;cases rx;have fin:∀ (its:List Value),Vals ys its->ys.length<=sizeLine->∀ (h':Heap) (c':Nat),(∀ b o',s.heap.get? b=some o'->h'.get? b=some o') ->
   h'.get? s.heap.objs.size=some { cls:=.type "list",dict:=none,data:=.seq its.toArray c',slots:=#[] }->EP X pins σ Q (.ref s.heap.objs.size) { s with heap:=h' }:=λits r' hz h' c' kp e =>
  ⟨.ref s.heap.objs.size,_,I.laid (t':=s.toks) kp (Nat.le_refl _) (show ObjOk X.prog X.w _ h' _ (.lst ys) from ⟨hz,its,c',r',e⟩),rfl,q _ (I.hok.fresh (Nat.le_refl _))⟩
 rcases hq with hq|hq
 ·obtain ⟨its,r',pl,hz⟩:=I.list hq
  have hlen:=r'.length;obtain ⟨o,ho,hc,n,hd⟩:=pl.isList;exact call_list_seq p (.inl rfl) ho hc hd (λh' c' kp e=>fin its r' hz h' c' kp e) (by simp only[List.size_toArray]<;>omega)
 ·obtain ⟨its,r',pl,hz⟩:=I.tuple hq
  have hlen:=r'.length;obtain ⟨o,ho,hc,n,hd⟩:=pl;exact call_list_seq p (.inr rfl) ho hc hd (λh' c' kp e=>fin its r' hz h' c' kp e) (by simp only[List.size_toArray]<;>omega)
def tyV (K:Frag) (T:String) (x:V) (H:Hp):Prop:=match x with
 | .str _=>T = "str"
 | .int _=>T = "int"
 | .ref p=>(T = "list" /\ ∃ xs,SqL K H p xs)\/(T = "tuple" /\ ∃ o,K.lookup p=some o/\o.cls=.type "tuple" /\ o.dict=none) \/
   (T = "dict" /\ ((∃ kvs,H p=some (.dK kvs))\/∃ kvs,H p=some (.dT kvs)))\/(T = "set" /\ ∃ S n,H p=some (.set S n))
 | _=>False
theorem quo {pins:List (Addr×Obj)} {σ:St} {H:Hp} {s:Shared} {T:String} {x:V} {v:Value} (I:Inv X pins σ H s) (r:RelV x v) (ty:tyV X.K T x H) :
  s.TypeIs v T/\∀ a,v=.ref a->∃ ob,s.heap.get? a=some ob/\ob.dict=none:=by
 cases x with
 | str z =>
  obtain ⟨t,rfl⟩:=r
  cases (show T = "str" from ty)
  exact ⟨typeIs_str s z t,λ_ e=>nomatch e⟩
 | int i =>
  obtain ⟨t,rfl⟩:=r
  cases (show T = "int" from ty)
  exact ⟨typeIs_int s i t,λ_ e=>nomatch e⟩
 | ref p =>
  cases r
  rcases ty with ⟨rfl,xs,hq⟩|⟨rfl,o,hk,hc,hd⟩|⟨rfl,hk⟩|⟨rfl,S,n,hk⟩
  ·obtain ⟨its,_,pl,_⟩:=I.list hq
   refine ⟨pl.isList.typeIs,λa e=>?_⟩;cases e;obtain ⟨o,n,e,c,hd,_⟩:=pl;exact ⟨o,e,hd⟩
  ·refine ⟨⟨o,I.kIn p o hk,hc⟩,λa e=>?_⟩
   cases e;exact ⟨o,I.kIn _ o hk,hd⟩
  ·have z:∃ o,s.heap.get? p=some o/\o.ExactDict:=by
    rcases hk with ⟨kvs,hk⟩|⟨kvs,hk⟩
    ·obtain ⟨_,_,_,_,o,_,_,e,ex,_⟩:=I.hok p _ hk
     exact ⟨o,e,ex⟩
    ·obtain ⟨_,_,_,_,o,_,_,e,ex,_⟩:=I.hok p _ hk
     exact ⟨o,e,ex⟩
   obtain ⟨o,e,ex⟩:=z;refine ⟨⟨o,e,ex.1⟩,λa e2=>?_⟩;cases e2;exact ⟨o,e,ex.2.1⟩
  ·obtain ⟨o,_,_,_,e,ex,_⟩:=I.hok p _ hk
   refine ⟨⟨o,e,ex.1⟩,λa e2=>?_⟩;cases e2;exact ⟨o,e,ex.2.1⟩
 | _=>exact False.elim ty
def qC7 (K:Frag) (T:String) (r:V->List V->Hp->VK->Prop) (to:TE):TE:=λσ H Q=>to σ H λx H1=>tyV K T x H1/\r x [] H1 Q
def tBM (K:Frag) (T:String) (r:V->List V->Hp->VK->Prop) (to:TE) (t:TA):TE:=λσ H Q=>to σ H λx H1=>tyV K T x H1/\t σ H1 λxs H2=>r x xs H2 Q
variable {o e:Expr} {es:List Expr} {to:TE} {t:TA} {name:Str} {apos cpos:Pos} {T id:String} {r:V->List V->Hp->VK->Prop}
theorem qup (pa:PlainAttrs T) (slot:Slot T name id) (hty:typeOf (.builtin id)=pure (.type "method_descriptor")) (hm:MtR X id r) (ho:PE X o to)
  (hbase:attributeBase o name X.env (eval o X.env)=eval o X.env:=by rfl) (hline:(apos.endLine == cpos.line)=true:=by rfl):PE X (.Call (.Attribute o name apos) [] [] cpos) (qC7 X.K T r to):=by
 intro pins s σ H Q I h;refine wpAny_Call_method0_late hbase hline (thn (ho pins s σ H _ I h) λv s1 hq__=>?_);obtain ⟨x,H1,I1,r1,ty,q1⟩:=hq__;obtain ⟨h1,h2⟩:=quo I1 r1 ty;exact ⟨T,id,pa,slot,hty,h1,h2,Calls.callWith_builtin rfl (PySem.evalArgs_none (hm pins s1 σ H1 x [] v [] Q I1 r1 .nil q1))⟩
theorem qee (pa:PlainAttrs T) (slot:Slot T name id) (hty:typeOf (.builtin id)=pure (.type "method_descriptor")) (hm:MtR X id r) (ho:PE X o to) (ha:PA X (e :: es) t)
  (hbase:attributeBase o name X.env (eval o X.env)=eval o X.env:=by rfl)
  (hfew:((backTo cpos (starEach (e :: es) X.env)).all (λx=>!x.1) && (backToKw cpos (keywordEach [] X.env)).all (λx=>x.1.isSome)
   && decide ((e :: es).length+([]:List Keyword).length+(if ([]:List Keyword).isEmpty then 0 else 1)<30))=true:=by rfl)
  (hline:(apos.endLine == cpos.line)=true:=by rfl) (hs:starEach (e :: es) X.env=(false,eval e X.env) :: starEach es X.env:=by rfl) (hplain:(backTo cpos (starEach es X.env)).any (·.1)=false:=by rfl) :
  PE X (.Call (.Attribute o name apos) (e :: es) [] cpos) (tBM X.K T r to t):=by
 intro pins s σ H Q I h;refine wpAny_Call_method_late hbase hfew hline rfl (thn (ho pins s σ H _ I h) λv s1 hq__=>?_);obtain ⟨x,H1,I1,r1,ty,q1⟩:=hq__;obtain ⟨h1,h2⟩:=quo I1 r1 ty;refine ⟨T,id,pa,slot,hty,h1,h2,?_⟩;have hA:=ha cpos pins s1 σ H1 _ I1 q1;rw[hs] at hA ⊢;refine Calls.callWith_builtin (by show (false || (backTo cpos (starEach es X.env)).any (·.1))=false;rw[hplain]<;>rfl) (Calls.evalArgs_plain ?_);exact thn hA λus s2 ⟨vs,H2,I2,r2,q2⟩=>hm pins s2 σ H2 x vs v us Q I2 r1 r2 q2
end
open PySem PySem.Spec PyProof.Rows
def MtM (X:Cx) (id:String) (r:V->List V->Hp->VK->Prop):Prop:=
 ∀ (pins:List (Addr×Obj)) (s:Shared) (σ:St) (H:Hp) (x:V) (xs:List V) (v:Value) (us:List Value) (Q:VK),Inv X pins σ H s->RelV x v->Vals xs us->r x xs H Q ->
  wpAny (model X.prog X.w) X.A (call (.builtin id) (v :: us)) (EP X pins σ Q) X.xe s
theorem Vals.one:∀ {x:V} {us:List Value},Vals [x] us->∃ u,us=[u]/\RelV x u
 | _,_,.cons r .nil=>⟨_,rfl,r⟩
theorem Vals.zero:∀ {us:List Value},Vals [] us->us=[]
 | _,.nil=>rfl
theorem Vals.dropLast {xs:List V} {us:List Value} (h:Vals xs us):Vals xs.dropLast us.dropLast:=by
 induction h with
 | nil=>exact .nil
 | cons r t ih =>
  cases t with
  | nil=>exact .nil
  | cons q t'=>exact .cons r ih
theorem qot {α:Type} (l:List α):l.eraseIdx (l.length-1)=l.dropLast:=by
 induction l with
 | nil=>rfl
 | cons a r ih =>
  cases r with
  | nil=>rfl
  | cons b r =>
   have e:(a :: b :: r).length-1=((b :: r).length-1)+1:=by
    have h1:(a :: b :: r).length=r.length+2:=rfl;have h2:(b :: r).length=r.length+1:=rfl;omega
   rw[e,List.eraseIdx_cons_succ,ih]
   all_goals rfl
section
variable {X:Cx} {pins:List (Addr×Obj)} {σ:St} {H:Hp} {s:Shared} {l b:Addr} {xs ys zs:List V}
theorem Inv.lset {its its':List Value} {n:Nat} {f:Array Value->Array Value} {t':Nat} (I:Inv X pins σ H s) (hH:H l=some (.lst xs))
  (e:s.heap.get? l=some { cls:=.type "list",data:=.seq its.toArray n }) (hf:f its.toArray=its'.toArray) (hv:Vals ys its') (hz:ys.length<=sizeLine) :
  Inv X pins σ (upd H l (.lst ys)) { s with heap:=s.heap.update l (Obj.mapSeq f),toks:=t' }:=by
 have q:=PySem.IsL.update e f;rw[hf] at q;refine I.write (x:=l) (e:=l) (by rw[hH];exact trivial) (.inl rfl) (λb' u hb hu=>(Heap.get?_update_other s.heap (Obj.mapSeq f) (Ne.symm hb)).trans hu) ⟨_,q⟩ ?_;exact ⟨hz,its',_,hv,q⟩
theorem Inv.lnew {its:List Value} {t':Nat} (I:Inv X pins σ H s) (hv:Vals ys its) (hz:ys.length<=sizeLine) :
  Inv X pins σ (upd H s.heap.objs.size (.lst ys)) { s with heap:=s.heap.push { cls:=.type "list",data:=.seq its.toArray },toks:=t' }:=
 I.laid (λ_ _ q=>Heap.get?_push_of_some _ q) (Nat.le_refl _) ⟨hz,its,0,hv,Heap.get?_push_size _ rfl⟩
theorem Inv.fresh (I:Inv X pins σ H s):H s.heap.objs.size=none:=I.hok.fresh (Nat.le_refl _)
theorem Inv.lstM (I:Inv X pins σ H s) (hH:H l=some (.lst xs)):xs.length<=sizeLine/\∃ (its:List Value) (n:Nat),Vals xs its/\xs.length=its.length/\s.heap.get? l=some { cls:=.type "list",data:=.seq its.toArray n }:=by
 obtain ⟨z,its,n,r,e⟩:=I.hok l _ hH;exact ⟨z,its,n,r,r.length,e⟩
end
section
variable {X:Cx}
def qv7:V->List V->Hp->VK->Prop:=λx vs H Q=>∃ l xs y,x=.ref l/\vs=[y]/\H l=some (.lst xs)/\xs.length<sizeLine/\Q .non (upd H l (.lst (xs ++ [y])))
theorem mt_append:MtM X "list.append" qv7:=by
 intro pins s σ H x vs v us Q I rx rv h;obtain ⟨l,xs,y,rfl,rfl,hH,hz,q⟩:=h;cases rx;obtain ⟨u,rfl,ru⟩:=rv.one;obtain ⟨z,its,n,r,hl,e⟩:=I.lstM hH;refine call_meets F.slot_list_append ⟨_,e,rfl⟩ F.entry_list_append (F.args_list_append_2 _ _) (PySem.list_append l its.toArray n u (by rw[List.size_toArray];omega)) ⟨e,?_⟩;refine ⟨.non,_,I.lset (its':=its ++ [u]) hH e (by simp) (r.append (.cons ru .nil)) ?_,rfl,q⟩;rw[List.length_append,List.length_singleton];omega
def qC8:V->List V->Hp->VK->Prop:=λx vs H Q=>∃ l xs y,x=.ref l/\vs=[]/\H l=some (.lst xs)/\xs[xs.length-1]?=some y/\Q y (upd H l (.lst xs.dropLast))
theorem mt_pop:MtM X "list.pop" qC8:=by
 intro pins s σ H x vs v us Q I rx rv h;obtain ⟨l,xs,y,rfl,rfl,hH,hy,q⟩:=h;cases rx;have hus:=rv.zero;subst hus;obtain ⟨z,its,n,r,hl,e⟩:=I.lstM hH;obtain ⟨u,hu,ru⟩:=r.get hy;have hy':its.toArray[its.toArray.size-1]?=some u:=by
  show its.toArray[its.length-1]?=some u
  rw[<- Array.getElem?_toList,<- hl];exact hu
 refine call_meets F.slot_list_pop ⟨_,e,rfl⟩ F.entry_list_pop (F.args_list_pop_1 _) (MeetsSeq.list_pop_last l its.toArray n u hy' (by rw[List.size_toArray];omega)) ⟨e,?_⟩;refine ⟨y,_,I.lset (its':=its.dropLast) hH e ?_ r.dropLast ?_,ru,q⟩
 ·show its.toArray.eraseIdxIfInBounds (its.toArray.size-1)=its.dropLast.toArray
  rw[List.size_toArray,List.eraseIdxIfInBounds_toArray,qot]
 ·rw[List.length_dropLast]
  omega
def qyi:V->List V->Hp->VK->Prop:=λx vs H Q=>∃ l xs,x=.ref l/\vs=[]/\H l=some (.lst xs)/\Q .non (upd H l (.lst []))
theorem mt_clear:MtM X "list.clear" qyi:=by
 intro pins s σ H x vs v us Q I rx rv h;obtain ⟨l,xs,rfl,rfl,hH,q⟩:=h;cases rx;have hus:=rv.zero;subst hus;obtain ⟨z,its,n,r,hl,e⟩:=I.lstM hH;refine call_meets F.slot_list_clear ⟨_,e,rfl⟩ F.entry_list_clear (F.args_list_clear_1 _) (AutoSeq1.list_clear_list_0 l its.toArray n (by rw[List.size_toArray];omega)) ⟨e,?_⟩;exact ⟨.non,_,I.lset (its':=[]) (ys:=[]) hH e rfl .nil (Nat.zero_le _),rfl,q⟩
def qC9:R2:=λx y H Q=>∃ l b xs zs,x=.ref l/\y=.ref b/\H l=some (.lst xs)/\H b=some (.lst zs)/\xs.length+zs.length<=sizeLine/\∀ p,H p=none->Q (.ref p) (upd H p (.lst (xs ++ zs)))
theorem op_cat:OpR X (binaryOp .Add) qC9:=by
 intro pins s σ H x y v u Q I rx ry h;obtain ⟨l,b,xs,zs,rfl,rfl,hH,hB,hz,q⟩:=h;cases rx;cases ry;obtain ⟨z,its,n,r,hl,e⟩:=I.lstM hH;obtain ⟨z2,its2,n2,r2,hl2,e2⟩:=I.lstM hB;refine PySem.P.add_list e e2 ?_ (by rw[List.size_toArray,List.size_toArray];omega);have ea:its.toArray ++ its2.toArray=(its ++ its2).toArray:=by simp
 rw[ea];exact ⟨.ref _,_,I.lnew (t':=s.toks) (r.append r2) (by rw[List.length_append];omega),rfl,q _ I.fresh⟩
end
section
variable {prog:Program} {w:World} {A:Around} {E:Value->Shared->Prop} {s:Shared}
end
section
variable {X:Cx}
end
open PySem PySem.Spec PyProof.Rows
section
variable {κ:Type} [DecidableEq κ]
def qbu (kvs:List (κ×V)) (k:κ):Option V:=(kvs.find? λkv=>decide (kv.1=k)).map (·.2)
def putK (kvs:List (κ×V)) (k:κ) (v:V):List (κ×V):=
 if (kvs.any λkv=>decide (kv.1=k))=true then kvs.map (λkv=>if kv.1=k then (kv.1,v) else kv) else kvs ++ [(k,v)]
theorem qbv {p:κ×V} {r:List (κ×V)} {k:κ} (e:p.1=k):qbu (p :: r) k=some p.2:=by simp[qbu,List.find?_cons,e]
theorem qbw {p:κ×V} {r:List (κ×V)} {k:κ} (e:¬ p.1=k):qbu (p :: r) k=qbu r k:=by simp[qbu,List.find?_cons,e]
theorem qfz (k:κ):∀ kvs:List (κ×V),(kvs.any λkv=>decide (kv.1=k))=(qbu kvs k).isSome
 | []=>rfl
 | p :: r=>by
  rw[List.any_cons]
  by_cases e:p.1=k
  ·simp only[qbv e,decide_eq_true e,Bool.true_or,Option.isSome_some]
  ·rw[qbw e,decide_eq_false e,Bool.false_or];exact qfz k r
theorem qm4 (k j:κ) (y:V):∀ kvs:List (κ×V),qbu (kvs.map λkv=>if kv.1=k then (kv.1,y) else kv) j=(qbu kvs j).map λx=>if j=k then y else x
 | []=>rfl
 | p :: r=>by
  have ih:=qm4 k j y r;rw[List.map_cons]
  by_cases h:p.1=k
  ·rw[if_pos h]
   by_cases e:p.1=j
   ·rw[qbv (p:=(p.1,y)) e,qbv e,Option.map_some,if_pos (e.symm.trans h)]
   ·rw[qbw (p:=(p.1,y)) e,qbw e,ih]
  ·rw[if_neg h]
   by_cases e:p.1=j
   ·rw[qbv (p:=p) e,qbv e,Option.map_some,if_neg (λz=>h (e.trans z))]
   ·rw[qbw (p:=p) e,qbw e,ih]
theorem qj5 (k j:κ) (y:V):∀ kvs:List (κ×V),qbu kvs k=none->qbu (kvs ++ [(k,y)]) j=if j=k then some y else qbu kvs j
 | [],_=>by
  by_cases e:k=j
  ·rw[if_pos e.symm];exact qbv (p:=(k,y)) e
  ·rw[if_neg (λz=>e z.symm)];exact qbw (p:=(k,y)) e
 | p :: r,hn=>by
  rw[List.cons_append];have hk:¬ p.1=k:=λz=>by rw[qbv z] at hn;cases hn
  rw[qbw hk] at hn;have ih:=qj5 k j y r hn
  by_cases e:p.1=j
  ·rw[qbv e,qbv e,if_neg (λz=>hk (e.trans z))]
  ·rw[qbw e,qbw e,ih]
theorem qiy (kvs:List (κ×V)) (k j:κ) (y:V):qbu (putK kvs k y) j=if j=k then some y else qbu kvs j:=by
 unfold putK
 by_cases a:(kvs.any λkv=>decide (kv.1=k))=true
 ·rw[if_pos a,qm4]
  rw[qfz] at a
  by_cases e:j=k
  ·obtain ⟨x,hx⟩:=Option.isSome_iff_exists.mp a
   rw[if_pos e,e,hx,Option.map_some,if_pos rfl]
  ·rw[if_neg e]
   cases qbu kvs j with
   | none=>rfl
   | some x=>rw[Option.map_some,if_neg e]
 ·rw[if_neg a]
  refine qj5 k j y kvs ?_;rw[qfz] at a
  cases q:qbu kvs k with
  | none=>rfl
  | some x=>rw[q] at a;exact (a rfl).elim
theorem qgf (kvs:List (κ×V)) (k:κ) (v:V):(putK kvs k v).length<=kvs.length+1:=by
 unfold putK
 split
 ·rw[List.length_map];omega
 ·rw[List.length_append,List.length_cons,List.length_nil];omega
theorem RelO.isSome_eq {o:Option V} {u:Option Value} (r:RelO o u):o.isSome=u.isSome:=by
 cases o with
 | none=>cases u with
  | none=>rfl
  | some _=>exact (show False from r).elim
 | some _=>cases u with
  | none=>exact (show False from r).elim
  | some _=>rfl
theorem RelO.getD {o:Option V} {u:Option Value} {d:V} {d':Value} (r:RelO o u) (rd:RelV d d'):RelV (o.getD d) (u.getD d'):=by
 cases o with
 | none=>cases u with
  | none=>exact rd
  | some _=>exact (show False from r).elim
 | some _=>cases u with
  | none=>exact (show False from r).elim
  | some _=>exact r
theorem KV.val {kvs:List (κ×V)} {vs:List (κ×Value)} (r:KV kvs vs) (k:κ):RelO (qbu kvs k) (valueAt vs k):=by
 unfold KV at r
 induction r with
 | nil=>exact True.intro
 | @cons p q ps qs h t ih =>
  obtain ⟨h1,h2⟩:=h
  by_cases e:p.1=k
  ·have e':q.1=k:=h1.symm.trans e
   have b:valueAt (q :: qs) k=some q.2:=by simp[valueAt,List.find?_cons,e']
   rw[qbv e,b];exact h2
  ·have e':¬ q.1=k:=λz=>e (h1.trans z)
   have b:valueAt (q :: qs) k=valueAt qs k:=by simp[valueAt,List.find?_cons,e']
   rw[qbw e,b];exact ih
theorem KV.any {kvs:List (κ×V)} {vs:List (κ×Value)} (r:KV kvs vs) (k:κ):(kvs.any λkv=>decide (kv.1=k))=vs.any λkv=>decide (kv.1=k):=by
 unfold KV at r
 induction r with
 | nil=>rfl
 | cons h t ih=>rw[List.any_cons,List.any_cons,ih,h.1]
theorem KV.repl {kvs:List (κ×V)} {vs:List (κ×Value)} (r:KV kvs vs) (k:κ) {y:V} {u:Value} (ry:RelV y u) :
  KV (kvs.map λkv=>if kv.1=k then (kv.1,y) else kv) (vs.map λkv=>if kv.1=k then (kv.1,u) else kv):=by
 unfold KV at r ⊢
 induction r with
 | nil=>exact .nil
 | @cons p q ps qs h t ih =>
  rw[List.map_cons,List.map_cons];refine .cons ?_ ih;obtain ⟨h1,h2⟩:=h
  by_cases e:p.1=k
  ·rw[if_pos e,if_pos (h1.symm.trans e)];exact ⟨h1,ry⟩
  ·rw[if_neg e,if_neg (λz=>e (h1.trans z))];exact ⟨h1,h2⟩
theorem KV.put {kvs:List (κ×V)} {vs:List (κ×Value)} (r:KV kvs vs) (k:κ) {y:V} {u:Value} (ry:RelV y u):KV (putK kvs k y) (stored vs k u):=by
 unfold putK stored;rw[r.any k]
 by_cases e:(vs.any λkv=>decide (kv.1=k))=true
 ·rw[if_pos e,if_pos e];exact r.repl k ry
 ·rw[if_neg e,if_neg e];exact Paired.snoc r ⟨rfl,ry⟩
theorem KV.length {kvs:List (κ×V)} {vs:List (κ×Value)} (r:KV kvs vs):kvs.length=vs.length:=Paired.length r
end
theorem qou {P:Program} {w:World} {k:Key} {u:Value} (r:RelV (kV k) u):(qbh P w).is k u=true:=by
 cases k with
 | inl i=>obtain ⟨t,e⟩:=(show ∃ t,u=Value.int i t from r);subst e;exact qlz P w i t
 | inr x=>obtain ⟨t,e⟩:=(show ∃ t,u=Value.str x t from r);subst e;exact ql0 P w x t
theorem qj6 {P:Program} {w:World}:∀ {ks:List Key} {us:List Value},Vals (ks.map kV) us->ItemsAre (qbh P w) ks us
 | [],_,r=>by rw[List.map_nil] at r;cases r;exact .nil
 | k :: ks,_,r=>by
  rw[List.map_cons] at r
  cases r with
  | cons h t=>exact .cons (qou h) (qj6 t)
abbrev KT (H:Hp):List (List Key×V)->List (List Key×Addr×Value)->Prop:=Paired λp q=>p.1=q.1/\H q.2.1=some (.tup (p.1.map kV))/\RelV p.2 q.2.2
theorem KT.val {H:Hp} {kvs:List (List Key×V)} {xs:List (List Key×Addr×Value)} (r:KT H kvs xs) (k:List Key):RelO (qbu kvs k) ((atKey xs k).map (·.2)):=by
 induction r with
 | nil=>exact True.intro
 | @cons p q ps qs h t ih =>
  obtain ⟨h1,_,h2⟩:=h
  by_cases e:p.1=k
  ·have e':q.1=k:=h1.symm.trans e
   have b:atKey (q :: qs) k=some q.2:=by simp[atKey,List.find?_cons,e']
   rw[qbv e,b];exact h2
  ·have e':¬ q.1=k:=λz=>e (h1.trans z)
   have b:atKey (q :: qs) k=atKey qs k:=by simp[atKey,List.find?_cons,e']
   rw[qbw e,b];exact ih
theorem KT.repl {H:Hp} {kvs:List (List Key×V)} {xs:List (List Key×Addr×Value)} (r:KT H kvs xs) (k:List Key) {y:V} {u:Value} (ry:RelV y u) :
  KT H (kvs.map λkv=>if kv.1=k then (kv.1,y) else kv) (xs.map (putAt k u)):=by
 induction r with
 | nil=>exact .nil
 | @cons p q ps qs h t ih =>
  rw[List.map_cons,List.map_cons];refine .cons ?_ ih;obtain ⟨h1,h2,h3⟩:=h;unfold putAt
  by_cases e:p.1=k
  ·rw[if_pos e,if_pos (h1.symm.trans e)];exact ⟨h1,h2,ry⟩
  ·rw[if_neg e,if_neg (λz=>e (h1.trans z))];exact ⟨h1,h2,h3⟩
theorem KT.put {H:Hp} {kvs:List (List Key×V)} {xs:List (List Key×Addr×Value)} (r:KT H kvs xs) (k:List Key) {b:Addr} {y:V} {u:Value} (hb:H b=some (.tup (k.map kV))) (ry:RelV y u) :
  KT H (putK kvs k y) (storedH xs k b u):=by
 have e:(kvs.any λkv=>decide (kv.1=k))=(atKey xs k).isSome:=by
  rw[qfz,(r.val k).isSome_eq,Option.isSome_map]
 unfold putK storedH;rw[e]
 by_cases q:(atKey xs k).isSome=true
 ·rw[if_pos q,if_pos q];exact r.repl k ry
 ·rw[if_neg q,if_neg q];exact Paired.snoc r ⟨rfl,hb,ry⟩
theorem KT.keeps {H H':Hp} {kvs:List (List Key×V)} {xs:List (List Key×Addr×Value)} (r:KT H kvs xs) (ht:∀ b ys,H b=some (.tup ys)->H' b=some (.tup ys)):KT H' kvs xs:=
 Paired.mapP r λ_ _ z=>⟨z.1,ht _ _ z.2.1,z.2.2⟩
section
variable {P:Program} {w:World} {H:Hp} {h:Heap} {a:Addr}
theorem qyj {u:HO} (ok:HOk P w H h) (e:Rd H a u):ObjOk P w H h a u:=e.ok ok
theorem qj7 {kvs:List (Key×V)} (ok:HOk P w H h) (e:Rd H a (.dK kvs)):kvs.length<=sizeLine/\(a == sysModules)=false/\∃ vs,KV kvs vs/\h.DictOf (qbh P w) a vs:=
 show ObjOk P w H h a (.dK kvs) from qyj ok e
theorem qBf {kvs:List (Key×V)} (ok:HOk P w H h) (e:H a=some (.dK kvs)):kvs.length<=sizeLine/\(a == sysModules)=false/\∃ vs,KV kvs vs/\h.DictOf (qbh P w) a vs:=qj7 ok (.inl e)
theorem qhx {ks:List Key} (ok:HOk P w H h) (e:H a=some (.tup (ks.map kV))):(tupleKind (qbh P w)).is h ks a:=by
 obtain ⟨_,its,r,o,h1,h2,n,h3⟩:=(show ObjOk P w H h a (.tup (ks.map kV)) from ok a _ e);exact ⟨o,its.toArray,n,h1,h2,h3,by simpa using qj6 r⟩
theorem ql8 {kvs:List (List Key×V)} (ok:HOk P w H h) (e:Rd H a (.dT kvs)):kvs.length<=sizeLine/\(a == sysModules)=false /\
  ∃ xs,KT H kvs xs/\h.DictOfH (tupleKind (qbh P w)) a xs:=by
 obtain ⟨z,y,xs,r,o,es,ep,h1,h2,h3,h4,h5⟩:=(show ObjOk P w H h a (.dT kvs) from qyj ok e);refine ⟨z,y,xs,r,o,es,ep,h1,h2,h3,h4,λx hx=>?_,h5⟩;have all:∀ {l:List (List Key×V)} {m:List (List Key×Addr×Value)},KT H l m->∀ x∈m,(tupleKind (qbh P w)).is h x.1 x.2.1:=by
  intro l m q
  induction q with
  | nil=>intro x hx;exact nomatch hx
  | @cons p q ps qs hq t ih =>
   intro x hx
   rcases List.mem_cons.mp hx with e|hx
   ·subst e
    exact qhx ok (by rw[<- hq.1];exact hq.2.1)
   ·exact ih x hx
 exact all r x hx
theorem qyk {kvs:List (List Key×V)} (ok:HOk P w H h) (e:H a=some (.dT kvs)):kvs.length<=sizeLine/\(a == sysModules)=false /\
  ∃ xs,KT H kvs xs/\h.DictOfH (tupleKind (qbh P w)) a xs:=ql8 ok (.inl e)
end
def DGet (H:Hp) (a:Addr) (y:V) (r:Option V):Prop:=
 (∃ kvs k,Rd H a (.dK kvs)/\y=kV k/\r=qbu kvs k)\/∃ kvs k b,Rd H a (.dT kvs)/\y=.ref b/\H b=some (.tup (k.map kV))/\r=qbu kvs k
def DPut (H:Hp) (a:Addr) (y v:V) (H':Hp):Prop:=
 (∃ kvs k,H a=some (.dK kvs)/\y=kV k/\kvs.length<sizeLine/\H'=upd H a (.dK (putK kvs k v))) \/
 ∃ kvs k b,H a=some (.dT kvs)/\y=.ref b/\H b=some (.tup (k.map kV))/\kvs.length<sizeLine/\H'=upd H a (.dT (putK kvs k v))
theorem DGet.k {H:Hp} {a:Addr} {kvs:List (Key×V)} {k:Key} (e:H a=some (.dK kvs)):DGet H a (kV k) (qbu kvs k):=.inl ⟨kvs,k,.inl e,rfl,rfl⟩
theorem DGet.t {H:Hp} {a b:Addr} {kvs:List (List Key×V)} {k:List Key} (e:H a=some (.dT kvs)) (eb:H b=some (.tup (k.map kV))):DGet H a (.ref b) (qbu kvs k):=.inr ⟨kvs,k,b,.inl e,rfl,eb,rfl⟩
theorem DPut.k {H:Hp} {a:Addr} {kvs:List (Key×V)} {k:Key} {v:V} (e:H a=some (.dK kvs)) (hl:kvs.length<sizeLine):DPut H a (kV k) v (upd H a (.dK (putK kvs k v))):=.inl ⟨kvs,k,e,rfl,hl,rfl⟩
theorem DPut.t {H:Hp} {a b:Addr} {kvs:List (List Key×V)} {k:List Key} {v:V} (e:H a=some (.dT kvs)) (eb:H b=some (.tup (k.map kV))) (hl:kvs.length<sizeLine) :
  DPut H a (.ref b) v (upd H a (.dT (putK kvs k v))):=.inr ⟨kvs,k,b,e,rfl,eb,hl,rfl⟩
section
variable {X:Cx} {pins:List (Addr×Obj)} {σ:St} {H:Hp} {s:Shared} {a:Addr} {y v:V} {u r:Value} {o:Option V} {A:Around} {E:Value->Shared->Prop}
theorem Inv.big (I:Inv X pins σ H s):sysModules<s.heap.objs.size:=by
 have h:mainGlobals<s.heap.objs.size:=(I.mod.glob.keeps I.bk).lt;exact Nat.lt_trans (by decide) h
theorem qqf {Q:Value->Shared->Prop} (hu:A.units+1<cLine) (I:Inv X pins σ H s) (g:DGet H a y (some v)) (ry:RelV y u) (h:∀ w' s',Inv X pins σ H s'->RelV v w'->Q w' s') :
  wpAny (model X.prog X.w) A (getItem (.ref a) u) Q E s:=by
 rcases g with ⟨kvs,k,e,ey,l⟩|⟨kvs,k,b,e,ey,eb,l⟩
 ·subst ey
  obtain ⟨z,hd,vs,rel,dd⟩:=qj7 I.hok e;obtain ⟨w',hw,rw'⟩:=RelO.some_of (v:=v) (o:=valueAt vs k) (by rw[l];exact rel.val k);exact wpAny_getItem_of (qou ry) dd.mapOf hw (h w' _ (I.tok _) rw')
 ·subst ey
  cases (show u=Value.ref b from ry)
  obtain ⟨z,hd,xs,rel,dd⟩:=ql8 I.hok e;obtain ⟨w',hw,rw'⟩:=RelO.some_of (v:=v) (o:=(atKey xs k).map (·.2)) (by rw[l];exact rel.val k);obtain ⟨p,hp,hp2⟩:=Option.map_eq_some_iff.mp hw;refine wpAny_getItem_heap (tupleKind_room_in1 hu) (qhx I.hok eb) dd hp ?_;rw[hp2];exact h w' _ (I.tok _) rw'
theorem qDa {Q:Value->Shared->Prop} (hu:A.units+1<cLine) (I:Inv X pins σ H s) (g:DGet H a y o) (ry:RelV y u) (h:∀ s',Inv X pins σ H s'->Q (.bool o.isSome) s') :
  wpAny (model X.prog X.w) A (compareOp .In u (.ref a)) Q E s:=by
 rcases g with ⟨kvs,k,e,ey,l⟩|⟨kvs,k,b,e,ey,eb,l⟩
 ·subst ey
  obtain ⟨z,hd,vs,rel,dd⟩:=qj7 I.hok e;refine wpAny_in_of (qou ry) hd dd.mapOf ?_;rw[<- (rel.val k).isSome_eq,<- l];exact h _ (I.tok _)
 ·subst ey
  cases (show u=Value.ref b from ry)
  obtain ⟨z,hd,xs,rel,dd⟩:=ql8 I.hok e;refine wpAny_in_heap (tupleKind_room_in1 hu) (qhx I.hok eb) hd dd ?_;have q:=(rel.val k).isSome_eq;rw[Option.isSome_map] at q;rw[<- q,<- l];exact h _ (I.tok _)
theorem qv8 {Q:Value->Shared->Prop} (hu:A.units+1<cLine) (I:Inv X pins σ H s) (g:DGet H a y o) (ry:RelV y u) (h:∀ s',Inv X pins σ H s'->Q (.bool (!o.isSome)) s') :
  wpAny (model X.prog X.w) A (compareOp .NotIn u (.ref a)) Q E s:=by
 rcases g with ⟨kvs,k,e,ey,l⟩|⟨kvs,k,b,e,ey,eb,l⟩
 ·subst ey
  obtain ⟨z,hd,vs,rel,dd⟩:=qj7 I.hok e;refine wpAny_notIn_of (qou ry) hd dd.mapOf ?_;rw[<- (rel.val k).isSome_eq,<- l];exact h _ (I.tok _)
 ·subst ey
  cases (show u=Value.ref b from ry)
  obtain ⟨z,hd,xs,rel,dd⟩:=ql8 I.hok e;refine wpAny_notIn_heap (tupleKind_room_in1 hu) (qhx I.hok eb) hd dd ?_;have q:=(rel.val k).isSome_eq;rw[Option.isSome_map] at q;rw[<- q,<- l];exact h _ (I.tok _)
theorem qqg {h':Heap} {t':Nat} {ob:HO} (I:Inv X pins σ H s) (mu:Mut (H a)) (hs:Heap.SameBut a s.heap h') (he:∃ q,h'.get? a=some q) (new:ObjOk X.prog X.w (upd H a ob) h' a ob) :
  Inv X pins σ (upd H a ob) { s with heap:=h',toks:=t' }:=
 I.write (x:=a) (e:=a) mu (.inl rfl) (λb q hb z=>(hs.2 b hb).trans z) he new
theorem qyl {P:Program} {w:World} {H':Hp} {h':Heap} {kvs:List (Key×V)} {vs:List (Key×Value)} (z:kvs.length<=sizeLine) (hd:(a == sysModules)=false) (rel:KV kvs vs) (dd:h'.DictOf (qbh P w) a vs) :
  ObjOk P w H' h' a (.dK kvs):=⟨z,hd,vs,rel,dd⟩
theorem qqh {H':Hp} {Q:Unit->Shared->Prop} (hu:A.units+1<cLine) (I:Inv X pins σ H s) (g:DPut H a y v H') (ry:RelV y u) (rv:RelV v r) (h:∀ s',Inv X pins σ H' s'->Q () s') :
  wpAny (model X.prog X.w) A (setItem (.ref a) u r) Q E s:=by
 rcases g with ⟨kvs,k,e,ey,l,eH⟩|⟨kvs,k,b,e,ey,eb,l,eH⟩
 ·subst ey eH
  obtain ⟨z,hd,vs,rel,dd⟩:=qBf I.hok e;have hz:vs.length<=sizeLine:=by rw[<- rel.length];exact z
  have hl:(putK kvs k v).length<=sizeLine:=by have:=qgf kvs k v;omega
  refine wpAny_setItem_pairs (hsz:=hz) (qou ry) dd λh' dd' hs=>h _ ?_
  have he:∃ q,h'.get? a=some q:=let ⟨q,_,_,hq,_⟩:=dd';⟨q,hq⟩
  exact qqg I (by rw[e];exact True.intro) hs he (qyl hl hd (rel.put k rv) dd')
 ·subst ey eH
  cases (show u=Value.ref b from ry)
  obtain ⟨z,hd,xs,rel,dd⟩:=qyk I.hok e;have hz:xs.length<=sizeLine:=by rw[<- Paired.length rel];exact z
  have hl:(putK kvs k v).length<=sizeLine:=by have:=qgf kvs k v;omega
  refine wpAny_setItem_heap (hsz:=hz) (tupleKind_room_in1 hu) (qhx I.hok eb) dd λh' dd' hs=>h _ ?_
  obtain ⟨q,es,ep,hq,h2,h3,h4,_,h5⟩:=dd';refine qqg I (by rw[e];exact True.intro) hs ⟨q,hq⟩ ⟨hl,hd,_,(rel.put k eb rv).keeps λc ys ec=>?_,q,es,ep,hq,h2,h3,h4,h5⟩;rw[qao (qav ec e (λz=>nomatch z))];exact ec
end
section
variable {X:Cx} {pins:List (Addr×Obj)} {σ:St} {H:Hp} {s:Shared} {a:Addr} {kvs:List (Key×V)} {k:Key} {u:Value} {A:Around} {E:Value->Shared->Prop}
end
def qCl (i:Expr):Prop:=∀ ov iv,subscripted i false ov iv=operate [ov,iv] (getItem ov iv)
theorem qv9 {prog:Program} {w:World} {A:Around} {E:Value->Shared->Prop} {s:Shared} {env:Env} {value slice:Expr} {pos:Pos} {T id:String} {Q:Value->Shared->Prop}
  (hl:typeLookup (.type T) "__getitem__" = pure (some (.builtin id))) (hs:qCl slice)
  (h:wpAny (model prog w) A (eval value env) (λo s₁=>wpAny (model prog w) A (eval slice env) (λi s₂=>s₂.TypeIs o T/\wpAny (model prog w) A (getItem o i) Q E s₂) E s₁) E s) :
  wpAny (model prog w) A (eval (.Subscript value slice pos) env) Q E s:=by
 refine Subscript_ (wpAny_mono h (λo s₁ h₁=>wpAny_mono h₁ (λi s₂ h₂=>?_) λ_ _ x=>x) λ_ _ x=>x);obtain ⟨hT,h₂⟩:=h₂;unfold subscriptTail;refine wpAny_bind ?_;rw[getitemInPython_of_ne hT.not_modules];refine wpAny_bind (wpAny_specialOf hT hl ?_);have fin:wpAny (model prog w) A (subscripted slice false o i) (λr s₃=>wpAny (model prog w) A (letTemporaryGo value o r >>= λ_=>pure r) Q E s₃) E s₂:=by
  rw[hs o i];exact wpAny_operating (wpAny_mono h₂ (λr s₃ h₃=>wpAny_bind (wpAny_letTemporaryGo (wpAny_pure h₃))) λ_ _ x=>x)
 first
  | exact wpAny_pure (wpAny_bind fin)
  | exact wpAny_bind (wpAny_pure (wpAny_bind fin))
  | exact wpAny_bind fin
theorem ql9 {X:Cx} {pins:List (Addr×Obj)} {σ:St} {H:Hp} {s:Shared} {a:Addr} {y:V} {o:Option V} (I:Inv X pins σ H s) (g:DGet H a y o):s.TypeIs (.ref a) "dict" :=by
 rcases g with ⟨kvs,k,e,_,_⟩|⟨kvs,k,b,e,_,_,_⟩
 ·obtain ⟨_,_,vs,_,dd⟩:=qj7 I.hok e
  exact dd.typeIs
 ·obtain ⟨_,_,xs,_,dd⟩:=ql8 I.hok e
  exact dd.typeIs
def qBg (td ty:TE):TE:=λσ H Q=>td σ H λx H1=>ty σ H1 λy H2=>∃ a v,x=.ref a/\DGet H2 a y (some v)/\Q v H2
def qDb (ty td:TE):TE:=λσ H Q=>ty σ H λy H1=>td σ H1 λx H2=>∃ a o,x=.ref a/\DGet H2 a y o/\Q (.bl o.isSome) H2
def qwa (ty td:TE):TE:=λσ H Q=>ty σ H λy H1=>td σ H1 λx H2=>∃ a o,x=.ref a/\DGet H2 a y o/\Q (.bl (!o.isSome)) H2
def qBh (td ty tv:TE):TS:=λD σ H=>tv σ H λv H1=>td σ H1 λx H2=>ty σ H2 λy H3=>∃ a H4,x=.ref a/\DPut H3 a y v H4/\D.nx σ H4
section
variable {X:Cx} {o i e value:Expr} {pos pos' tpos:Pos} {td ty tv:TE}
theorem qgg (hu:X.A.units+1<cLine) (ho:PE X o td) (hi:PE X i ty) (hs:qCl i):PE X (.Subscript o i pos) (qBg td ty):=by
 intro pins s σ H Q I h;refine qv9 PySem.F.slot_dict_getitem.lookup hs (thn (ho pins s σ H _ I h) λu s1 ⟨x,H1,I1,rx,q1⟩=>thn (hi pins s1 σ H1 _ I1 q1) λiv s2 hq__=>?_);obtain ⟨y,H2,I2,ry,a,v,ex,g,q2⟩:=hq__;subst ex;obtain rfl:u=Value.ref a:=rx;exact ⟨ql9 I2 g,qqf hu I2 g ry λw' s3 I3 rw'=>⟨v,H2,I3,rw',q2⟩⟩
theorem quq (hu:X.A.units+1<cLine) (hi:PE X i ty) (ho:PE X o td):PC X .In i o (qDb ty td):=by
 intro pins s σ H Q I h;refine thn (hi pins s σ H _ I h) λiv s1 ⟨y,H1,I1,ry,q1⟩=>thn (ho pins s1 σ H1 _ I1 q1) λu s2 hq__=>?_
 obtain ⟨x,H2,I2,rx,a,ov,ex,g,q2⟩:=hq__;subst ex;obtain rfl:u=Value.ref a:=rx;exact qDa hu I2 g ry λs3 I3=>⟨.bl ov.isSome,H2,I3,rfl,q2⟩
theorem qqi (hu:X.A.units+1<cLine) (hi:PE X i ty) (ho:PE X o td):PC X .NotIn i o (qwa ty td):=by
 intro pins s σ H Q I h;refine thn (hi pins s σ H _ I h) λiv s1 ⟨y,H1,I1,ry,q1⟩=>thn (ho pins s1 σ H1 _ I1 q1) λu s2 hq__=>?_
 obtain ⟨x,H2,I2,rx,a,ov,ex,g,q2⟩:=hq__;subst ex;obtain rfl:u=Value.ref a:=rx;exact qv8 hu I2 g ry λs3 I3=>⟨.bl (!ov.isSome),H2,I3,rfl,q2⟩
theorem qd6 (hu:X.A.units+1<cLine) (ho:PE X o td) (hi:PE X i ty) (hv:PE X value tv) (hs:swapsWith value (some (.Subscript o i pos')) pos.line X.env=pure false) :
  PS X (.Assign [.Subscript o i pos'] value pos) (qBh td ty tv):=by
 intro pins s σ H D I h;refine wpAny_Assign_Subscript (thn (hv pins s σ H _ I h) λr s1 ⟨v,H1,I1,rv,q1⟩=>thn (ho pins s1 σ H1 _ I1 q1) λu s2 ⟨x,H2,I2,rx,q2⟩=>thn (hi pins s2 σ H2 _ I2 q2) λiv s3 hq__=>?_) hs;obtain ⟨y,H3,I3,ry,a,H4,ex,g,q3⟩:=hq__;subst ex;obtain rfl:u=Value.ref a:=rx;exact qqh hu I3 g ry rv λs4 I4=>⟨σ,H4,I4,q3⟩
end
theorem qs8 {P:Program} {w:World} {H:Hp} (h:Heap) (hb:sysModules<h.objs.size):ObjOk P w H (h.push { cls:=.type "dict",data:=.dict #[] }) h.objs.size (.dK []):=
 ⟨Nat.zero_le _,beq_eq_false_iff_ne.mpr (Ne.symm (Nat.ne_of_lt hb)),[],.nil,Heap.DictOf.new h⟩
theorem qs9 {P:Program} {w:World} {H:Hp} (h:Heap) (hb:sysModules<h.objs.size):ObjOk P w H (h.push { cls:=.type "dict",data:=.dict #[] }) h.objs.size (.dT []):=
 ⟨Nat.zero_le _,beq_eq_false_iff_ne.mpr (Ne.symm (Nat.ne_of_lt hb)),[],.nil,_,#[],0,Heap.get?_push_size _ rfl,⟨rfl,rfl,rfl⟩,rfl,rfl,List.nodup_nil⟩
def qym:TE:=λ_ H Q=>∀ p,H p=none->Q (.ref p) (upd H p (.dK []))
def qyn:TE:=λ_ H Q=>∀ p,H p=none->Q (.ref p) (upd H p (.dT []))
section
variable {X:Cx} {pos:Pos}
theorem qta:PE X (.Dict [] [] pos) qym:=λpins s σ H Q I h =>
 wpAny_Dict_empty ⟨.ref s.heap.objs.size,_,I.laid (a:=s.heap.objs.size) (o:=.dK []) (t':=s.toks) (λ_ _ q=>Heap.get?_push_of_some _ q) (Nat.le_refl _) (qs8 s.heap I.big),rfl,h _ (I.hok.fresh (Nat.le_refl _))⟩
theorem qtb:PE X (.Dict [] [] pos) qyn:=λpins s σ H Q I h =>
 wpAny_Dict_empty ⟨.ref s.heap.objs.size,_,I.laid (a:=s.heap.objs.size) (o:=.dT []) (t':=s.toks) (λ_ _ q=>Heap.get?_push_of_some _ q) (Nat.le_refl _) (qs9 s.heap I.big),rfl,h _ (I.hok.fresh (Nat.le_refl _))⟩
end
structure M2 (X:Cx) (o:Expr) (m:Str) (apos:Pos) (e f:Expr) (cpos:Pos):Prop where
 base:attributeBase o m X.env (eval o X.env)=eval o X.env
 few:((backTo cpos (starEach [e,f] X.env)).all (λx=>!x.1) && (backToKw cpos (keywordEach [] X.env)).all (λx=>x.1.isSome)
  && decide (([e,f]:List Expr).length+([]:List Keyword).length+(if ([]:List Keyword).isEmpty then 0 else 1)<30))=true
 line:(apos.endLine == cpos.line)=true
 trees:backTo cpos (starEach [e,f] X.env)=[(false,eval e X.env),(false,eval f X.env)]
def IsD (H:Hp) (a:Addr):Prop:=(∃ kvs,Rd H a (.dK kvs))\/∃ kvs,Rd H a (.dT kvs)
theorem qyo {X:Cx} {pins:List (Addr×Obj)} {σ:St} {H:Hp} {s:Shared} {a:Addr} (I:Inv X pins σ H s) (d:IsD H a) :
  s.TypeIs (.ref a) "dict" /\ (∀ b,Value.ref a=.ref b->∃ ob,s.heap.get? b=some ob/\ob.dict=none)/\(a == sysModules)=false:=by
 rcases d with ⟨kvs,e⟩|⟨kvs,e⟩
 ·obtain ⟨_,hd,vs,_,dd⟩:=qj7 I.hok e
  refine ⟨dd.typeIs,λb q=>?_,hd⟩;cases q;obtain ⟨ob,_,_,h1,h2,_⟩:=dd;exact ⟨ob,h1,h2.2.1⟩
 ·obtain ⟨_,hd,xs,_,dd⟩:=ql8 I.hok e
  refine ⟨dd.typeIs,λb q=>?_,hd⟩;cases q;obtain ⟨ob,_,_,h1,h2,_⟩:=dd;exact ⟨ob,h1,h2.2.1⟩
section
variable {X:Cx} {pins:List (Addr×Obj)} {σ:St} {H:Hp} {s:Shared} {a:Addr} {y d:V} {u r:Value} {o:Option V} {A:Around} {E:Value->Shared->Prop}
theorem qyp {Q:Value->Shared->Prop} (hu:A.units+1<cLine) (I:Inv X pins σ H s) (g:DGet H a y o) (ry:RelV y u) (rd:RelV d r) (h:∀ w' s',Inv X pins σ H s'->RelV (o.getD d) w'->Q w' s') :
  wpAny (model X.prog X.w) A (call (.builtin "dict.get") [.ref a,u,r]) Q E s:=by
 rcases g with ⟨kvs,k,e,ey,l⟩|⟨kvs,k,b,e,ey,eb,l⟩
 ·subst ey
  obtain ⟨z,hd,vs,rel,dd⟩:=qj7 I.hok e;refine call_meetsIn PySem.F.slot_dict_get dd.typeIs PySem.F.entry_dict_get (PySem.F.args_dict_get_3 _ _ _) (meets_dict_get_default (qbh X.prog X.w) a (qou ry) hd r) ⟨_,dd.mapOf,h _ _ (I.tok _) ?_⟩;rw[l];exact (rel.val k).getD rd
 ·subst ey
  cases (show u=Value.ref b from ry)
  obtain ⟨z,hd,xs,rel,dd⟩:=ql8 I.hok e;refine call_meetsIn PySem.F.slot_dict_get dd.typeIs PySem.F.entry_dict_get (PySem.F.args_dict_get_3 _ _ _) (meetsH_dict_get_default (tupleKind (qbh X.prog X.w)) a b hd r) ⟨tupleKind_room_in1 hu,k,xs,qhx I.hok eb,dd,h _ _ (I.tok _) ?_⟩;rw[l];exact (rel.val k).getD rd
end
def qyq (td ty tx:TE):TE:=λσ H Q=>td σ H λx H1=>∃ a,x=.ref a/\IsD H1 a/\ty σ H1 λy H2=>tx σ H2 λz H3=>∃ o,DGet H3 a y o/\Q (o.getD z) H3
section
variable {X:Cx} {o e f:Expr} {apos cpos:Pos} {td ty tx:TE}
theorem qiz (hu:X.A.units+1<cLine) (ho:PE X o td) (he:PE X e ty) (hf:PE X f tx) (m:M2 X o "get" apos e f cpos):PE X (.Call (.Attribute o "get" apos) [e,f] [] cpos) (qyq td ty tx):=by
 intro pins s σ H Q I h;refine wpAny_Call_method m.base m.few m.line PySem.F.plainAttrs_dict PySem.F.slot_dict_get PySem.F.type_dict_get (thn (ho pins s σ H _ I h) λu s1 hq__=>?_);obtain ⟨x,H1,I1,rx,a,ex,d,q1⟩:=hq__;subst ex;obtain rfl:u=Value.ref a:=rx;obtain ⟨t1,t2,_⟩:=qyo I1 d;refine ⟨t1,t2,?_⟩;rw[m.trees];refine Calls.callWith_builtin rfl (Calls.evalArgs_plain (Calls.spliced_cons (thn (he pins s1 σ H1 _ I1 q1) λiv s2 ⟨y,H2,I2,ry,q2⟩ =>
  Calls.spliced_cons (thn (hf pins s2 σ H2 _ I2 q2) λfv s3 ⟨z,H3,I3,rz,ov,g,q3⟩=>Calls.spliced_nil ?_))))
 exact qyp hu I3 g ry rz λw' s4 I4 rw'=>⟨_,H3,I4,rw',q3⟩
end
section
variable {X:Cx} {pins:List (Addr×Obj)} {σ:St} {H:Hp} {s:Shared} {a:Addr} {kvs:List (Key×V)} {A:Around} {E:Value->Shared->Prop}
end
section
variable {X:Cx} {pins:List (Addr×Obj)} {σ:St} {H:Hp} {s:Shared} {a:Addr} {y:V} {u:Value} {A:Around} {E:Value->Shared->Prop}
end
end L2
namespace Att
open PySem PySem.W PySem.Calls PyProof.Rows
theorem qgh {P:Params} {h:Heap}:∀ (ns:List Int) (vs:List Value),WellAll P h vs (ns.map WData.int)->IntsAre vs ns:=by
 intro ns
 induction ns with
 | nil =>
  intro vs w;rw[List.map_nil] at w;cases w;exact .nil
 | cons n ns ih =>
  intro vs w;rw[List.map_cons] at w
  cases w with
  | cons a b =>
   cases a;exact .cons _ _ (ih _ b)
theorem qqj {l:OpenLaw} {n:Nat} (hn:l.most=some n) {P:Params} {h:Heap} {args:List WData} {qm5:List Value}
  (hpre:l.row.toRowW.claim.pre args=true) (hwl:WellAll P h qm5 args) :
  ∃ a vs ns,qm5=[Value.ref a]/\args=[WData.list (ns.map WData.int)]/\h.get? a=some { cls:=.type "list",data:=.seq vs.toArray }/\IntsAre vs ns/\ns.length<=n:=by
 have hsh:WShape.hasAll [] args [.list .int]=true:=(pre_splitW hpre).1;have hc:l.pre.holds [] { args:=args }=true:=(pre_splitW hpre).2;obtain ⟨d,r,rfl,h1,h2⟩:=hasAllW_cons hsh;obtain rfl:=hasAllW_nil h2;obtain ⟨xs,rfl,h3⟩:=hasW_list h1;obtain ⟨ns,rfl⟩:=items_int h3;have hlen:ns.length<=n:=by
  unfold OpenLaw.pre at hc;have h4:(WTm.not (.lt (.lit (.int (n:Int))) (.len (.arg 0)))).holds [] { args:=[.list (ns.map .int)] }=true:=by
   have h4:=(holds_andW hc).1;rw[hn] at h4;exact h4
  have h5:=condW_of h4 (w_not (w_lt w_lit (w_len_list (w_arg rfl))));rw[List.length_map] at h5;refine Nat.le_of_not_lt λq=>?_
  have q':(n:Int)<((ns.length:Nat):Int):=by omega
  first
   | (rw[decide_eq_true q'] at h5;exact absurd h5 (by decide))
   | (simp at h5;omega)
 cases hwl with
 | cons w1 w2 =>
  cases w2
  cases w1 with
  | list ho hall=>exact ⟨_,_,ns,rfl,rfl,ho,qgh ns _ hall,hlen⟩
theorem qqk (l:OpenLaw) (args:List WData):l.row.toRowW.claim.post args (.bool true) args=true:=
 postW_of (r:=l.row.toRowW) (X:=(true == true))
  (show WShape.has [] (.bool true) .bool=true by first|rfl|decide|simp[WShape.has,WShape.arms,WShape.armsAll])
  (show (WTm.eq .res (.lit (.bool true))).value [] { args:=args,res:=some (.bool true),after:=args }=some (.bool (true == true)) from w_eq_bool (w_res rfl) w_lit) rfl
theorem attach_call {l:OpenLaw} {n:Nat} {q:Program} {loose:List Str} {XP:(Str->Option Value)->Heap->Prop} {YP:World->Heap->Prop} {d:DefRec}
  (hn:l.most=some n) (hdf:d.params.defaults=[])
  (call:∀ (w:World) (s₀ s₁:Shared) (mg mb:Str->Option Value) (fa:Addr) (o:Obj) (pm cd doc:Value) (a:Addr) (vs:List Value) (ns:List Int),
   Ground q loose [] XP w s₀ mg mb s₁.heap->YP w s₁.heap ->
   s₁.heap.get? fa=some o->o.data=.func (docDef d.name d.params d.body d.scope pm cd doc)->s₁.heap.CodeRec cd d.name->mg d.name=some (.ref fa) ->
   s₁.heap.get? a=some { cls:=.type "list",data:=.seq vs.toArray }->IntsAre vs ns->ns.length<=n->s₁.gens = #[] ->
   codeAny (model l.prog w) callerA (.call (.ref fa) ⟨[.ref a],[]⟩) (λr s'=>r=.ok (.ret (.bool true))/\OldK s₁.heap s'.heap/\s'.os=s₁.os/\AllBare s'.gens) s₁) :
  WalkO q loose XP YP l.row.toRowW d [] (λf vs=>PySem.call f vs):=by
 intro w s₀ s₁ mg mb G Y fa o pm cd doc dV kV ho hd hcd hD hmg hg args qm5 as hpre hlay hrd hwl hlo;obtain rfl:dV=.none:=Dflts.none hD hdf;obtain rfl:kV=.none:=Dflts.noKw hD;obtain ⟨a,vs,ns,rfl,rfl,hobj,hints,hlen⟩:=qqj hn hpre hwl;refine enter_call (codeAny_mono (call w s₀ s₁ mg mb fa o pm cd doc a vs ns G Y ho (fd_plain hd) hcd hmg hobj hints hlen hg) λr s' hq=>?_);obtain ⟨rfl,h2,h3,h4⟩:=hq;exact ⟨.inl ⟨.bool true,.bool true,[],rfl,λ_=>rfl,.bool true,qqk l _,λ_=>⟨List.Pairwise.nil,λ_ hm=>(nomatch hm)⟩⟩,h2,h3,h4⟩
section
variable {prog:Program} {w:World} {A:Around} {E:Value->Shared->Prop} {s:Shared} {K:Frag}
def ledger (h:Heap) (L d:Addr):List (Addr×Obj):=(List.range h.objs.size).filterMap λa=>if a=L\/a=d then none else (h.get? a).map λo=>(a,o)
end
end Att
namespace L2
open PySem PySem.Spec PyProof.Rows
theorem qj8:∀ {vs:List Value} {ns:List Int},IntsAre vs ns->Vals (ns.map V.int) vs
 | _,_,.nil=>.nil
 | _,_,.cons n t h=>.cons ⟨t,rfl⟩ (qj8 h)
def qBi (H:Hp):Prop:=∀ b,H b=none\/∃ o xs,H b=some (.frz o (.lst xs))
theorem qtc {P:Program} {w:World} {K:Frag} {mg mb:Str->Option Value} {CX:CXT} {k:Nat} {fa a:Addr} {fd:FuncData} {x:Str} {sp:Sp} {s₁:Shared} {vs:List Value} {ns:List Int}
  (KX:K.In s₁.heap) (hns:s₁.heap.Ns mainGlobals mg) (hb:s₁.heap.Ns builtinsNs mb) (hbb:∀ x:Str,x ≠ "__name__" -> mb x=bootBuiltins x) (hlim:s₁.heap.NoLimit) (hnd:s₁.heap.NoDigits) (hg:s₁.gens = #[])
  (ha:s₁.heap.get? a=some { cls:=.type "list",data:=.seq vs.toArray }) (hi:IntsAre vs ns) (hl:ns.length<=sizeLine) (hr:Room k callerA)
  (F:∀ base:Heap,K.In base->base.Ns mainGlobals mg->qfy P w K mg base CX k fa fd [x] sp) (hbind:∀ (s:Shared) (u:Value),BindsTo s fd ⟨[u],[]⟩ [(x,u)])
  (hsp:∀ H:Hp,qBi H->SqL K H a (ns.map V.int)->sp [.ref a] H (λv _=>v=.bl true) λ_ _ _=>False)
  (hCX:∀ H e s',CX [] H s₁ (λ_ _ _=>False) e s'->False) :
  codeAny (model P w) callerA (.call (.ref fa) ⟨[.ref a],[]⟩) (λr s'=>r=.ok (.ret (.bool true))/\OldK s₁.heap s'.heap/\s'.os=s₁.os/\AllBare s'.gens) s₁:=by
 have rv:=qj8 hi;have lenV:=hi.length;have core:∀ H:Hp,qBi H->SqL K H a (ns.map V.int)->HOk P w H s₁.heap->(∀ b,H b≠none->b=a)->(H a≠none->K.lookup a=none) ->
   codeAny (model P w) callerA (.call (.ref fa) ⟨[.ref a],[]⟩) (λr s'=>r=.ok (.ret (.bool true))/\OldK s₁.heap s'.heap/\s'.os=s₁.os/\AllBare s'.gens) s₁:=by
  intro H hO hS hok hA hK;have base_of:∀ {b:Addr} {o:Obj},s₁.heap.get? b=some o->H b=none->(qss s₁.heap H).get? b=some o:=λe n=>qst e n
  have noA:∀ {b:Addr} {o:Obj} {es:Array DictEntry} {ep:Nat},s₁.heap.get? b=some o->o.data=.dict es ep->H b=none:=fun {b o es ep} e d=>by
   cases q:H b with
   | none=>rfl
   | some u =>
    have e':b=a:=hA b (by rw[q];simp);subst e';rw[ha] at e;cases e;have d':Data.seq vs.toArray _=Data.dict es ep:=d
    cases d'
  have nsK:∀ {b:Addr} {m:Str->Option Value},s₁.heap.Ns b m->(qss s₁.heap H).Ns b m:=fun {b m} ⟨o,es,ep,e,d,r⟩=>⟨o,es,ep,base_of e (noA e d),d,r⟩
  have hKb:K.In (qss s₁.heap H):=λb o e=>base_of (KX b o e) (by
   cases q:H b with
   | none=>rfl
   | some u =>
    have e':b=a:=hA b (by rw[q];simp);subst e';rw[hK (by rw[q];simp)] at e;cases e)
  have hM:Mod K mg (qss s₁.heap H):=⟨hKb,nsK hns,⟨mb,nsK hb,hbb⟩,let ⟨mc,h1,h2⟩:=hlim;⟨mc,nsK h1,h2⟩,let ⟨mc,h1,h2⟩:=hnd;⟨mc,nsK h1,h2⟩⟩;have e0:Env0 P w K mg (qss s₁.heap H) callerA [] s₁ H:=⟨rfl,hM,λb o e=>qvs e,Nat.le_of_eq (qpt _ _),trivial,λb hb=>absurd (show b∈([]:List Addr) from hb) (by simp),hok,.of_eq hg⟩;refine codeAny_mono ((F _ hKb (nsK hns)).run callerA [] s₁ H ⟨[.ref a],[]⟩ [.ref a] [.ref a] _ _ hr e0 (hbind s₁ (.ref a)) (.cons rfl .nil) (hsp H hO hS)) λr s' h=>?_
  cases r with
  | error e=>exact (hCX H e s' h).elim
  | ok fl =>
   cases fl with
   | next=>exact False.elim h
   | brk=>exact False.elim h
   | cont=>exact False.elim h
   | ret u =>
    obtain ⟨v,H',os,bare,un,hok',r',q⟩:=h;have q':v=.bl true:=q;subst q';obtain rfl:u=Value.bool true:=r';refine ⟨rfl,OldK.of_keep λb o e=>?_,os,bare⟩
    cases q:H b with
    | none=>exact un.keep b o e q (by intro z;exact absurd (show b∈([]:List Addr) from z) (by simp)) (by simp)
    | some u =>
     rcases hO b with z|⟨ob,xs,z⟩
     ·rw[q] at z;cases z
     ·have z2:=un.frzs b ob _ z
      obtain ⟨e1,_⟩:=hok b _ z;obtain ⟨e2,_⟩:=hok' b _ z2;rw[e] at e1;cases e1;exact e2
 cases hk:K.lookup a with
 | some o =>
  have e:=KX a o hk;rw[ha] at e;cases e;refine core (λ_=>none) (λ_=>.inl rfl) (.inr ⟨_,vs.toArray,_,hk,rfl,rfl,rfl,by rw[List.size_toArray,lenV];exact hl,by simpa using rv⟩) (λb u z=>by have z':(none:Option HO)=some u:=z;cases z') (λb z=>absurd rfl z) λz=>absurd rfl z
 | none =>
  refine core (λb=>if b=a then some (.frz { cls:=.type "list",data:=.seq vs.toArray } (.lst (ns.map V.int))) else none) (λb=>?_) (.inl (.inr ⟨{ cls:=.type "list",data:=.seq vs.toArray },if_pos rfl⟩)) (λb u z=>?_) (λb z=>?_) λ_=>hk
  ·by_cases hb:b=a
   ·exact .inr ⟨_,_,if_pos hb⟩
   ·exact .inl (if_neg hb)
  ·by_cases hb:b=a
   ·have z':=(if_pos hb).symm.trans z
    cases z'
    subst hb;exact ⟨ha,by rw[List.length_map];exact hl,vs,_,rv,ha⟩
   ·have z':=(if_neg hb).symm.trans z
    cases z'
  ·by_cases hb:b=a
   ·exact hb
   ·exact absurd (if_neg hb) z
open PySem PySem.Spec PyProof.Rows
abbrev KOf {K:Frag} {h:Heap} (_:K.In h):Frag:=K
theorem qwb {l:PySem.W.OpenLaw} {n k:Nat} {q:Program} {loose:List Str} {XP:(Str->Option Value)->Heap->Prop} {YP:World->Heap->Prop} {d:DefRec} {K:Params->Frag} {CX:World->CXT} {sp:World->Sp} {x:Str}
  (hn:l.most=some n) (hn2:n<=sizeLine) (hdf:d.params.defaults=[]) (hr:Room k callerA)
  (hY:∀ (w:World) (h:Heap),YP w h->(K w.params).In h)
  (F:∀ (w:World) (mg:Str->Option Value) (fa:Addr) (h:Heap),(K w.params).In h->h.Ns mainGlobals mg->mg d.name=some (.ref fa) ->
   ∃ fd:FuncData,(∀ (s:Shared) (u:Value),BindsTo s fd ⟨[u],[]⟩ [(x,u)]) /\
    ∀ base:Heap,(K w.params).In base->base.Ns mainGlobals mg->qfy l.prog w (K w.params) mg base (CX w) k fa fd [x] (sp w))
  (hsp:∀ (w:World) (H:Hp) (a:Addr) (ns:List Int),ns.length<=n->qBi H->SqL (K w.params) H a (ns.map V.int)->sp w [.ref a] H (λv _=>v=.bl true) λ_ _ _=>False)
  (hCX:∀ (w:World) (H:Hp) (s:Shared) (e:Value) (s':Shared),CX w [] H s (λ_ _ _=>False) e s'->False) :
  PySem.W.WalkO q loose XP YP l.row.toRowW d [] (λf vs=>PySem.call f vs):=by
 refine Att.attach_call hn hdf λw s₀ s₁ mg mb fa o pm cd doc a vs ns G Y ho hd hcd hmg hobj hints hlen hg=>?_
 have KX:=hY w _ Y;obtain ⟨fd,hb,hF⟩:=F w mg fa _ KX G.T.g hmg;exact qtc KX G.T.g G.T.b G.T.builtins G.T.nolimit G.T.nodigits hg hobj hints (Nat.le_trans hlen hn2) hr hF hb (λH hO hS=>hsp w H a ns hlen hO hS) λH e s'=>hCX w H s₁ e s'
open PySem PySem.Spec PyProof.Rows
def inClass (s:Stmt) (j:Nat):Stmt:=match s with
 | .ClassDef _ _ _ body _ _ _ _ _ _ _=>body.getD j (.Pass ⟨0,0,0,0⟩)
 | _=>.Pass ⟨0,0,0,0⟩
def qcg (s:Stmt):Arguments:=match s with
 | .FunctionDef _ a _ _ _ _ _ _ _ _=>a
 | _=>{ posonlyargs:=[],args:=[],vararg:=none,kwonlyargs:=[],kw_defaults:=[],kwarg:=none,defaults:=[] }
def qbr (s:Stmt):List Stmt:=match s with
 | .FunctionDef _ _ b _ _ _ _ _ _ _=>b
 | _=>[]
def qab (s:Stmt):Scope:=match s with
 | .FunctionDef _ _ _ _ _ _ sc _ _ _=>sc
 | _=>{ kind:=.function,names:=[],isGenerator:=false,isCoroutine:=false }
abbrev CX0:CXT:=λ_ _ _ _ _ _=>False
abbrev E0:XK:=λ_ _ _=>False
theorem qtd {X:Cx}:qhw CX0 X E0:=λ_ _ _ _ _ _ _ h=>h.elim
structure Fun (K:Frag) (x qual:Str) (st:Stmt) (f:Addr) (fd:FuncData):Prop where
 ex:∃ (oc:Value) (od:Option Addr) (kV doc pm:Value) (an:Option Addr) (cdv ct:Value) (osl:Array (Option Value)),
  fd=fnOf x qual (qcg st) (qbr st) (qab st) .none kV doc pm an cdv ct/\K.lookup f=some ⟨oc,od,.func fd,osl⟩/\codeIn K cdv qual=true
 kp:keepIn K (.ref f)=true
section
variable {P:Program} {w:World} {K:Frag} {mg:Str->Option Value} {base:Heap}
theorem Fun.ok {x qual:Str} {st:Stmt} {f:Addr} {fd:FuncData} {N ps:List Str} {k:Nat} {sp:Sp} (F:Fun K x qual st f fd) (S:qag N ps (qab st)) (len:∀ vs H Q E,sp vs H Q E->vs.length=ps.length)
  (hbody:∀ (cdv:Value) (A:Around) (outer:List Env) (s:Shared) (H:Hp) (vs:List V) (Q:VK) (E:XK),Room k (A.deeper (envOfC qual (qab st) s.heap.objs.size f cdv))->sp vs H Q E ->
   ∃ t,PSs (qpp CX0 P w K mg base N qual (qab st) f cdv A outer s H E).nox (qbr st) t/\t { nx:=λ_ H'=>Q .non H',rt:=Q } (start N vs) H):qfy P w K mg base CX0 (k+1) f fd ps sp:=by
 obtain ⟨oc,od,kV,doc,pm,an,cdv,ct,osl,rfl,lk,hcd⟩:=F.ex;refine qs7 lk hcd S len λA outer s H vs Q E hr hsp=>?_
 obtain ⟨t,h,q⟩:=hbody cdv A outer s H vs Q E hr hsp;exact ⟨t,h.nox,q⟩
theorem Fun.binds {x qual:Str} {st:Stmt} {f:Addr} {fd:FuncData} {ps:List Str} (F:Fun K x qual st f fd)
  (h:∀ (kV doc pm:Value) (an:Option Addr) (cdv ct:Value) (us:List Value),us.length=ps.length->bindArgs (fnOf x qual (qcg st) (qbr st) (qab st) .none kV doc pm an cdv ct) ⟨us,[]⟩=pure (ps.zip us)):Binds K fd ps []:=by
 obtain ⟨oc,od,kV,doc,pm,an,cdv,ct,osl,rfl,lk,hcd⟩:=F.ex;exact .all (h kV doc pm an cdv ct)
theorem qql {x qual:Str} {st:Stmt} {f:Addr} {oc:Value} {od an:Option Addr} {osl:Array (Option Value)} {kV doc pm cdv ct:Value} (l:K.lookup f=some ⟨oc,od,.func (fnOf x qual (qcg st) (qbr st) (qab st) .none kV doc pm an cdv ct),osl⟩)
  (c:codeIn K cdv qual=true) (k:keepIn K (.ref f)=true):Fun K x qual st f (fnOf x qual (qcg st) (qbr st) (qab st) .none kV doc pm an cdv ct):=⟨⟨oc,od,kV,doc,pm,an,cdv,ct,osl,rfl,l,c⟩,k⟩
end
theorem qda {A:Around} {k:Nat} (hr:Room k A):A.units+1<cLine:=Nat.lt_of_le_of_lt (Nat.add_le_add_left (by decide:1<=64) _) hr.units
theorem qam {n:Nat} (h:n<=1000):n<sizeLine:=Nat.lt_of_le_of_lt h (by decide)
section
variable {X:Cx}
theorem pv (i:Nat) {x:Str} {pos:Pos} (hN:X.N[i]?=some x:=by rfl) (hv:Vis X.env.scope x:=by first|exact Or.inl rfl|exact Or.inr (Or.inl rfl)|exact Or.inr (Or.inr rfl)) (hd:(x == ("__debug__" : Str))=false:=by decide)
  (hcd:(x == ("__classdict__" : Str))=false:=by decide):PE X (.Name x pos) (qAq i):=qya hN hv hd hcd
end
theorem qdw {A B:Prop} (h:B):if false=true then A else B:=by
 rw[if_neg Bool.false_ne_true];exact h
theorem qck {A B:Prop} (h:A):if true=true then A else B:=by
 rw[if_pos rfl];exact h
theorem qew {c A B:Prop} [Decidable c] (h1:c->A) (h2:¬ c->B):if c then A else B:=by
 by_cases h:c
 ·rw[if_pos h]
  exact h1 h
 ·rw[if_neg h]
  exact h2 h
theorem qyr {c A B:Prop} [Decidable c] (hc:c) (h:B):if (!decide c)=true then A else B:=by
 rw[decide_eq_true hc];exact qdw h
def Same (H H':Hp):Prop:=∀ b o,H b=some o->H' b=some o
theorem Same.refl (H:Hp):Same H H:=λ_ _ h=>h
theorem Same.trans {H H1 H2:Hp} (a:Same H H1) (b:Same H1 H2):Same H H2:=λc o h=>b c o (a c o h)
theorem Same.free {H H':Hp} (e:Same H H') {l:Addr} (h:H' l=Option.none):H l=Option.none:=by
 cases q:H l with
 | none=>rfl
 | some o =>
  rw[e l o q] at h;cases h
section
variable {κ:Type} [DecidableEq κ]
end
end L2
set_option maxHeartbeats 4000000
namespace L2
open PySem PySem.Spec PyProof.Rows
section
variable {X:Cx}
theorem qys:(10:Nat) ^ 100<2 ^ 400:=by decide +kernel
theorem qm6 {j:Int} (h:j.natAbs<10 ^ 100):j.natAbs.log2<400:=by
 by_cases h0:j.natAbs=0
 ·rw[h0];decide +kernel
 ·exact (Nat.log2_lt h0).mpr (Nat.lt_trans h qys)
def qBj (_ j:Int):Prop:=0<j/\j<10 ^ 100
theorem qf0:OpR X (binaryOp .FloorDiv) (rI qBj λi j=>.int (i / j)):=opI λi j _ _ _ _ _ hc q=>by
 have h1:(0:Int)<j:=hc.1;have h2:j<10 ^ 100:=hc.2;have h3:j.natAbs<10 ^ 100:=by omega
 exact floordiv_int (by omega) (by rw[Int.fdiv_eq_ediv_of_nonneg i (by omega)];exact q) (.inl (PyProof.noPylong_of_log2 (Nat.lt_trans (qm6 h3) (by decide))))
def CMulB (i j:Int):Prop:=(-(10 ^ 100)<i/\i<10 ^ 100)/\(-(10 ^ 100)<j/\j<10 ^ 100)
theorem qm7 {j:Int} (h:j.natAbs<10 ^ 100):Builtin.Int.intBits j<=400:=by
 unfold Builtin.Int.intBits
 split
 ·exact Nat.zero_le _
 ·have:=qm6 h
  omega
theorem CMulB.ok {i j:Int} (h:CMulB i j):IntMulOk i j:=by
 obtain ⟨⟨h1,h2⟩,h3,h4⟩:=h;have e1:=qm7 (j:=i) (by omega);have e2:=qm7 (j:=j) (by omega);have e3:Builtin.Int.intTooBig (Builtin.Int.intBits i+Builtin.Int.intBits j)=false:=by
  unfold Builtin.Int.intTooBig;rw[decide_eq_false];have:(bitsLine:Int)=134217728:=by decide +kernel
  omega
 unfold IntMulOk;rw[e3]
 simp
theorem qbl:OpR X (binaryOp .Mult) (rI CMulB λi j=>.int (i*j)):=opI λ_ _ _ _ _ _ _ hc q=>mul_int q hc.ok
end
section
variable {X:Cx}
theorem qcy:CallR X (.builtin "isinstance") (λxs H Q=>∃ x T t b,xs=[x,.ty T]/\TyOf X.K H x t/\PySem.W.kitOne X.K t (.type T)=some b/\Q (.bl b) H):=by
 intro pins s σ H xs us Q I r h;obtain ⟨x,T,t,b,rfl,ty,e,q⟩:=h;obtain ⟨u,w',rfl,ru,rw'⟩:=vals2 r
 cases (show w'=Value.type T from rw')
 exact qqa I ru ty e λtk=>⟨.bl b,H,I.tok tk,rfl,q⟩
end
mutual
inductive Rep (K:Frag) (H:Hp):V->PyData->Prop where
 | non:Rep K H .non .none
 | bl (b:Bool):Rep K H (.bl b) (.bool b)
 | int (i:Int):Rep K H (.int i) (.int i)
 | str (x:Str):Rep K H (.str x) (.str x)
 | lst {a:Addr} {xs:List V} {ds:List PyData}:SqL K H a xs->qov K H xs ds->Rep K H (.ref a) (.list ds)
 | tup {a:Addr} {xs:List V} {ds:List PyData}:SqT K H a xs->qov K H xs ds->Rep K H (.ref a) (.tuple ds)
inductive qov (K:Frag) (H:Hp):List V->List PyData->Prop where
 | nil:qov K H [] []
 | cons {v:V} {vs:List V} {d:PyData} {ds:List PyData}:Rep K H v d->qov K H vs ds->qov K H (v :: vs) (d :: ds)
end
section
variable {X:Cx} {pins:List (Addr×Obj)} {σ:St} {H:Hp} {s:Shared}
mutual
theorem qdd (I:Inv X pins σ H s):∀ (d:PyData) (v:V) (u:Value),Rep X.K H v d->RelV v u->∃ as,Reads s.heap u d as
 | .none,v,u,r,q=>by cases r;cases (show u=Value.none from q);exact ⟨_,.none⟩
 | .bool b,v,u,r,q=>by cases r;cases (show u=Value.bool b from q);exact ⟨_,.bool b⟩
 | .int i,v,u,r,q=>by cases r;obtain ⟨t,e⟩:=(show ∃ t,u=Value.int i t from q);cases e;exact ⟨_,.int i t⟩
 | .str x,v,u,r,q=>by cases r;obtain ⟨t,e⟩:=(show ∃ t,u=Value.str x t from q);cases e;exact ⟨_,.str x t⟩
 | .list ds,v,u,r,q=>by
  cases r with
  | @lst a xs _ hq rs =>
   cases (show u=Value.ref a from q)
   obtain ⟨its,rv,⟨o,n,e,c,_,d⟩,hz⟩:=I.list hq;obtain ⟨as,ra⟩:=qex I ds xs its rs rv;exact ⟨_,.list e c d (by simpa using ra)⟩
 | .tuple ds,v,u,r,q=>by
  cases r with
  | @tup a xs _ hq rs =>
   cases (show u=Value.ref a from q)
   obtain ⟨its,rv,⟨o,e,c,n,d⟩,hz⟩:=I.tuple hq;obtain ⟨as,ra⟩:=qex I ds xs its rs rv;exact ⟨_,.tuple e c d (by simpa using ra)⟩
 | .dict _,v,u,r,q=>by cases r
theorem qex (I:Inv X pins σ H s):∀ (ds:List PyData) (vs:List V) (us:List Value),qov X.K H vs ds->Vals vs us->∃ as,ReadsAll s.heap us ds as
 | [],vs,us,r,q=>by cases r;cases q;exact ⟨_,.nil⟩
 | d :: ds,vs,us,r,q=>by
  cases r with
  | cons r1 r2 =>
   cases q with
   | cons q1 q2 =>
    obtain ⟨as,a1⟩:=qdd I d _ _ r1 q1;obtain ⟨bs,a2⟩:=qex I ds _ _ r2 q2;exact ⟨_,.cons a1 a2⟩
end
end
def qyt (K:Frag) (neg:Bool):R2:=λx y H Q=>∃ d e,Rep K H x d/\Rep K H y e/\d.canLay0=true/\e.canLay0=true/\d.depth<=20/\Q (.bl (if neg then !PyData.eqv d e else PyData.eqv d e)) H
section
variable {X:Cx}
theorem qyu (hu:X.A.units+64<cLine):OpR X (compareOp .Eq) (qyt X.K false):=by
 intro pins s σ H x y v u Q I rx ry h;obtain ⟨d,e,rd,re,cd,ce,hd,q⟩:=h;obtain ⟨as,ra⟩:=qdd I d x v rd rx;obtain ⟨bs,rb⟩:=qdd I e y u re ry;have hm:min d.depth e.depth<=d.depth:=Nat.min_le_left _ _;exact SeqAt.compareEq_reads ra rb cd ce (by omega) ⟨.bl _,H,I,rfl,q⟩
theorem qqm (hu:X.A.units+64<cLine):OpR X (compareOp .NotEq) (qyt X.K true):=by
 intro pins s σ H x y v u Q I rx ry h;obtain ⟨d,e,rd,re,cd,ce,hd,q⟩:=h;obtain ⟨as,ra⟩:=qdd I d x v rd rx;obtain ⟨bs,rb⟩:=qdd I e y u re ry;have hm:min d.depth e.depth<=d.depth:=Nat.min_le_left _ _;exact SeqAt.rcNeAt_reads ra rb cd ce (by omega) X.prog X.w X.xe _ ⟨.bl _,H,I,rfl,q⟩
end
section
variable {X:Cx} {pins:List (Addr×Obj)} {σ:St} {H:Hp} {s:Shared} {h':Heap}
theorem Inv.turnedLaid {t':Nat} {ch:List Addr} {a:Addr} {o:HO} (I:Inv X pins σ H s) (hf:∀ b∈ch,qhu X pins H b) (k:∀ b u,b ∉ ch->s.heap.get? b=some u->h'.get? b=some u)
  (hp:s.heap.objs.size<=a) (new:ObjOk X.prog X.w (upd H a o) h' a o):Inv X pins σ (upd H a o) { s with heap:=h',toks:=t' }:=by
 have hna:H a=none:=I.hok.fresh hp;have nch:∀ b u,H b=some u->b ∉ ch:=λb u e z=>by rw[(hf b z).1] at e;cases e
 have nea:∀ b u,s.heap.get? b=some u->b≠a:=λb u e z=>absurd (Nat.lt_of_lt_of_le (Heap.lt_size e) (by rw[z];exact hp)) (Nat.lt_irrefl _)
 refine I.step (g':=s.gens) (d':=s.drawn) (ch:=ch) (λb hb=>⟨(hf b hb).2.2.2.1,(hf b hb).2.1,(hf b hb).2.2.2.2.1,(hf b hb).2.2.2.2.2⟩) (λb o _ _ hc e _=>k b o hc e) (λb o _ _ hc e _=>⟨o.slots,k b o hc e⟩)
  (λb o hc e n=>by rw[qao (nea b o e)];exact n) (λb o hc e=>⟨o,k b o hc e⟩) (λb xs e=>by rw[qao (qal e hna)];exact e) (λb o u e=>by rw[qao (qal e hna)];exact e)
  (λb ps e=>⟨#[],by rw[qao (qal e hna),e];simp⟩) (λm hm=>?_) (λb u e=>?_) I.bare
 ·obtain ⟨o,es,ep,ho,r⟩:=hm
  exact ⟨o,es,ep,k _ o (λz=>(hf _ z).2.1 rfl) ho,r⟩
 ·by_cases hb:b=a
  ·subst hb;rw[qau] at e;cases e;exact new
  ·rw[qao hb] at e
   refine (I.hok b u e).stay (λc v hc q=>k c v ?_ q) (λc q=>by rw[qao (qal q hna)];exact q) λc xs q=>by rw[qao (qal q hna)];exact q
   rcases hc with z|z
   ·rw[z];exact nch b u e
   ·exact nch c _ z
theorem Inv.turnedL {t':Nat} {ch:List Addr} (I:Inv X pins σ H s) (hf:∀ b∈ch,qhu X pins H b) (k:∀ b u,b ∉ ch->s.heap.get? b=some u->h'.get? b=some u):Inv X pins σ H { s with heap:=h',toks:=t' }:=by
 have nch:∀ b u,H b=some u->b ∉ ch:=λb u e z=>by rw[(hf b z).1] at e;cases e
 refine I.step (g':=s.gens) (d':=s.drawn) (ch:=ch) (λb hb=>⟨(hf b hb).2.2.2.1,(hf b hb).2.1,(hf b hb).2.2.2.2.1,(hf b hb).2.2.2.2.2⟩) (λb o _ _ hc e _=>k b o hc e) (λb o _ _ hc e _=>⟨o.slots,k b o hc e⟩)
  (λ_ _ _ _ n=>n) (λb o hc e=>⟨o,k b o hc e⟩) (λ_ _ e=>e) (λ_ _ _ e=>e) (λb ps e=>⟨#[],by rw[e];simp⟩) (λm hm=>?_) (λb u e=>?_) I.bare
 ·obtain ⟨o,es,ep,ho,r⟩:=hm
  exact ⟨o,es,ep,k _ o (λz=>(hf _ z).2.1 rfl) ho,r⟩
 ·refine (I.hok b u e).stay (λc v hc q=>k c v ?_ q) (λ_ q=>q) λ_ _ q=>q
  rcases hc with z|z
  ·rw[z];exact nch b u e
  ·exact nch c _ z
end
def Itz (K:Frag) (a b:Addr):It:=
 ⟨λi H=>∃ xs ys x y,SqL K H a xs/\SqL K H b ys/\xs[i]?=some x/\ys[i]?=some y,
   λi H v H'=>∃ p,v=.ref p/\H p=none/\∀ xs ys x y,SqL K H a xs->SqL K H b ys->xs[i]?=some x->ys[i]?=some y->H'=upd H p (.tup [x,y]),
   λi H=>∃ xs ys,SqL K H a xs/\SqL K H b ys/\(xs.length<=i\/ys.length<=i)⟩
theorem qa6 {h:Heap} {a b:Addr} {o u:Obj} (e:h.get? a=some o) (e':h.get? b=some u) (d:o.cls≠u.cls):a≠b:=λz=>by
 subst z;rw[e] at e';exact d (congrArg Obj.cls (Option.some.inj e'))
theorem qAv:Value.type "tuple" ≠ Value.type "zip" :=by decide
theorem qAw:Value.type "list_iterator" ≠ Value.type "zip" :=by decide
theorem qur:Value.type "tuple" ≠ Value.type "list_iterator" :=by decide
theorem qAx:Value.type "list" ≠ Value.type "zip" :=by decide
theorem qAy:Value.type "list" ≠ Value.type "tuple" :=by decide
theorem qus:Value.type "list" ≠ Value.type "list_iterator" :=by decide
theorem qte {P:Program} {w:World} {K:Frag} {elts:List Expr} {ek:Nat} {epos:Pos} (a b z TI TO i1 i2:Addr) (d1:TI≠TO) (d2:i1≠i2) :
  Turn P w K (.Tuple elts ek epos) (Itz K a b) [z,TI,TO,i1,i2] z (λi h=>IsZip h z TI TO .none/\IsPair h TI (.ref i1) (.ref i2)/\(∃ x y,IsPair h TO x y)/\h.IsListIter i1 a i/\h.IsListIter i2 b i) where
 mem:=by simp
 obj:=λi h st c hc=>by
  obtain ⟨hz,hTI,⟨x,y,hTO⟩,⟨o1,e1,c1,f1⟩,⟨o2,e2,c2,f2⟩⟩:=st;simp only[List.mem_cons,List.not_mem_nil,or_false] at hc
  rcases hc with rfl|rfl|rfl|rfl|rfl
  ·exact ⟨_,hz,λv q=>by have q':Data.fields _=Data.cell v:=q;cases q'⟩
  ·exact ⟨_,hTI,λv q=>by have q':Data.seq _ _=Data.cell v:=q;cases q'⟩
  ·exact ⟨_,hTO,λv q=>by have q':Data.seq _ _=Data.cell v:=q;cases q'⟩
  ·exact ⟨_,e1,λv q=>by rw[f1] at q;cases q⟩
  ·exact ⟨_,e2,λv q=>by rw[f2] at q;cases q⟩
 keep:=λi h h' st k=>by
  obtain ⟨hz,hTI,⟨x,y,hTO⟩,h1,h2⟩:=st;exact ⟨k z (by simp) _ hz,k TI (by simp) _ hTI,⟨x,y,k TO (by simp) _ hTO⟩,h1.at λo e=>k i1 (by simp) o e,h2.at λo e=>k i2 (by simp) o e⟩
 item:=by
  intro X hP hw hK hc i pins s σ H E I hf st hg;subst hP hw hK;obtain ⟨xs,ys,x,y,qa,qb,hx,hy⟩:=hg;obtain ⟨hz,hTI,⟨x0,y0,hTO⟩,h1,h2⟩:=st;obtain ⟨itsA,rA,pA,zA⟩:=I.list qa;obtain ⟨itsB,rB,pB,zB⟩:=I.list qb;obtain ⟨u,hu,ru⟩:=rA.get hx;obtain ⟨u',hu',ru'⟩:=rB.get hy;have D:ZipApart z TI TO i1 i2 a b:=by
   obtain ⟨o1,e1,c1,f1⟩:=id h1;obtain ⟨o2,e2,c2,f2⟩:=id h2;obtain ⟨oa,na,ea,ca,_,fa⟩:=id pA;obtain ⟨ob,nb,eb,cb,_,fb⟩:=id pB;exact ⟨qa6 hTI hz qAv,qa6 hTO hz qAv,qa6 e1 hz (by rw[c1];exact qAw),qa6 e2 hz (by rw[c2];exact qAw),d1,qa6 hTI e1 (by rw[c1];exact qur),qa6 hTI e2 (by rw[c2];exact qur),
    qa6 hTO e1 (by rw[c1];exact qur),qa6 hTO e2 (by rw[c2];exact qur),d2,qa6 ea hz (by rw[ca];exact qAx),qa6 ea hTO (by rw[ca];exact qAy),qa6 ea e1 (by rw[ca,c1];exact qus),qa6 ea e2 (by rw[ca,c2];exact qus),
    qa6 eb hz (by rw[cb];exact qAx),qa6 eb hTO (by rw[cb];exact qAy),qa6 eb e1 (by rw[cb,c1];exact qus),qa6 eb e2 (by rw[cb,c2];exact qus)⟩
  refine wpAny_pyNext_zip_item D hz hTI hTO h1 h2 pA.isList pB.isList (x:=u) (y:=u') (by simpa using hu) (by simpa using hu') λh' a1 a2 a3 a4 a5 a6 hk=>?_
  refine ⟨.ref s.heap.objs.size,rfl,wpAny_letOwnedTupleGo_zip a1 λh'' hz'' sb=>?_⟩;have lz:z<s.heap.objs.size:=Heap.lt_size hz;have nz:s.heap.objs.size≠z:=Nat.ne_of_gt lz;have k2:∀ c o,c ∉ [z,TI,TO,i1,i2]->s.heap.get? c=some o->h''.get? c=some o:=λc o hc e=>by
   simp only[List.mem_cons,List.not_mem_nil,or_false,not_or] at hc;exact sb.extBut _ _ hc.1 (hk c o hc.1 hc.2.2.1 hc.2.2.2.1 hc.2.2.2.2 e)
  have T2:IsPair h'' s.heap.objs.size u u':=sb.extBut _ _ nz a5;refine ⟨.ref s.heap.objs.size,upd H s.heap.objs.size (.tup [x,y]),I.turnedLaid (t':=s.toks) (ch:=[z,TI,TO,i1,i2]) hf k2 (Nat.le_refl _) ⟨by show 2<=sizeLine;decide,[u,u'],.cons ru (.cons ru' .nil),_,T2,rfl,_,rfl⟩,rfl,⟨_,rfl,I.hok.fresh (Nat.le_refl _),λxs' ys' x' y' qa' qb' hx' hy'=>?_⟩,⟨hz'',sb.extBut _ _ D.TIz (hk _ _ D.TIz D.TITO D.TIi1 D.TIi2 hTI),⟨_,_,sb.extBut _ _ D.TOz a2⟩,a3.extBut sb.extBut D.i1z,a4.extBut sb.extBut D.i2z⟩,λb hb=>?_⟩
  ·rw[I.list_inj qa' qa,hx] at hx'
   rw[I.list_inj qb' qb,hy] at hy'
   cases hx';cases hy';rfl
  ·have e:b≠s.heap.objs.size:=λq=>by
    have:∃ o,s.heap.get? b=some o:=by
     simp only[List.mem_cons,List.not_mem_nil,or_false] at hb;obtain ⟨o1,e1,_⟩:=id h1;obtain ⟨o2,e2,_⟩:=id h2
     rcases hb with rfl|rfl|rfl|rfl|rfl
     ·exact ⟨_,hz⟩
     ·exact ⟨_,hTI⟩
     ·exact ⟨_,hTO⟩
     ·exact ⟨_,e1⟩
     ·exact ⟨_,e2⟩
    obtain ⟨o,e⟩:=this;exact absurd (Heap.lt_size e) (by rw[q];exact Nat.lt_irrefl _)
   rw[qao e];exact (hf b hb).1
 done:=by
  intro X hP hw hK hc i pins s σ H E I hf st hg;subst hP hw hK;obtain ⟨xs,ys,qa,qb,hx⟩:=hg;obtain ⟨hz,hTI,⟨x0,y0,hTO⟩,h1,h2⟩:=st;obtain ⟨itsA,rA,pA,zA⟩:=I.list qa;obtain ⟨itsB,rB,pB,zB⟩:=I.list qb;have D:ZipApart z TI TO i1 i2 a b:=by
   obtain ⟨o1,e1,c1,f1⟩:=id h1;obtain ⟨o2,e2,c2,f2⟩:=id h2;obtain ⟨oa,na,ea,ca,_,fa⟩:=id pA;obtain ⟨ob,nb,eb,cb,_,fb⟩:=id pB;exact ⟨qa6 hTI hz qAv,qa6 hTO hz qAv,qa6 e1 hz (by rw[c1];exact qAw),qa6 e2 hz (by rw[c2];exact qAw),d1,qa6 hTI e1 (by rw[c1];exact qur),qa6 hTI e2 (by rw[c2];exact qur),
    qa6 hTO e1 (by rw[c1];exact qur),qa6 hTO e2 (by rw[c2];exact qur),d2,qa6 ea hz (by rw[ca];exact qAx),qa6 ea hTO (by rw[ca];exact qAy),qa6 ea e1 (by rw[ca,c1];exact qus),qa6 ea e2 (by rw[ca,c2];exact qus),
    qa6 eb hz (by rw[cb];exact qAx),qa6 eb hTO (by rw[cb];exact qAy),qa6 eb e1 (by rw[cb,c1];exact qus),qa6 eb e2 (by rw[cb,c2];exact qus)⟩
  have lA:=rA.length;have lB:=rB.length;refine wpAny_pyNext_zip_end (I.ok.hd hc) D hz hTI hTO h1 h2 pA.isList pB.isList (hx.imp (λq=>by simp;omega) λq=>by simp;omega) λh' hk=>⟨rfl,I.turnedL (t':=s.toks) (ch:=[z,TI,TO,i1,i2]) hf λc o hc e=>?_⟩
  simp only[List.mem_cons,List.not_mem_nil,or_false,not_or] at hc;exact hk c o hc.1 hc.2.2.1 hc.2.2.2.1 hc.2.2.2.2 e
 self:=λ_ _ _ _ _ st h=>wpAny_pyIter_zip st.1 h
section
variable {X:Cx}
def qDc (K:Frag) (ta:TA):TI:=λσ H R=>ta σ H λvs H1=>∃ a b xs ys,vs=[.ref a,.ref b]/\SqL K H1 a xs/\SqL K H1 b ys/\R (Itz K a b) H1
theorem qm8 {elts:List Expr} {ek:Nat} {epos:Pos} {e1 e2:Expr} {ta:TA} {p pos:Pos} (hg:Gl X "zip") (hm:X.mg "zip" = none) (ha:PA X [e1,e2] ta)
  (hs:starEach [e1,e2] X.env=[(false,eval e1 X.env),(false,eval e2 X.env)]:=by rfl) (hs2:starEach [e2] X.env=[(false,eval e2 X.env)]:=by rfl) :
  PI X (.Tuple elts ek epos) (.Call (.Name "zip" p) [e1,e2] [] pos) (qDc X.K ta):=by
 intro pins s σ H R I h;refine Call_ (qjt I hg hm (show bootBuiltins "zip" = some (.type "zip") by decide +kernel) (PyProof.Rows.callWith_type1 (thn (ha pos pins s σ H _ I h) λus s1 ⟨vs,H1,I1,r1,q1⟩=>?_) (by rw[hs,hs2]) (by rw[hs2];rfl)));obtain ⟨a,b,xs,ys,rfl,qa,qb,q⟩:=q1;obtain ⟨u,u',rfl,ru,ru'⟩:=vals2 r1
 cases (show u=Value.ref a from ru)
 cases (show u'=Value.ref b from ru')
 obtain ⟨itsA,rA,pA,zA⟩:=I1.list qa;obtain ⟨itsB,rB,pB,zB⟩:=I1.list qb;refine call_zip_2 pA.isList pB.isList λh' hz hTI hTO h1 h2 hsz hk=>wpAny_pyIter_zip hz ?_
 refine ⟨s1.heap.objs.size+4,_,_,_,H1,rfl,I1.kept (t':=s1.toks) hk,qte a b _ (s1.heap.objs.size+2) (s1.heap.objs.size+3) s1.heap.objs.size (s1.heap.objs.size+1) (Nat.ne_of_lt (Nat.lt_succ_self _)) (Nat.ne_of_lt (Nat.lt_succ_self _)),⟨hz,hTI,⟨_,_,hTO⟩,h1,h2⟩,λc hc=>?_,q⟩;have e:s1.heap.objs.size<=c:=by
  simp only[List.mem_cons,List.not_mem_nil,or_false] at hc
  rcases hc with rfl|rfl|rfl|rfl|rfl
  ·exact Nat.le_add_right _ _
  ·exact Nat.le_add_right _ _
  ·exact Nat.le_add_right _ _
  ·exact Nat.le_refl _
  ·exact Nat.le_add_right _ _
 exact I1.fpOk e (I1.hok.fresh e)
end
theorem qwc {K:Frag} {a b:Addr} {xs ys:List V} {g:TG} {tb:TS} {D:Ends} {σ:St} {H:Hp} (Pv:Nat->St->Hp->Prop) (h0:Pv 0 σ H) (hl:∀ i σ H,Pv i σ H->SqL K H a xs/\SqL K H b ys)
  (hs:∀ i x y σ H p,xs[i]?=some x->ys[i]?=some y->H p=none->Pv i σ H->g (.ref p) σ (upd H p (.tup [x,y])) λσ2 H2=>tb { D with nx:=Pv (i+1),ct:=Pv (i+1),bk:=D.nx } σ2 H2)
  (hd:∀ i σ H,i=min xs.length ys.length->Pv i σ H->D.nx σ H) :
  ∃ W:Nat->Nat->St->Hp->Prop,(∃ m,W 0 m σ H)/\∀ i m σ H,W i m σ H ->
   ((Itz K a b).stop i H/\D.nx σ H)\/((Itz K a b).go i H/\∃ N:St->Hp->Prop,(∀ σ' H',N σ' H'->∃ m',m'<m/\W (i+1) m' σ' H')/\∀ x H',(Itz K a b).yld i H x H'->g x σ H' λσ2 H2=>tb { D with nx:=N,ct:=N,bk:=D.nx } σ2 H2):=by
 refine ⟨λi m σ H=>m=min xs.length ys.length-i/\i<=min xs.length ys.length/\Pv i σ H,⟨min xs.length ys.length,by simp,Nat.zero_le _,h0⟩,?_⟩;rintro i m σ H ⟨rfl,hi,p⟩;obtain ⟨qa,qb⟩:=hl i σ H p
 by_cases hlt:i<min xs.length ys.length
 ·have ha:i<xs.length:=by omega
  have hb:i<ys.length:=by omega
  refine .inr ⟨⟨xs,ys,xs[i],ys[i],qa,qb,by simp[ha],by simp[hb]⟩,Pv (i+1),λσ' H' p'=>⟨min xs.length ys.length-(i+1),by omega,rfl,hlt,p'⟩,λx H' y=>?_⟩;obtain ⟨t,rfl,ht,y⟩:=y;have ea:xs[i]?=some xs[i]:=by simp[ha]
  have eb:ys[i]?=some ys[i]:=by simp[hb]
  rw[y xs ys xs[i] ys[i] qa qb ea eb];exact hs i xs[i] ys[i] σ H t ea eb ht p
 ·exact .inl ⟨⟨xs,ys,qa,qb,by omega⟩,hd i σ H (by omega) p⟩
structure FunD (K:Frag) (x qual:Str) (st:Stmt) (dV:Value) (f:Addr) (fd:FuncData):Prop where
 ex:∃ (oc:Value) (od:Option Addr) (kV doc pm:Value) (an:Option Addr) (cdv ct:Value) (osl:Array (Option Value)),
  fd=fnOf x qual (qcg st) (qbr st) (qab st) dV kV doc pm an cdv ct/\K.lookup f=some ⟨oc,od,.func fd,osl⟩/\codeIn K cdv qual=true
 kp:keepIn K (.ref f)=true
section
variable {P:Program} {w:World} {K:Frag} {mg:Str->Option Value} {base:Heap}
theorem FunD.ok {x qual:Str} {st:Stmt} {dV:Value} {f:Addr} {fd:FuncData} {N ps:List Str} {k:Nat} {sp:Sp} (F:FunD K x qual st dV f fd) (S:qag N ps (qab st)) (len:∀ vs H Q E,sp vs H Q E->vs.length=ps.length)
  (hbody:∀ (cdv:Value) (A:Around) (outer:List Env) (s:Shared) (H:Hp) (vs:List V) (Q:VK) (E:XK),Room k (A.deeper (envOfC qual (qab st) s.heap.objs.size f cdv))->sp vs H Q E ->
   ∃ t,PSs (qpp CX0 P w K mg base N qual (qab st) f cdv A outer s H E).nox (qbr st) t/\t { nx:=λ_ H'=>Q .non H',rt:=Q } (start N vs) H):qfy P w K mg base CX0 (k+1) f fd ps sp:=by
 obtain ⟨oc,od,kV,doc,pm,an,cdv,ct,osl,rfl,lk,hcd⟩:=F.ex;refine qs7 lk hcd S len λA outer s H vs Q E hr hsp=>?_
 obtain ⟨t,h,q⟩:=hbody cdv A outer s H vs Q E hr hsp;exact ⟨t,h.nox,q⟩
theorem qi0 {fd:FuncData} {ps:List Str} {ds:List Value} {T:Addr} {o:Obj} {items:Array Value} {n:Nat} (hd:fd.defaults=.ref T) (lk:K.lookup T=some o) (hs:o.data=.seq items n)
  (h:∀ us:List Value,(us ++ ds).length=ps.length->∃ k,bindArgs fd ⟨us,[]⟩=seqItems? fd.defaults >>= k/\k (some items)=pure (ps.zip (us ++ ds))):Binds K fd ps ds:=λs us kin hl=>by
 obtain ⟨k,h1,h2⟩:=h us hl;exact .of_defaults hd (kin _ _ lk) hs h1 h2
end
def qba (P:Program) (w:World) (K:Frag) (mg:Str->Option Value) (base:Heap) (k:Nat) (x:Str) (ps:List Str) (sp:Sp):Prop:=
 ∃ f fd,qfy P w K mg base CX0 k f fd ps sp/\mg x=some (.ref f)/\keepIn K (.ref f)=true/\Binds K fd ps []
def qi1 (P:Program) (w:World) (K:Frag) (mg:Str->Option Value) (base:Heap) (C:Addr) (k:Nat) (m:Str) (ps:List Str) (sp:Sp):Prop:=
 ∃ f fd,qfy P w K mg base CX0 k f fd ps sp/\qp9 K C m f/\Binds K fd ps []
def qAz (P:Program) (w:World) (K:Frag) (mg:Str->Option Value) (base:Heap) (C:Addr) (k:Nat) (x:Str) (ps:List Str) (ds:List Value) (sp:Sp):Prop:=
 ∃ f fd,qfy P w K mg base CX0 k f fd ps sp/\mg x=some (.ref C)/\Mk K C f/\Binds K fd ps ds
section
variable {X:Cx} {k:Nat} {C:Addr} {ps:List Str} {sp:Sp} {dvs:List V} {ds:List Value} {x m:Str} {p pos apos:Pos} {e o:Expr} {es:List Expr} {ta:TE} {t:TA}
theorem qyv (D:qba X.prog X.w X.K X.mg X.base k x ps sp) (hr:Room k X.A) (hg:Gl X x) (ha:PA X (e :: es) t) (hdb:(x == ("__debug__" : Str))=false:=by decide)
  (he:starEach (e :: es) X.env=(false,eval e X.env) :: starEach es X.env:=by rfl) (hpl:(backTo pos (starEach es X.env)).any (·.1)=false:=by rfl):PE X (.Call (.Name x p) (e :: es) [] pos) (qv1 sp [] E0 t):=by
 obtain ⟨f,fd,F,hm,hk,hb⟩:=D;exact qv2 F hr hg hm hk hb .nil qtd ha hdb he hpl
end
open PySem PySem.Spec PyProof.Rows
section
variable {X:Cx} {k:Nat} {C:Addr} {ps:List Str} {sp:Sp} {x m:Str} {p pos apos:Pos} {e o:Expr} {es:List Expr} {ta:TE} {t:TA}
theorem qBk {pl:Sem Bool} (he:PE X o ta) (c:Cls X.K C) (D:qi1 X.prog X.w X.K X.mg X.base C k m ps sp) (hr:Room k X.A) (ha:PA X (e :: es) t)
  (hst:starEach (e :: es) X.env=(false,eval e X.env) :: starEach es X.env:=by rfl) (hpl:(backTo pos (starEach es X.env)).any (·.1)=false:=by rfl)
  (ht:eval (.Call (.Attribute o m apos) (e :: es) [] pos) X.env=(do
   let ov <- eval o X.env
   standAt apos.atName
   let (f,first) <- holding [ov] (getMethod ov m pl)
   callWith pos f first (backTo pos (starEach (e :: es) X.env)) (backToKw pos (keywordEach [] X.env))):=by rfl) :
  PE X (.Call (.Attribute o m apos) (e :: es) [] pos) (qs4 C m sp [] E0 ta t):=by
 obtain ⟨f,fd,F,hm,hb⟩:=D;exact qv3 (pl:=pl) he c hm F hr hb .nil qtd ha hst hpl ht
theorem qfe {pl:Sem Bool} (he:PE X o ta) (c:Cls X.K C) (D:qi1 X.prog X.w X.K X.mg X.base C k m ps sp) (hr:Room k X.A)
  (ht:eval (.Call (.Attribute o m apos) [] [] pos) X.env=(do
   let ov <- eval o X.env
   standAt apos.atName
   let (f,first) <- holding [ov] (getMethod ov m pl)
   callWith pos f first (backTo pos (starEach [] X.env)) (backToKw pos (keywordEach [] X.env))):=by rfl) :
  PE X (.Call (.Attribute o m apos) [] [] pos) (qs4 C m sp [] E0 ta qm2):=by
 obtain ⟨f,fd,F,hm,hb⟩:=D;exact qs5 (pl:=pl) he c hm F hr hb .nil qtd ht
end
section
variable {P:Program} {w:World} {K:Frag} {mg:Str->Option Value} {base:Heap}
theorem Fun.def_ {x:Str} {st:Stmt} {f:Addr} {fd:FuncData} {ps:List Str} {k:Nat} {sp:Sp} (F:Fun K x x st f fd) (hm:mg x=some (.ref f)) (hf:qfy P w K mg base CX0 k f fd ps sp) (hb:Binds K fd ps []):qba P w K mg base k x ps sp:=
 ⟨f,fd,hf,hm,F.kp,hb⟩
end
theorem qch:bootBuiltins "len" = some (.builtin "len"):=by decide +kernel
theorem qaz:bootBuiltins "isinstance" = some (.builtin "isinstance"):=by decide +kernel
theorem qqn:bootBuiltins "sum" = some (.builtin "sum"):=by decide +kernel
theorem qcz:bootBuiltins "list" = some (.type "list"):=by decide +kernel
theorem qtf:bootBuiltins "tuple" = some (.type "tuple"):=by decide +kernel
theorem qm9:bootBuiltins "int" = some (.type "int"):=by decide +kernel
theorem qqo:bootBuiltins "bool" = some (.type "bool"):=by decide +kernel
theorem qyw:bootBuiltins "str" = some (.type "str"):=by decide +kernel
theorem qd7 (K:Frag):PySem.W.kitOne K (.type "int") (.type "int")=some true:=by rfl
theorem qde (K:Frag):PySem.W.kitOne K (.type "int") (.type "bool")=some false:=by rfl
theorem qna (K:Frag):PySem.W.kitOne K (.type "list") (.type "list")=some true:=by rfl
theorem kit_tuple (K:Frag):PySem.W.kitOne K (.type "tuple") (.type "tuple")=some true:=by rfl
theorem qi2 {H:Hp} {p:Addr} {o:HO} (h:H p=none):Same H (upd H p o):=λb u e=>by rw[qao (qal e h)];exact e
open PySem PySem.Spec PyProof.Rows
def blk (X:Cx) (Nc:List Str) (scope:Scope) (cl:List (Str×Addr)) (C:Addr) (s:Shared) (H:Hp) (ex:List Addr):Cx where
 prog:=X.prog
 w:=X.w
 K:=X.K
 mg:=X.mg
 base:=X.base
 A:=X.A
 N:=Nc
 s₀:=s
 H₀:=H
 env:=compEnvC scope cl C X.env
 outer:=X.stack
 stack:=X.stack
 ex:=ex
 fn:=λ_=>false
 calm:=X.calm
 pn:=[]
 xe:=λ_ _=>False
structure qqp (X:Cx) (scope:Scope) (cl:List (Str×Addr)):Prop where
 clos:closureFor scope X.env=pure cl
 kind:scope.kind=.function
 nocell:∀ y∈scope.names,y.2≠.cell
 names:∀ y∈scope.names,y.2=.local->scope.names.lookup y.1=some .local
 sub:∀ x c,cl.lookup x=some c->X.env.cells.lookup x=some c
 has:∀ x,((relabel scope X.env).names.lookup x=some .cell\/(relabel scope X.env).names.lookup x=some .free)->∃ c,cl.lookup x=some c
def FvOk (X:Cx) (scope:Scope) (cl:List (Str×Addr)):List Str->List Nat->Prop
 | [],[]=>True
 | x :: xs,j :: js=>(X.N[j]?=some x/\(X.env.kindOf x=some .cell\/X.env.kindOf x=some .free)/\cl.lookup x=X.env.cells.lookup x /\
   ((relabel scope X.env).names.lookup x=some .cell\/(relabel scope X.env).names.lookup x=some .free))/\FvOk X scope cl xs js
 | _,_=>False
def lcσ (nv:Nat) (fv:List Nat) (σ:St):St:=List.replicate nv none ++ fv.map λj=>(σ[j]?).join
theorem FvOk.len {X:Cx} {scope:Scope} {cl:List (Str×Addr)}:∀ {xs:List Str} {js:List Nat},FvOk X scope cl xs js->xs.length=js.length
 | [],[],_=>rfl
 | _ :: _,_ :: _,h=>by simp[FvOk.len h.2]
 | [],_ :: _,h=>h.elim
 | _ :: _,[],h=>h.elim
theorem FvOk.get {X:Cx} {scope:Scope} {cl:List (Str×Addr)}:∀ {xs:List Str} {js:List Nat} {k:Nat} {x:Str} {j:Nat},FvOk X scope cl xs js->xs[k]?=some x->js[k]?=some j ->
  X.N[j]?=some x/\(X.env.kindOf x=some .cell\/X.env.kindOf x=some .free)/\cl.lookup x=X.env.cells.lookup x/\((relabel scope X.env).names.lookup x=some .cell\/(relabel scope X.env).names.lookup x=some .free)
 | [],[],_,_,_,_,e,_=>by simp at e
 | _ :: _,_ :: _,0,_,_,h,e,e'=>by simp at e e';subst e;subst e';exact h.1
 | _ :: _,_ :: _,k+1,x,j,h,e,e'=>FvOk.get (k:=k) h.2 (by simpa using e) (by simpa using e')
 | [],_ :: _,_,_,_,h,_,_=>h.elim
 | _ :: _,[],_,_,_,h,_,_=>h.elim
abbrev qaf:Obj:={ cls:=.type "list",dict:=none,data:=.seq ([]:List Value).toArray }
theorem ltS {h:Heap} {b:Addr} {o:Obj} (e:h.get? b=some o):b≠(h.push qaf).objs.size:=Nat.ne_of_lt (by rw[Heap.size_push];exact Nat.lt_succ_of_lt (Heap.lt_size e))
theorem neS {h:Heap}:h.objs.size≠(h.push qaf).objs.size:=Nat.ne_of_lt (by rw[Heap.size_push];exact Nat.lt_succ_self _)
theorem leS {h:Heap}:h.objs.size<=(h.push qaf).objs.size:=by rw[Heap.size_push];exact Nat.le_succ _
theorem neZ {h:Heap} {b:Addr} {o:Obj} (e:h.get? b=some o):b≠h.objs.size:=Nat.ne_of_lt (Heap.lt_size e)
section
variable {X:Cx} {pins:List (Addr×Obj)} {σ:St} {H:Hp} {s:Shared} {scope:Scope} {cl:List (Str×Addr)} {vars frees:List Str} {fv:List Nat} {fp:List Addr}
theorem qqq {h':Heap} {t':Nat} (I:Inv X pins σ H s) (L:qqp X scope cl) (fo:FvOk X scope cl frees fv) (hf:∀ b∈fp,qhu X pins H b) (ho:∀ b∈fp,∃ o,s.heap.get? b=some o)
  (hns:h'.Ns (s.heap.push qaf).objs.size (λ_=>none)) (hsb:∀ b o,b≠(s.heap.push qaf).objs.size->(s.heap.push qaf).get? b=some o->h'.get? b=some o) :
  Inv (blk X (vars ++ frees) scope cl (s.heap.push qaf).objs.size { s with heap:=s.heap.push qaf } H (s.heap.objs.size :: fp)) [(s.heap.objs.size,qaf)] (lcσ vars.length fv σ) H { s with heap:=h',toks:=t' }:=by
 have hC:(s.heap.push qaf).objs.size=s.heap.objs.size+1:=Heap.size_push ..;have hlt:∀ {b:Addr} {o:Obj},s.heap.get? b=some o->b<s.heap.objs.size:=λe=>Heap.lt_size e
 have old:∀ b o,s.heap.get? b=some o->h'.get? b=some o:=λb o e=>hsb b o (ltS e) (Heap.get?_push_of_some _ e)
 have hD:h'.get? s.heap.objs.size=some qaf:=hsb _ _ neS (Heap.get?_push_size _ rfl);have stk:∀ b∈frs X.stack,b<s.heap.objs.size/\b ∉ fp:=λb hb=>by
  rcases List.mem_cons.mp (I.stkSub b hb) with z|z
  ·exact ⟨by rw[z];exact I.lt,λq=>(hf b q).2.1 z⟩
  ·refine ⟨?_,λq=>(hf b q).2.2.1 z⟩
   apply Nat.lt_of_not_le
   intro q;exact I.nofs q z
 have cellL:∀ x c,cl.lookup x=some c->c<s.heap.objs.size:=λx c e=>by
  obtain ⟨v,q⟩:=I.cell x c (L.sub x c e);exact q.lt
 refine ⟨⟨I.ok.mod,L.kind,I.ok.glob,I.ok.blt,Nat.le_refl _,λx y c e1 e2=>I.ok.inj x y c (L.sub x c e1) (L.sub y c e2),λx h=>L.has x h,(λx c z=>nomatch z),I.ok.hd,I.ok.frames,.inl rfl,λb hb=>?_,λb o e=>?_,?_,λb o e hb=>?_,λb hb hq=>?_,?_,λb hb=>I.stkFree b hb⟩,
  rfl,I.bare,Un.kept λb u e=>?_,⟨_,hns,λi x v e1 e2 e3=>?_⟩,λx c e=>?_,?_,λx c e=>I.freeC x c (L.sub x c e),λp hp=>?_,I.hok.kept old,?_⟩
 ·
  refine ⟨?_,λx c e z=>?_⟩
  ·show b≠(s.heap.push qaf).objs.size
   rcases List.mem_cons.mp hb with z|z
   ·rw[z];exact neS
   ·obtain ⟨o,e⟩:=ho b z
    exact ltS e
  ·rcases List.mem_cons.mp hb with q|q
   ·exact Nat.ne_of_lt (cellL x c e) (z.trans q)
   ·exact (hf b q).2.2.2.2.1 x c (L.sub x c e) z
 ·exact ⟨Heap.get?_push_of_some _ (I.bs b o e).1,(I.bs b o e).2⟩
 ·exact Nat.le_trans (Nat.le_trans I.ok.bsz I.sz) leS
 ·
  rcases List.mem_cons.mp hb with q|q
  ·exact neZ (I.bs b o e).1 q
  ·rcases (hf b q).2.2.2.1 with z|z
   ·exact I.ok.noex b o e z
   ·exact absurd (Nat.lt_of_lt_of_le (Heap.lt_size (I.ok.bs b o e).1) z) (Nat.lt_irrefl _)
 ·
  obtain ⟨h1,h2⟩:=stk b hq
  rcases List.mem_cons.mp hb with q|q
  ·exact Nat.ne_of_lt h1 q
  ·exact h2 q
 ·exact Heap.FunFrames.of_keeps (λb o e _=>⟨o,Heap.get?_push_of_some _ e,rfl⟩) I.stack
 ·exact hsb b u (Nat.ne_of_lt (Heap.lt_size e)) e
 ·
  obtain ⟨m,hn,hl⟩:=I.loc;have hi:vars.length<=i:=by
   apply Nat.le_of_not_lt
   intro z;rw[show lcσ vars.length fv σ=List.replicate vars.length none ++ fv.map λj=>(σ[j]?).join from rfl,List.getElem?_append_left (by simpa using z),List.getElem?_replicate_of_lt (by simpa using z)] at e2;cases e2
  obtain ⟨k,rfl⟩:∃ k,i=vars.length+k:=⟨i-vars.length,by omega⟩;have e1':frees[k]?=some x:=by
   have e1'':(vars ++ frees)[vars.length+k]?=some x:=e1;rw[List.getElem?_append_right (by omega)] at e1''
   simpa using e1''
  have e2':(fv.map λj=>(σ[j]?).join)[k]?=some (some v):=by
   rw[show lcσ vars.length fv σ=List.replicate vars.length none ++ fv.map λj=>(σ[j]?).join from rfl,List.getElem?_append_right (by simp)] at e2
   simpa using e2
  rw[List.getElem?_map] at e2';obtain ⟨j,hj,ej⟩:=Option.map_eq_some_iff.mp e2';have ej':σ[j]?=some (some v):=by
   cases q:σ[j]? with
   | none=>rw[q] at ej;cases ej
   | some y=>rw[q] at ej;exact congrArg some ej
  obtain ⟨f1,f2,f3,f4⟩:=fo.get e1' hj;obtain ⟨u,ru,lk⟩:=hl j x v f1 ej' (f2.elim (λz=>.inr (.inl z)) λz=>.inr (.inr z));refine ⟨u,ru,.inr ⟨f4,?_⟩⟩
  rcases lk with ⟨z,_⟩|⟨_,c,hc,o,q,d⟩
  ·rcases f2 with y|y<;>rw[y] at z<;>cases z
  ·exact ⟨c,f3.trans hc,o,old c o q,d⟩
 ·obtain ⟨v,o,q,d⟩:=I.cell x c (L.sub x c e)
  exact ⟨v,o,old c o q,d⟩
 ·exact I.hok.fresh leS
 ·have e:p=(s.heap.objs.size,qaf):=by
   have hp':p∈([]:List (Addr×Obj)) ++ [(s.heap.objs.size,qaf)]:=hp
   simpa using hp'
  subst e;refine ⟨hD,I.hok.fresh (Nat.le_refl _),neS,λq=>?_,λv q=>by have q':Data.seq _ _=Data.cell v:=q;cases q'⟩;exact Nat.lt_irrefl _ (stk _ q).1
 ·show (lcσ vars.length fv σ).length=(vars ++ frees).length
  simp[lcσ,fo.len]
end
def qtg (X:Cx) (ifs:List Expr) (t:TT):Prop:=
 ∀ (pins:List (Addr×Obj)) (s:Shared) (σ:St) (H:Hp) (Q:Bool->Hp->Prop),Inv X pins σ H s->t σ H Q ->
  wpAny (model X.prog X.w) X.A (forIn ifs true λc r=>if r=true then do let ok <- isTrue c X.env (eval c X.env);pure (ForInStep.yield ok) else pure (ForInStep.yield r)) (TP X pins σ Q) X.xe s
def qBl:TT:=λ_ H Q=>Q true H
theorem qhy {σ:St} {H:Hp} {Q:Bool->Hp->Prop} (h:Q true H):qBl σ H Q:=h
theorem qa5 {X:Cx}:qtg X [] qBl:=λ_ _ _ H _ I h=>wpAny_tests_nil ⟨H,I,h⟩
theorem qi3 {X:Cx} {c:Expr} {t:TT} (h:PT X c t):qtg X [c] t:=λpins s σ H Q I q=>wpAny_tests_one (h pins s σ H Q I q)
def qdx (J:It) (Q:VK) (g:TG) (tc:TT) (te:TE) (σc:St) (H1:Hp):Prop:=∃ W:Nat->Nat->List V->Hp->Prop,(∃ m,W 0 m [] H1)/\∀ i m ys H2,W i m ys H2 ->
 (J.stop i H2/\ys.length<=sizeLine/\∀ p,H2 p=none->Q (.ref p) (upd H2 p (.lst ys))) \/
 (J.go i H2/\ys.length<sizeLine/\∃ N:List V->Hp->Prop,(∀ zs H',N zs H'->∃ m',m'<m/\W (i+1) m' zs H')/\∀ x H3,J.yld i H2 x H3->g x σc H3 λσ4 H4=>tc σ4 H4 λb H5=>if b=true then te σ4 H5 λv H6=>N (ys ++ [v]) H6 else N ys H5)
def tLC (nv:Nat) (fv:List Nat) (wi:TI) (g:TG) (tc:TT) (te:TE):TE:=λσ H Q=>wi σ H λJ H1=>qdx J Q g tc te (lcσ nv fv σ) H1
theorem qhz {prog:Program} {w:World} {A:Around} {R:Result->Shared->Prop} {s:Shared} {elt target iter:Expr} {ifs:List Expr} {scope:Scope} {pos:Pos} {it acc:Value} {env:Env} (I:Nat->Shared->Prop)
  (turn:∀ n s,I n s->wpAny (model prog w) A (pyNext it) (λr s₁=>match r with
   | none=>R (.ok .next) s₁
   | some v=>wpAny (model prog w) A (letOwnedTupleGo target it v) (λ_ s₁'=>wpAny (model prog w) A (assign target env v) (λ_ s₂ =>
     wpAny (model prog w) A (forIn ifs true λc r=>if r=true then do let ok <- isTrue c env (eval c env);pure (ForInStep.yield ok) else pure (ForInStep.yield r)) (λok s₃ =>
      if ok=true then wpAny (model prog w) A (eval elt env) (λx s₄ =>
       wpAny (model prog w) A (call (.builtin "list.append") [acc,x]) (λ_ s₅=>∃ m,m<n/\I m s₅) (notedBy (model prog w) A env λe s'=>R (.error e) s') s₄) (notedBy (model prog w) A env λe s'=>R (.error e) s') s₃
      else ∃ m,m<n/\I m s₃) (notedBy (model prog w) A env λe s'=>R (.error e) s') s₂) (notedBy (model prog w) A env λe s'=>R (.error e) s') s₁') (notedBy (model prog w) A env λe s'=>R (.error e) s') s₁) (notedBy (model prog w) A env λe s'=>R (.error e) s') s)
  (n:Nat) (h:I n s):codeAny (model prog w) A (.compLoop (.ListComp elt [⟨target,iter,ifs,0⟩] scope pos) 0 it acc env) R s:=by
 refine codeAny_loop rfl I (λn s hI=>?_) n h
 show wpAny _ A ((compTurn (.ListComp elt [⟨target,iter,ifs,0⟩] scope pos) 0 it acc env).onRaise (λx=>do noteFrame x env;theTreesLotGoes x)) _ _ s
 refine wpAny_noted ?_;rw[compTurn_list];refine wpAny_bind (wpAny_standAt (wpAny_bind (wpAny_mono (turn n s hI) (λr s₁ h₁=>?_) λ_ _ h'=>h')))
 cases r with
 | none=>exact wpAny_pure h₁
 | some v =>
  refine wpAny_bind (wpAny_mono h₁ (λ_ s₁' h₁'=>?_) λ_ _ h'=>h');refine wpAny_bind (wpAny_mono h₁' (λ_ s₂ h₂=>wpAny_bind (wpAny_mono h₂ (λok s₃ h₃=>?_) λ_ _ h'=>h')) λ_ _ h'=>h')
  cases ok with
  | false=>exact wpAny_pure ⟨rfl,h₃⟩
  | true =>
   exact wpAny_bind (wpAny_bind (wpAny_mono h₃ (λx s₄ h₄=>wpAny_bind (wpAny_mono h₄ (λ_ s₅ h₅=>wpAny_pure (wpAny_pure ⟨rfl,h₅⟩)) λ_ _ h'=>h')) λ_ _ h'=>h'))
def qgi (nv:Nat) (g:TG):Prop:=∀ x σ H (K:St->Hp->Prop),g x σ H K->g x σ H λσ' H'=>K σ' H'/\σ'.length=σ.length/\∀ i,nv<=i->σ'[i]?=σ[i]?
theorem qco {nv i:Nat} (h:i<nv):qgi nv (qcr i):=λx σ H K q=>⟨q,by simp,λj hj=>by rw[List.getElem?_set_ne (by omega)]⟩
theorem qci {F:Frag} {nv i j:Nat} (hi:i<nv) (hj:j<nv):qgi nv (qsx F 2 (qcl (qcr i) (qcl (qcr j) qsw))):=λx σ H K ⟨a,xs,e,hq,hl,v,r,e1,v2,r2,e2,e3,q⟩ =>
 ⟨a,xs,e,hq,hl,v,r,e1,v2,r2,e2,e3,q,by simp,λk hk=>by rw[List.getElem?_set_ne (by omega),List.getElem?_set_ne (by omega)]⟩
abbrev lobj (us:List Value) (n:Nat):Obj:={ cls:=.type "list",data:=.seq us.toArray n }
theorem qwd {Y:Cx} {D it:Addr} {J:It} {fp:List Addr} {tn:Nat->Heap->Prop} {g:TG} {tc:TT} {te:TE} {Q:VK} {W:Nat->Nat->List V->Hp->Prop} {nv n0 m0:Nat} {σc:St} {H:Hp} {s:Shared}
  {elt target iter:Expr} {ifs:List Expr} {scope:Scope} {pos:Pos} {R:Result->Shared->Prop} (hx:Y.xe=λ_ _=>False)
  (hc:Y.calm=true) (hg:PG Y target g) (hk:qgi nv g) (hi:qtg Y ifs tc) (he:PE Y elt te) (T:Turn Y.prog Y.w Y.K target J fp it tn)
  (hnv:∀ i,i<nv->∀ v,σc[i]?≠some (some v))
  (d1:D≠Y.env.locals) (d2:D∈Y.ex) (d3:D ∉ Y.fs) (d4:∀ x c,Y.env.cells.lookup x=some c->c≠D) (d5:D ∉ fp) (d6:Y.pn=[])
  (hf:∀ b∈fp,b≠Y.env.locals/\b ∉ Y.fs/\(b∈Y.ex\/Y.s₀.heap.objs.size<=b)/\(∀ x c,Y.env.cells.lookup x=some c->c≠b))
  (I0:Inv Y [(D,lobj [] n0)] σc H s) (st:tn 0 s.heap) (fr:∀ b∈fp,H b=none) (w0:W 0 m0 [] H)
  (turn:∀ i m ys H2,W i m ys H2->(J.stop i H2/\ys.length<=sizeLine/\∀ p,H2 p=none->Q (.ref p) (upd H2 p (.lst ys))) \/
   (J.go i H2/\ys.length<sizeLine/\∃ N:List V->Hp->Prop,(∀ zs H',N zs H'->∃ m',m'<m/\W (i+1) m' zs H')/\∀ x H3,J.yld i H2 x H3->g x σc H3 λσ4 H4=>tc σ4 H4 λb H5=>if b=true then te σ4 H5 λv H6=>N (ys ++ [v]) H6 else N ys H5))
  (hend:∀ ys us n H' s',Inv Y [(D,lobj us n)] σc H' s'->Vals ys us->ys.length<=sizeLine->(∀ p,H' p=none->Q (.ref p) (upd H' p (.lst ys)))->R (.ok .next) s') :
  codeAny (model Y.prog Y.w) Y.A (.compLoop (.ListComp elt [⟨target,iter,ifs,0⟩] scope pos) 0 (.ref it) (.ref D) Y.env) R s:=by
 have fpok:∀ {H':Hp} {o:Obj},(∀ b∈fp,H' b=none)->∀ b∈fp,qhu Y [(D,o)] H' b:=fun {H' o} hn b hb=>by
  obtain ⟨f1,f2,f3,f4⟩:=hf b hb;refine ⟨hn b hb,f1,f2,f3,f4,λp hp=>?_⟩;rw[d6] at hp;have e:p=(D,o):=by simpa using hp
  rw[e];exact λz=>d5 (by rw[show D=b from z];exact hb)
 refine qhz (λn s'=>∃ i ys us k H',Inv Y [(D,lobj us k)] σc H' s'/\Vals ys us/\tn i s'.heap/\(∀ b∈fp,H' b=none)/\W i n ys H') ?_ m0 ⟨0,[],[],n0,H,I0,.nil,st,fr,w0⟩;rintro n s3 ⟨i,ys,us,k,H3,I3,rv,st3,fr3,w3⟩;have ex0:∀ {E':Value->Shared->Prop} {e:Value} {s':Shared},Y.xe e s'->E' e s':=fun {E' e s'} z=>by rw[hx] at z;exact z.elim
 rcases turn i n ys H3 w3 with ⟨stop,hz,q⟩|⟨go,hz,N,hN,step⟩
 ·refine thn (T.done Y rfl rfl rfl hc i _ s3 σc H3 _ I3 (fpok fr3) st3 stop) λr s4 hq__=>?_
  obtain ⟨hr,I4⟩:=hq__;subst hr;exact hend ys us k H3 s4 I4 rv hz q
 ·refine thn (T.item Y rfl rfl rfl hc i _ s3 σc H3 _ I3 (fpok fr3) st3 go) λr s4 hq__=>?_
  obtain ⟨u,hr,h4⟩:=hq__;subst hr;refine thn h4 λ_ s5 hq__=>?_
  obtain ⟨x,H5,I5,r5,y5,st5,fr5⟩:=hq__;have I5':=I5.pinned (fpok fr5) (T.obj _ _ st5);refine wpAny_mono (hg _ s5 σc H5 x u _ I5' r5 (hk x σc H5 _ (step x H5 y5))) (λ_ s6 hq__=>?_) λ_ _ z=>ex0 z
  obtain ⟨σ6,H6,I6,q6,l6,e6⟩:=hq__;have wk:∀ (i:Nat) v,σc[i]?=some (some v)->σ6[i]?=some (some v):=λi v e=>by
   by_cases h:nv<=i
   ·rw[e6 i h];exact e
   ·exact absurd e (hnv i (by omega) v)
  have back:∀ {o:Obj} {H':Hp} {s':Shared},Inv Y ([(D,o)] ++ qhv fp s5.heap) σ6 H' s'->Inv Y [(D,o)] σc H' s'/\tn (i+1) s'.heap/\∀ b∈fp,H' b=none:=fun {o H' s'} I'=>by
   refine ⟨(I'.unpinned).weak (by rw[<- l6]) wk,T.keep _ _ _ st5 λb hb o e=>(I'.pin (b,o) (List.mem_append_right _ (List.mem_append_right _ (qcb hb e)))).1,λb hb=>?_⟩;obtain ⟨o,e,_⟩:=T.obj _ _ st5 b hb;exact (I'.pin (b,o) (List.mem_append_right _ (List.mem_append_right _ (qcb hb e)))).2.1
  refine wpAny_mono (hi _ s6 σ6 H6 _ I6 q6) (λb s7 hq__=>?_) λ_ _ z=>ex0 z
  obtain ⟨H7,I7,q7⟩:=hq__
  cases b with
  | false =>
   obtain ⟨m',hm,w7⟩:=hN ys H7 q7;obtain ⟨I8,st8,fr8⟩:=back I7;exact ⟨m',hm,i+1,ys,us,k,H7,I8,rv,st8,fr8,w7⟩
  | true =>
   refine wpAny_mono (he _ s7 σ6 H7 _ I7 q7) (λu2 s8 hq__=>?_) λ_ _ z=>ex0 z
   obtain ⟨v,H8,I8,r8,n8⟩:=hq__;obtain ⟨m',hm,w8⟩:=hN _ H8 n8;obtain ⟨I9,st9,fr9⟩:=back I8;obtain ⟨eD,nD,_,_,_⟩:=I9.pin (D,lobj us k) (by simp);have hlen:=rv.length;refine call_meets F.slot_list_append ⟨_,eD,rfl⟩ F.entry_list_append (F.args_list_append_2 _ _) (PySem.list_append D us.toArray k u2 (by rw[List.size_toArray];omega)) ⟨eD,?_⟩;have q:=PySem.IsL.update eD (λx_1=>x_1.push u2);have eq:us.toArray.push u2=(us ++ [u2]).toArray:=by simp
   rw[eq] at q;obtain ⟨n',q⟩:∃ n',(s8.heap.update D (Obj.mapSeq λx_1=>x_1.push u2)).get? D=some (lobj (us ++ [u2]) n'):=⟨_,q⟩;have I10:Inv Y [] σc H8 s8:=I9.pins_of λp hp=>by cases hp
   have I11:Inv Y [] σc H8 { s8 with heap:=s8.heap.update D (Obj.mapSeq λx_1=>x_1.push u2),toks:=s8.toks }:=
    I10.turned (it:=D) (λb o hb e=>(Heap.get?_update_other s8.heap (Obj.mapSeq _) (Ne.symm hb)).trans e) nD d1 (.inl d2) d4 (λp hp=>by rw[d6] at hp;cases hp)
   refine ⟨m',hm,i+1,ys ++ [v],us ++ [u2],n',H8,I11.pins_of (λp hp=>?_),rv.append (.cons r8 .nil),?_,fr9,w8⟩
   ·have e:p=(D,lobj (us ++ [u2]) n'):=by simpa using hp
    subst e;exact ⟨q,nD,d1,d3,λv z=>by have z':Data.seq _ _=Data.cell v:=z;cases z'⟩
   ·refine T.keep _ _ _ st9 λb hb o e=>?_
    exact (Heap.get?_update_other s8.heap (Obj.mapSeq _) (λz=>d5 (by rw[z];exact hb))).trans e
section
variable {X:Cx} {pins:List (Addr×Obj)} {σ:St} {H:Hp} {s:Shared} {scope:Scope} {cl:List (Str×Addr)} {vars frees:List Str} {fv:List Nat} {elt target iter:Expr} {ifs:List Expr} {pos:Pos}
def qth (X:Cx) (pins:List (Addr×Obj)) (σ:St) (Q:VK) (D C:Addr) (s':Shared):Prop:=
 ∃ (ys:List V) (H':Hp) (oC:Obj) (m:Str->Option Value),Inv X (pins ++ [(C,oC)]) σ (upd H' D (.lst ys)) s'/\s'.heap.Ns C m/\qhu X pins (upd H' D (.lst ys)) C/\Q (.ref D) (upd H' D (.lst ys))
theorem qqr {J:It} {fp:List Addr} {it:Addr} {tn:Nat->Heap->Prop} {g:TG} {tc:TT} {te:TE} {Q:VK} {W:Nat->Nat->List V->Hp->Prop} {m0:Nat} {E:Value->Shared->Prop} {E2:Value->Addr->Value->Shared->Prop}
  (hc:X.calm=true) (L:qqp X scope cl) (fo:FvOk X scope cl frees fv) (hk:qgi vars.length g)
  (hg:∀ C s H ex,PG (blk X (vars ++ frees) scope cl C s H ex) target g) (hi:∀ C s H ex,qtg (blk X (vars ++ frees) scope cl C s H ex) ifs tc) (he:∀ C s H ex,PE (blk X (vars ++ frees) scope cl C s H ex) elt te)
  (I:Inv X pins σ H s) (T:Turn X.prog X.w X.K target J fp it tn) (st:tn 0 s.heap) (hf:∀ b∈fp,qhu X pins H b) (w0:W 0 m0 [] H)
  (turn:∀ i m ys H2,W i m ys H2->(J.stop i H2/\ys.length<=sizeLine/\∀ p,H2 p=none->Q (.ref p) (upd H2 p (.lst ys))) \/
   (J.go i H2/\ys.length<sizeLine/\∃ N:List V->Hp->Prop,(∀ zs H',N zs H'->∃ m',m'<m/\W (i+1) m' zs H')/\∀ x H3,J.yld i H2 x H3->g x (lcσ vars.length fv σ) H3 λσ4 H4=>tc σ4 H4 λb H5=>if b=true then te σ4 H5 λv H6=>N (ys ++ [v]) H6 else N ys H5)) :
  wpAny (model X.prog X.w) X.A (newList []) (λacc s₃=>wpAny (model X.prog X.w) X.A (newFunctionEnv scope X.env.globals cl [] X.env.qual none .none (some X.env)) (λcenv s₄ =>
   codeAny (model X.prog X.w) X.A (.compStart (.ListComp elt [⟨target,iter,ifs,0⟩] scope pos) 0 (.ref it) acc { cenv with scope:=relabel scope X.env })
    (λr s'=>match r with|.ok _=>∃ D,acc=.ref D/\qth X pins σ Q D cenv.locals s'|.error x=>E2 acc cenv.locals x s') s₄) E s₃) E s:=by
 have hoo:∀ b∈fp,∃ o,s.heap.get? b=some o:=λb hb=>let ⟨o,e,_⟩:=T.obj 0 _ st b hb;⟨o,e⟩
 refine wpAny_newObj_type (wpAny_newFunctionEnv L.nocell (by intro y hy;simp at hy) (λh₁ hns hsb=>?_) L.kind);dsimp only at hns hsb ⊢;have hC:(s.heap.push qaf).objs.size=s.heap.objs.size+1:=Heap.size_push ..;have keep1:∀ b o,b≠(s.heap.push qaf).objs.size->(s.heap.push qaf).get? b=some o->h₁.get? b=some o:=λb o hb e=>hsb.extBut b o hb (Heap.get?_push_of_some _ e)
 have I0:Inv (blk X (vars ++ frees) scope cl (s.heap.push qaf).objs.size { s with heap:=s.heap.push qaf } H (s.heap.objs.size :: fp)) [(s.heap.objs.size,qaf)] (lcσ vars.length fv σ) H { s with heap:=h₁,toks:=s.toks+([]:List (Str×Value)).length }:=
  qqq I L fo hf hoo (by simpa using hns) keep1
 have st1:tn 0 h₁:=T.keep 0 _ _ st λb hb o e=>keep1 b o (ltS e) (Heap.get?_push_of_some _ e)
 have loop:codeAny (model X.prog X.w) X.A (.compLoop (.ListComp elt [⟨target,iter,ifs,0⟩] scope pos) 0 (.ref it) (.ref s.heap.objs.size) (compEnvC scope cl (s.heap.push qaf).objs.size X.env))
   (λr s'=>match r with|.ok _=>∃ D,Value.ref s.heap.objs.size=.ref D/\qth X pins σ Q D (s.heap.push qaf).objs.size s'|.error x=>E2 (.ref s.heap.objs.size) (s.heap.push qaf).objs.size x s') { s with heap:=h₁,toks:=s.toks+([]:List (Str×Value)).length }:=by
  refine qwd (Y:=blk X (vars ++ frees) scope cl (s.heap.push qaf).objs.size { s with heap:=s.heap.push qaf } H (s.heap.objs.size :: fp)) (nv:=vars.length) (n0:=0) rfl hc (hg _ _ _ _) hk (hi _ _ _ _) (he _ _ _ _) T (λi hi v e=>?_)
   neS (by show s.heap.objs.size∈s.heap.objs.size :: fp;simp) ?_ (λx c e=>?_) (λz=>?_) rfl (λb hb=>?_) I0 st1 (λb hb=>(hf b hb).1) w0 turn ?_
  ·rw[show lcσ vars.length fv σ=List.replicate vars.length none ++ fv.map λj=>(σ[j]?).join from rfl,List.getElem?_append_left (by simpa using hi),List.getElem?_replicate_of_lt (by simpa using hi)] at e
   cases e
  ·exact (I0.pin (s.heap.objs.size,qaf) (by simp)).2.2.2.1
  ·obtain ⟨v,q⟩:=I.cell x c (L.sub x c e)
   exact Nat.ne_of_lt q.lt
  ·obtain ⟨o,e⟩:=hoo _ z
   exact absurd (Heap.lt_size e) (Nat.lt_irrefl _)
  ·exact ⟨(I0.ok.exf b (List.mem_cons_of_mem _ hb)).1,I0.ok.exfs b (List.mem_cons_of_mem _ hb),.inl (List.mem_cons_of_mem _ hb),(I0.ok.exf b (List.mem_cons_of_mem _ hb)).2⟩
  ·intro ys us n H' s' I' rv hz q
   obtain ⟨eD,nD,_,fD,_⟩:=I'.pin (s.heap.objs.size,lobj us n) (by simp);obtain ⟨mC,hnC,_⟩:=I'.loc;obtain ⟨oC,es,ep,eC,dC,r1,r2⟩:=id hnC;have nC:H' (s.heap.push qaf).objs.size=none:=I'.free;have neDC:(s.heap.push qaf).objs.size≠s.heap.objs.size:=neS.symm;have lt:∀ {b:Addr} {o:Obj},s.heap.get? b=some o->b≠s.heap.objs.size/\b≠(s.heap.push qaf).objs.size:=λe=>⟨neZ e,ltS e⟩
   have nex:∀ {b:Addr} {o:Obj},s.heap.get? b=some o->b ∉ fp->b ∉ s.heap.objs.size :: fp:=λe hb z=>by
    rcases List.mem_cons.mp z with z|z
    ·exact (lt e).1 z
    ·exact hb z
   have upn:∀ {b:Addr} {u:HO},H' b=some u->upd H' s.heap.objs.size (.lst ys) b=some u:=λe=>by rw[qao (qal e nD)];exact e
   have un:Un (frs X.stack) fp H (upd H' s.heap.objs.size (.lst ys)) s.heap s'.heap:=
    {keep:=λb o e n hb hx=>I'.base.keep b o (Heap.get?_push_of_some _ e) n hb (nex e hx)
     slot:=λb o e n hb hx=>I'.base.slot b o (Heap.get?_push_of_some _ e) n hb (nex e hx)
     free:=λb o e n hx=>by rw[qao (lt e).1];exact I'.base.free b o (Heap.get?_push_of_some _ e) n (nex e hx)
     there:=λb o e hx=>I'.base.there b o (Heap.get?_push_of_some _ e) (nex e hx)
     tups:=λb xs e=>upn (I'.base.tups b xs e)
     frzs:=λb o u e=>upn (I'.base.frzs b o u e)
     tbls:=λb ps e=>let ⟨more,z⟩:=I'.base.tbls b ps e;⟨more,upn z⟩ }
   have hok:HOk X.prog X.w (upd H' s.heap.objs.size (.lst ys)) s'.heap:=λb u e=>by
    by_cases hb:b=s.heap.objs.size
    ·subst hb;rw[qau] at e;cases e
     exact ⟨hz,us,n,rv,eD⟩
    ·rw[qao hb] at e
     exact (I'.hok b u e).stay (λc v _ z=>z) (λc z=>upn z) λc xs z=>upn z
   have J1:Inv X pins σ (upd H' s.heap.objs.size (.lst ys)) s':=I.call' (ch:=fp) I'.os un hok I'.bare λb hb=>⟨(hf b hb).2.2.2.1,(hf b hb).2.1,(hf b hb).2.2.2.2.1,(hf b hb).2.2.2.2.2⟩
   have fC:qhu X pins (upd H' s.heap.objs.size (.lst ys)) (s.heap.push qaf).objs.size:=I.fpOk leS (by rw[qao neDC];exact nC);refine ⟨_,rfl,ys,H',oC,mC,J1.pins_of (λp hp=>?_),hnC,fC,q _ nD⟩
   rcases List.mem_append.mp hp with z|z
   ·exact J1.pin p (List.mem_append_right _ z)
   ·have e:p=((s.heap.push qaf).objs.size,oC):=by simpa using z
    subst e;exact ⟨eC,fC.1,fC.2.1,fC.2.2.1,λv z=>by rw[dC] at z;cases z⟩
 exact codeAny_compStart_list loop (T.self _ 0 _ _ _ st1 loop)
theorem qdf {wi:TI} {g:TG} {tc:TT} {te:TE} (hc:X.calm=true) (L:qqp X scope cl) (fo:FvOk X scope cl frees fv) (hit:PI X target iter wi) (hk:qgi vars.length g)
  (hg:∀ C s H ex,PG (blk X (vars ++ frees) scope cl C s H ex) target g) (hi:∀ C s H ex,qtg (blk X (vars ++ frees) scope cl C s H ex) ifs tc) (he:∀ C s H ex,PE (blk X (vars ++ frees) scope cl C s H ex) elt te)
  (hs:∀ x,foldedSetIterable iter X.env x=pure x:=by intro _;rfl):PE X (.ListComp elt [⟨target,iter,ifs,0⟩] scope pos) (tLC vars.length fv wi g tc te):=by
 intro pins s σ H Q I h;rw[eval_ListComp];refine wpAny_comprehension_free (use:=none) rfl hs L.clos L.kind L.names (thn (hit pins s σ H _ I h) λv s1 h1=>thn h1 λitv s2 h2=>?_);obtain ⟨it,fp,tn,J,H2,e,I2,T,st2,f2,W,⟨m0,w0⟩,turn⟩:=h2;subst e;refine wpAny_mono (qqr (E:=X.xe) (E2:=λacc C x s'=>compPost (model X.prog X.w) X.A X.xe none (EP X pins σ Q) acc C (.error x) s') hc L fo hk hg hi he I2 T st2 f2 w0 turn) (λacc s3 h3=>thn h3 λcenv s4 h4=>codeAny_mono h4 λr s' h5=>?_) λ_ _ z=>z
 cases r with
 | error x=>exact h5
 | ok f =>
  obtain ⟨D,rfl,ys,H',oC,m,J1,hn,fC,q⟩:=h5;refine ⟨m,hn,λh' sb=>⟨.ref D,_,?_,rfl,q⟩⟩;exact J1.unpinned.turned (t':=s'.toks) (it:=cenv.locals) (λb o hb e=>(sb.2 b hb).trans e) fC.1 fC.2.1 fC.2.2.2.1 fC.2.2.2.2.1 fC.2.2.2.2.2
theorem qef {wi:TI} {g:TG} {tc:TT} {te:TE} {i:Nat} {x:Str} {spos pos':Pos} (hN:X.N.Nodup) (hix:X.N[i]?=some x) (hlx:Loc X.env.scope x) (hc:X.calm=true) (L:qqp X scope cl) (fo:FvOk X scope cl frees fv) (hit:PI X target iter wi) (hk:qgi vars.length g)
  (hg:∀ C s H ex,PG (blk X (vars ++ frees) scope cl C s H ex) target g) (hi:∀ C s H ex,qtg (blk X (vars ++ frees) scope cl C s H ex) ifs tc) (he:∀ C s H ex,PE (blk X (vars ++ frees) scope cl C s H ex) elt te)
  (hsw:swapsWith (.ListComp elt [⟨target,iter,ifs,0⟩] scope pos) (some (.Name x pos')) spos.line X.env=pure true:=by rfl)
  (hs:∀ x,foldedSetIterable iter X.env x=pure x:=by intro _;rfl) (hf:X.fn x=true\/X.env.scope.names.lookup x=some .local:=by first|exact .inl rfl|exact .inr rfl|assumption) :
  PS X (.Assign [.Name x pos'] (.ListComp elt [⟨target,iter,ifs,0⟩] scope pos) spos) (qAr (tLC vars.length fv wi g tc te) (qcr i)):=by
 intro pins s σ H Dn I h;rw[exec_Assign_Name_used _ _ _ _ hsw];refine wpAny_bind (wpAny_standAt (wpAny_bind ?_))
 show wpAny _ X.A (do let _ <- comprehension (.ListComp elt [⟨target,iter,ifs,0⟩] scope pos) scope X.env _ (newList []) false (eval iter X.env) (some (assign (.Name x pos') X.env))) _ _ s
 refine wpAny_bind (wpAny_mono (wpAny_comprehension_free (use:=some (assign (.Name x pos') X.env)) (Q:=λ_ s'=>SP X pins Dn .next s') rfl hs L.clos L.kind L.names (thn (hit pins s σ H _ I h) λv s1 h1=>thn h1 λitv s2 h2=>?_)) (λ_ s' hq=>wpAny_pure (wpAny_pure hq)) λ_ _ e=>e);obtain ⟨it,fp,tn,J,H2,e,I2,T,st2,f2,W,⟨m0,w0⟩,turn⟩:=h2;subst e;refine wpAny_mono (qqr (Q:=λx H1=>qcr i x σ H1 Dn.nx) (E:=X.xe) (E2:=λacc C y s'=>compPost (model X.prog X.w) X.A X.xe (some (assign (.Name x pos') X.env)) (λ_ s'=>SP X pins Dn .next s') acc C (.error y) s') hc L fo hk hg hi he I2 T st2 f2 w0 turn) (λacc s3 h3=>thn h3 λcenv s4 h4=>codeAny_mono h4 λr s' h5=>?_) λ_ _ z=>z
 cases r with
 | error y=>exact h5
 | ok f =>
  obtain ⟨D,rfl,ys,H',oC,m,J1,hn,fC,q⟩:=h5
  show wpAny (model X.prog X.w) X.A (assign (.Name x pos') X.env (.ref D)) (λ_ s''=>∃ m,s''.heap.Ns cenv.locals m/\∀ h',Heap.SameBut cenv.locals s''.heap h'->SP X pins Dn .next { s'' with heap:=h' }) X.xe s'
  refine thn (qga (i:=i) hN hix hlx hf _ s' σ _ (.ref D) (.ref D) (λσ' H''=>Dn.nx σ' H''/\H''=upd H' D (.lst ys)) J1 rfl ⟨q,rfl⟩) λ_ s6 hq__=>?_
  obtain ⟨σ6,H6,I6,q6,e6⟩:=hq__;subst e6;have eC:=(I6.pin (cenv.locals,oC) (by simp)).1;have eC':=(J1.pin (cenv.locals,oC) (by simp)).1;obtain ⟨o,es,ep,ho,r1⟩:=hn;rw[eC'] at ho;cases ho;refine ⟨m,⟨oC,es,ep,eC,r1⟩,λh' sb=>⟨σ6,_,?_,q6⟩⟩;exact I6.unpinned.turned (t':=s6.toks) (it:=cenv.locals) (λb o hb e=>(sb.2 b hb).trans e) fC.1 fC.2.1 fC.2.2.2.1 fC.2.2.2.2.1 fC.2.2.2.2.2
end
open PySem PySem.Spec PyProof.Rows
theorem qqs {K:Frag} {a:Addr} {xs:List V} {g:TG} {tc:TT} {te:TE} {Q:VK} {σ:St} {H:Hp} (Pv:Nat->List V->Hp->Prop) (hz:xs.length<=sizeLine) (h0:Pv 0 [] H) (hl:∀ i ys H,Pv i ys H->SqL K H a xs/\ys.length<=i)
  (hs:∀ i x ys H,xs[i]?=some x->Pv i ys H->g x σ H λσ4 H4=>tc σ4 H4 λb H5=>if b=true then te σ4 H5 λv H6=>Pv (i+1) (ys ++ [v]) H6 else Pv (i+1) ys H5)
  (hd:∀ ys H p,Pv xs.length ys H->H p=none->Q (.ref p) (upd H p (.lst ys))) :
  qdx (Itl K a) Q g tc te σ H:=by
 refine ⟨λi m ys H=>m=xs.length-i/\i<=xs.length/\Pv i ys H,⟨xs.length,by simp,Nat.zero_le _,h0⟩,?_⟩;rintro i m ys H2 ⟨rfl,hi,p⟩;obtain ⟨q,hy⟩:=hl i ys H2 p
 by_cases hlt:i<xs.length
 ·refine .inr ⟨⟨xs,xs[i],q,by simp[hlt]⟩,by omega,Pv (i+1),λzs H' p'=>⟨xs.length-(i+1),by omega,rfl,hlt,p'⟩,λx H3 y=>?_⟩
  obtain ⟨e,y⟩:=y;subst e;exact hs i x ys _ (y xs q) p
 ·have e:i=xs.length:=by omega
  subst e;exact .inl ⟨⟨xs,q,Nat.le_refl _⟩,by omega,λp' hp'=>hd ys H2 p' p hp'⟩
theorem qti {lo:Int} {n:Nat} {g:TG} {tc:TT} {te:TE} {Q:VK} {σ:St} {H:Hp} (Pv:Nat->List V->Hp->Prop) (hz:n<=sizeLine) (h0:Pv 0 [] H) (hl:∀ i ys H,Pv i ys H->ys.length<=i)
  (hs:∀ i ys H,i<n->Pv i ys H->g (.int (lo+i)) σ H λσ4 H4=>tc σ4 H4 λb H5=>if b=true then te σ4 H5 λv H6=>Pv (i+1) (ys ++ [v]) H6 else Pv (i+1) ys H5)
  (hd:∀ ys H p,Pv n ys H->H p=none->Q (.ref p) (upd H p (.lst ys))) :
  qdx (Itr lo n) Q g tc te σ H:=by
 refine ⟨λi m ys H=>m=n-i/\i<=n/\Pv i ys H,⟨n,by simp,Nat.zero_le _,h0⟩,?_⟩;rintro i m ys H2 ⟨rfl,hi,p⟩;have hy:=hl i ys H2 p
 by_cases hlt:i<n
 ·refine .inr ⟨hlt,by omega,Pv (i+1),λzs H' p'=>⟨n-(i+1),by omega,rfl,hlt,p'⟩,λx H3 y=>?_⟩
  obtain ⟨e,y⟩:=y;subst e y;exact hs i ys _ hlt p
 ·have e:i=n:=by omega
  subst e;exact .inl ⟨Nat.le_refl _,by omega,λp' hp'=>hd ys H2 p' p hp'⟩
theorem qut {K:Frag} {a b:Addr} {xs ys:List V} {g:TG} {tc:TT} {te:TE} {Q:VK} {σ:St} {H:Hp} (Pv:Nat->List V->Hp->Prop) (hz:xs.length<=sizeLine) (h0:Pv 0 [] H) (hl:∀ i zs H,Pv i zs H->SqL K H a xs/\SqL K H b ys/\zs.length<=i)
  (hs:∀ i x y zs H p,xs[i]?=some x->ys[i]?=some y->H p=none->Pv i zs H->g (.ref p) σ (upd H p (.tup [x,y])) λσ4 H4=>tc σ4 H4 λb H5=>if b=true then te σ4 H5 λv H6=>Pv (i+1) (zs ++ [v]) H6 else Pv (i+1) zs H5)
  (hd:∀ i zs H p,i=min xs.length ys.length->Pv i zs H->H p=none->Q (.ref p) (upd H p (.lst zs))) :
  qdx (Itz K a b) Q g tc te σ H:=by
 refine ⟨λi m zs H=>m=min xs.length ys.length-i/\i<=min xs.length ys.length/\Pv i zs H,⟨min xs.length ys.length,by simp,Nat.zero_le _,h0⟩,?_⟩;rintro i m zs H2 ⟨rfl,hi,p⟩;obtain ⟨qa,qb,hy⟩:=hl i zs H2 p
 by_cases hlt:i<min xs.length ys.length
 ·have ha:i<xs.length:=by omega
  have hb:i<ys.length:=by omega
  refine .inr ⟨⟨xs,ys,xs[i],ys[i],qa,qb,by simp[ha],by simp[hb]⟩,by omega,Pv (i+1),λzs H' p'=>⟨min xs.length ys.length-(i+1),by omega,rfl,hlt,p'⟩,λx H3 y=>?_⟩;obtain ⟨t,rfl,ht,y⟩:=y;have ea:xs[i]?=some xs[i]:=by simp[ha]
  have eb:ys[i]?=some ys[i]:=by simp[hb]
  rw[y xs ys xs[i] ys[i] qa qb ea eb];exact hs i xs[i] ys[i] zs H2 t ea eb ht p
 ·exact .inl ⟨⟨xs,ys,qa,qb,by omega⟩,by omega,λp' hp'=>hd i zs H2 p' (by omega) p hp'⟩
open PySem PySem.Spec PyProof.Rows
structure New (H H':Hp) (p:Addr) (o:HO):Prop where
 same:Same H H'
 fresh:H p=none
 at_:H' p=some o
theorem qax {H:Hp} {p:Addr} {o:HO} (h:H p=none):New H (upd H p o) p o:=⟨qi2 h,h,qau⟩
def But (l:Addr) (H H':Hp):Prop:=∀ b o,H b=some o->b≠l->H' b=some o
theorem but_upd {H:Hp} {l:Addr} {o:HO}:But l H (upd H l o):=λb u e n=>by rw[qao n];exact e
theorem But.same {H0 H H':Hp} {l:Addr} (b:But l H H') (s:Same H0 H) (h:H0 l=none):Same H0 H':=λc o e=>b c o (s c o e) (qal e h)
theorem But.tup {H H':Hp} {l:Addr} {o:HO} (b:But l H H') (h:H l=some o) (n:∀ xs,o≠.tup xs):∀ c xs,H c=some (.tup xs)->H' c=some (.tup xs):=λc xs e=>b c _ e (qav e h (λz=>n xs z.symm))
section
variable {X:Cx} {e:Expr} {es:List Expr} {te:TE} {t:TA} {pos:Pos}
def qBm (t:TA):TE:=λσ H Q=>t σ H λxs H1=>xs.length<=sizeLine/\∀ p H',New H1 H' p (.tup xs)->Q (.ref p) H'
def qwe (t:TA):TE:=λσ H Q=>t σ H λxs H1=>xs.length<=sizeLine/\∀ p H',New H1 H' p (.lst xs)->Q (.ref p) H'
theorem qaq {x1} (h:PA X es t):PE X (.Tuple es x1 pos) (qBm t):=by
 intro pins s σ H Q I hq;refine wpAny_Tuple_spliced (thn (h pos pins s σ H _ I hq) λus s1 ⟨xs,H1,I1,r,z,q⟩=>⟨by rw[<- r.length];exact z,?_⟩);have hf:H1 s1.heap.objs.size=none:=I1.hok.fresh (Nat.le_refl _);refine ⟨.ref s1.heap.objs.size,upd H1 s1.heap.objs.size (.tup xs),I1.laid (t':=s1.toks) (λb u e=>Heap.get?_push_of_some _ e) (Nat.le_refl _) ?_,rfl,q _ _ (qax hf)⟩;exact ⟨z,us,r,⟨_,Heap.get?_push_size _ rfl,rfl,_,rfl⟩⟩
theorem qay (h:PA X es t):PE X (.List es pos) (qwe t):=by
 intro pins s σ H Q I hq;refine wpAny_List_spliced (thn (h pos pins s σ H _ I hq) λus s1 ⟨xs,H1,I1,r,z,q⟩=>⟨by rw[<- r.length];exact z,?_⟩);have hf:H1 s1.heap.objs.size=none:=I1.hok.fresh (Nat.le_refl _);refine ⟨.ref s1.heap.objs.size,upd H1 s1.heap.objs.size (.lst xs),I1.laid (t':=s1.toks) (λb u e=>Heap.get?_push_of_some _ e) (Nat.le_refl _) ?_,rfl,q _ _ (qax hf)⟩;exact ⟨z,us,0,r,Heap.get?_push_size _ rfl⟩
theorem CallR.imp {f:Value} {r r':List V->Hp->VK->Prop} (h:CallR X f r) (i:∀ xs H Q,r' xs H Q->r xs H Q):CallR X f r':=λpins s σ H xs us Q I v q=>h pins s σ H xs us Q I v (i xs H Q q)
theorem OpR.imp {f:Value->Value->Sem Value} {r r':R2} (h:OpR X f r) (i:∀ x y H Q,r' x y H Q->r x y H Q):OpR X f r':=λpins s σ H x y v u Q I rx ry q=>h pins s σ H x y v u Q I rx ry (i x y H Q q)
theorem MtM.imp {id:String} {r r':V->List V->Hp->VK->Prop} (h:MtM X id r) (i:∀ x xs H Q,r' x xs H Q->r x xs H Q):MtM X id r':=λpins s σ H x xs v us Q I rx rv q=>h pins s σ H x xs v us Q I rx rv (i x xs H Q q)
theorem qbt:CallR X (.type "list") (λxs H Q=>∃ p ys,xs=[.ref p]/\(SqL X.K H p ys\/SqT X.K H p ys)/\∀ l H',New H H' l (.lst ys)->Q (.ref l) H'):=
 call_list_of.imp λ_ _ _ ⟨p,ys,e,h,q⟩=>⟨p,ys,e,h,λl hl=>q l _ (qax hl)⟩
inductive rSlLNS (K:Frag) (x:V) (lo hi:Option Int) (H:Hp) (Q:VK):Prop
 | mk:∀ a xs,x=.ref a->SqL K H a xs->(∀ p H',New H H' p (.lst (qj2 xs lo hi))->Q (.ref p) H')->rSlLNS K x lo hi H Q
def qBn (K:Frag):V->Option Int->Option Int->Hp->VK->Prop:=λx lo hi H Q=>rSlLNS K x lo hi H Q
theorem qeg:SlR X (qBn X.K):=λpins s σ H x v vl vu lo hi sl Q I rx hs p1 p2 ⟨a,xs,e,h,q⟩=>qv6 pins s σ H x v vl vu lo hi sl Q I rx hs p1 p2 ⟨a,xs,e,h,λp hp=>q p _ (qax hp)⟩
inductive quu  (x y:V) (H:Hp) (Q:VK):Prop
 | mk:∀ l b xs zs,x=.ref l->y=.ref b->H l=some (.lst xs)->H b=some (.lst zs)->xs.length+zs.length<=sizeLine->(∀ p H',New H H' p (.lst (xs ++ zs))->Q (.ref p) H')->quu x y H Q
def qBo:R2:=λx y H Q=>quu x y H Q
theorem qc0:OpR X (binaryOp .Add) qBo:=op_cat.imp λ_ _ _ _ ⟨l,b,xs,zs,e1,e2,h1,h2,z,q⟩=>⟨l,b,xs,zs,e1,e2,h1,h2,z,λp hp=>q p _ (qax hp)⟩
inductive rAppendNS  (x:V) (vs:List V) (H:Hp) (Q:VK):Prop
 | mk:∀ l xs y,x=.ref l->vs=[y]->H l=some (.lst xs)->xs.length<sizeLine->(∀ H',But l H H'->H' l=some (.lst (xs ++ [y]))->Q .non H')->rAppendNS x vs H Q
def qtj:V->List V->Hp->VK->Prop:=λx vs H Q=>rAppendNS x vs H Q
theorem qbd:MtM X "list.append" qtj:=mt_append.imp λ_ _ _ _ ⟨l,xs,y,e1,e2,h,z,q⟩=>⟨l,xs,y,e1,e2,h,z,q _ but_upd qau⟩
def qwf:V->List V->Hp->VK->Prop:=λx vs H Q=>∃ l xs,x=.ref l/\vs=[]/\H l=some (.lst xs)/\∀ H',But l H H'->H' l=some (.lst [])->Q .non H'
theorem qqt:MtM X "list.clear" qwf:=mt_clear.imp λ_ _ _ _ ⟨l,xs,e1,e2,h,q⟩=>⟨l,xs,e1,e2,h,q _ but_upd qau⟩
end
section
variable {X:Cx} {k:Nat} {C:Addr} {ps:List Str} {sp:Sp} {dvs:List V} {ds:List Value} {x f:Str} {p pos pos':Pos} {e o value:Expr} {es:List Expr} {ta tv:TE} {t:TA}
def qyx (C:Addr) (sp:Sp) (dvs:List V) (E:XK) (t:TA):TE:=λσ H Q=>t σ H λvs H1=>∀ x dx H',Same H1 H'->H1 x=none->H' x=some (.ins C dx [])->sp (.ref x :: (vs ++ dvs)) H' (λv H2=>v=.non/\Q (.ref x) H2) E
theorem qqu (D:qAz X.prog X.w X.K X.mg X.base C k x ps ds sp) (hr:Room (k+1) X.A) (hg:Gl X x) (hd:Vals dvs ds) (ha:PA X (e :: es) t) (hdb:(x == ("__debug__" : Str))=false:=by decide)
  (he:starEach (e :: es) X.env=(false,eval e X.env) :: starEach es X.env:=by rfl) (hpl:(backTo pos (starEach es X.env)).any (·.1)=false:=by rfl):PE X (.Call (.Name x p) (e :: es) [] pos) (qyx C sp dvs E0 t):=by
 obtain ⟨f,fd,F,hm,M,hb⟩:=D;intro pins s σ H Q I h;refine wpAny_Call_Name_kw (qeu I hg hm ?_ hdb);refine PySem.W.callWith_K (h₀:=X.base) I.ok.mod.kin M.kp (thn (ha pos pins s σ H _ I h) λus s1 ⟨vs,H1,I1,r,q⟩=>⟨I1.kIn,?_⟩) he hpl;refine qs6 M F hr hb hd qtd I1 r λy dx h1 h2 h3=>q y dx _ ?_ h1 qau
 exact (qi2 h2).trans (qi2 (by rw[qao h3.symm];exact h1))
def qBp (K:Frag) (ta tv:TE) (f:Str):TS:=λD σ H=>tv σ H λy H1=>ta σ H1 λx H2=>∃ a C dx fs,x=.ref a/\H2 a=some (.ins C dx fs)/\Cls K C/\NoAttr K C f/\fs.length<1000 /\
 ∀ H',But a H2 H'->H' a=some (.ins C dx (qeb f y fs))->D.nx σ H'
theorem qbx (ha:PE X o ta) (hv:PE X value tv) (hs:swapsWith value (some (.Attribute o f pos')) pos.line X.env=pure false):PS X (.Assign [.Attribute o f pos'] value pos) (qBp X.K ta tv f):=by
 intro pins s σ H D I h;refine plainObj_wpAny_Assign_Attribute (thn (hv pins s σ H _ I h) λu s1 ⟨y,H1,I1,ry,q⟩=>thn (ha pins s1 σ H1 _ I1 q) λov s2 hq__=>?_) hs;obtain ⟨x,H2,I2,rx,a,C,dx,fs,ex,ea,c,n,l,q2⟩:=hq__;subst ex;obtain rfl:ov=Value.ref a:=rx;exact qoq I2 ea c n l ry λs3 I3=>⟨σ,_,I3,q2 _ but_upd qau⟩
end
theorem qnb {K:Frag} {a b:Addr} {xs ys:List V} {g:TG} {tb:TS} {D:Ends} {σ:St} {H:Hp} (Pv:Nat->St->Hp->Prop) (h0:Pv 0 σ H) (hl:∀ i σ H,Pv i σ H->SqL K H a xs/\SqL K H b ys)
  (hs:∀ i x y σ H p H',xs[i]?=some x->ys[i]?=some y->New H H' p (.tup [x,y])->Pv i σ H->g (.ref p) σ H' λσ2 H2=>tb { D with nx:=Pv (i+1),ct:=Pv (i+1),bk:=D.nx } σ2 H2)
  (hd:∀ i σ H,i=min xs.length ys.length->Pv i σ H->D.nx σ H) :
  ∃ W:Nat->Nat->St->Hp->Prop,(∃ m,W 0 m σ H)/\∀ i m σ H,W i m σ H ->
   ((Itz K a b).stop i H/\D.nx σ H)\/((Itz K a b).go i H/\∃ N:St->Hp->Prop,(∀ σ' H',N σ' H'->∃ m',m'<m/\W (i+1) m' σ' H')/\∀ x H',(Itz K a b).yld i H x H'->g x σ H' λσ2 H2=>tb { D with nx:=N,ct:=N,bk:=D.nx } σ2 H2):=
 qwc Pv h0 hl (λi x y σ H p e1 e2 hn p'=>hs i x y σ H p _ e1 e2 (qax hn) p') hd
theorem qA0 {X:Cx} {scope:Scope} {cl:List (Str×Addr)} (clos:closureFor scope X.env=pure cl) (kind:scope.kind=.function) (nocell:∀ y∈scope.names,y.2≠.cell)
  (names:∀ y∈scope.names,y.2=.local->scope.names.lookup y.1=some .local) (sub:∀ p∈cl,X.env.cells.lookup p.1=some p.2)
  (has:((relabel scope X.env).names.all λy=>(y.2 != .cell && y.2 != .free) || (cl.lookup y.1).isSome)=true):qqp X scope cl:=by
 refine ⟨clos,kind,nocell,names,λx c e=>?_,λx h=>?_⟩
 ·have:∀ l:List (Str×Addr),l.lookup x=some c->(x,c)∈l:=λl=>by
   induction l with
   | nil=>intro z;simp at z
   | cons p r ih =>
    intro z;obtain ⟨y,d⟩:=p;rw[List.lookup_cons] at z
    by_cases q:(x == y)=true
    ·rw[q] at z
     have e1:x=y:=by simpa using q
     have e2:d=c:=Option.some.inj z;subst e1 e2;exact List.mem_cons_self
    ·have q':(x == y)=false:=by simpa using q
     rw[q'] at z;exact List.mem_cons_of_mem _ (ih z)
  exact sub (x,c) (this cl e)
 ·have:∀ (l:List (Str×NameKind)) (k:NameKind),l.lookup x=some k->(x,k)∈l:=λl k=>by
   induction l with
   | nil=>intro z;simp at z
   | cons p r ih =>
    intro z;obtain ⟨y,d⟩:=p;rw[List.lookup_cons] at z
    by_cases q:(x == y)=true
    ·rw[q] at z
     have e1:x=y:=by simpa using q
     have e2:d=k:=Option.some.inj z;subst e1 e2;exact List.mem_cons_self
    ·have q':(x == y)=false:=by simpa using q
     rw[q'] at z;exact List.mem_cons_of_mem _ (ih z)
  rw[List.all_eq_true] at has
  cases e:cl.lookup x with
  | some c=>exact ⟨c,rfl⟩
  | none =>
   rcases h with h|h
   ·have:=has _ (this _ _ h)
    rw[e] at this
    simp at this
   ·have:=has _ (this _ _ h)
    rw[e] at this
    simp at this
open PySem PySem.Spec PyProof.Rows
section
variable {X:Cx}
theorem qnc (hc:X.calm=true):CallR X (.builtin "sum") (λxs H Q=>∃ (p:Addr) (ns:List Int),xs=[.ref p]/\SqL X.K H p (ns.map V.int)/\Q (.int ns.sum) H):=by
 intro pins s σ H xs us Q I r h;obtain ⟨p,ns,rfl,hq,q⟩:=h;obtain ⟨u,rfl,ru⟩:=vals1 r
 cases (show u=Value.ref p from ru)
 obtain ⟨its,rv,pl,hz⟩:=I.list hq;have hi:IntsAre its ns:=L2.intsAre_of rv;have hn:=hi.numsOf;obtain ⟨ys,e⟩:=hi.allInts.items;have hl:=pl.isList;rw[e] at hl;refine sum_intListG (I.ok.hd hc) hl λh' tk t' hk=>⟨.int ns.sum,H,I.kept hk,⟨t',?_⟩,q⟩
 have e3:its=(intItems ys).toList:=by rw[<- e]
 rw[e3,nums_intItems] at hn;rw[preSum_eq,List.take_of_length_le (by simp),hn]
end
open PySem PySem.Spec PyProof.Rows
def FlT (h:Heap) (e T:Addr) (cls:Value) (dd:Option Addr) (fl:Value):Prop:=
 ∃ oe vs oT ts,h.get? e=some oe/\oe.cls=cls/\oe.dict=dd/\oe.data=.fields vs/\vs[1]?=some (.ref T)/\T≠e/\h.get? T=some oT/\oT.data=.fields ts/\ts[3]?=some fl/\(vs[2]?=some .none\/dd≠none)
def Fl0 (h:Heap) (e:Addr) (cls:Value) (dd:Option Addr):Prop:=
 ∃ oe vs,h.get? e=some oe/\oe.cls=cls/\oe.dict=dd/\oe.data=.fields vs/\vs[1]?=some .none/\(vs[2]?=some .none\/dd≠none)
def FpX (X:Cx) (H:Hp) (b:Addr):Prop:=
 H b=none/\b≠X.env.locals/\b ∉ X.fs/\X.s₀.heap.get? b=none/\(∀ x c,X.env.cells.lookup x=some c->c≠b)/\∀ p∈X.pn,p.1≠b
def Fly (X:Cx) (H:Hp) (h:Heap) (e:Addr) (cls:Value) (dd:Option Addr):Prop:=
 FpX X H e/\(Fl0 h e cls dd\/∃ T fl,FpX X H T/\FlT h e T cls dd fl)
abbrev XW:=Value->Option Addr->St->Hp->Prop
def XE (X:Cx) (W:XW) (ev:Value) (s:Shared):Prop:=
 ∃ e cls dd σ H,ev=.ref e/\Inv X [] σ H s/\Fly X H s.heap e cls dd/\W cls dd σ H
def qey (X:Cx):Prop:=X.stack=X.env :: X.outer/\X.env.frame=some X.env.locals/\X.ex=[]
section
variable {X:Cx} {σ:St} {H:Hp} {s:Shared} {h':Heap} {M:Model} {A:Around} {E:Value->Shared->Prop} {e T:Addr} {cls fl:Value} {dd:Option Addr}
theorem ObjOk.there {P:Program} {w:World} {H:Hp} {h:Heap} {a:Addr} {o:HO} (x:ObjOk P w H h a o):∃ u,h.get? a=some u:=by
 induction o with
 | lst xs=>obtain ⟨_,_,_,_,e⟩:=x;exact ⟨_,e⟩
 | tup xs=>obtain ⟨_,_,_,u,e,_⟩:=x;exact ⟨u,e⟩
 | dK kvs=>obtain ⟨_,_,_,_,u,_,_,e,_⟩:=x;exact ⟨u,e⟩
 | dT kvs=>obtain ⟨_,_,_,_,u,_,_,e,_⟩:=x;exact ⟨u,e⟩
 | set S n=>obtain ⟨u,_,_,_,e,_⟩:=x;exact ⟨u,e⟩
 | ins C dx fs=>obtain ⟨_,_,_,e,_⟩:=x;exact ⟨_,e⟩
 | own y=>exact x
 | xd fs=>obtain ⟨_,⟨u,_,_,e,_⟩,_⟩:=x;exact ⟨u,e⟩
 | met f y=>exact ⟨_,x⟩
 | rng lo hi=>obtain ⟨_,_,_,e⟩:=x;exact ⟨_,e⟩
 | frz u v _=>obtain ⟨e,_⟩:=x;exact ⟨_,e⟩
 | tbl ps=>exact ⟨_,x⟩
 | ext φ=>exact x.2.1
theorem Inv.fpX {H':Hp} {pins:List (Addr×Obj)} (hs:qey X) (I:Inv X pins σ H s) (hb:s.heap.get? e=none) (hn:H' e=none):FpX X H' e:=by
 refine ⟨hn,λz=>?_,λz=>?_,?_,λx c q z=>?_,λp hp z=>?_⟩
 ·obtain ⟨m,⟨o,_,_,ho,_⟩,_⟩:=I.loc
  rw[<- z,hb] at ho;cases ho
 ·obtain ⟨_,o,ho,_⟩:=I.funs.mem z
  rw[hb] at ho;cases ho
 ·cases q:X.s₀.heap.get? e with
  | none=>rfl
  | some o =>
   obtain ⟨o',ho'⟩:=I.base.there e o q (by rw[hs.2.2];simp);rw[hb] at ho';cases ho'
 ·obtain ⟨v,o,ho,_⟩:=I.cell x c q
  rw[z,hb] at ho;cases ho
 ·have:=(I.pin p (List.mem_append_left _ hp)).1
  rw[z,hb] at this;cases this
theorem Inv.noneOf {pins:List (Addr×Obj)} (I:Inv X pins σ H s) (hb:s.heap.get? e=none):H e=none:=by
 cases q:H e with
 | none=>rfl
 | some o =>
  obtain ⟨u,hu⟩:=(I.hok e o q).there;rw[hb] at hu;cases hu
theorem Inv.turnR {H':Hp} {t':Nat} {ch:List Addr} (I:Inv X [] σ H s) (hf:∀ b∈ch,FpX X H b) (k:∀ b u,b ∉ ch->b ∉ frs X.stack->s.heap.get? b=some u->h'.get? b=some u)
  (k2:∀ b u,b ∉ ch->s.heap.get? b=some u->∃ sl,h'.get? b=some { u with slots:=sl }) (hH:∀ b,b ∉ ch->H' b=H b) (hok:HOk X.prog X.w H' h'):Inv X [] σ H' { s with heap:=h',toks:=t' }:=by
 have sup:∀ b o,H b=some o->H' b=some o:=λb o q=>by rw[hH b (λz=>by rw[(hf b z).1] at q;cases q)];exact q
 have nosl:∀ b,b≠X.env.locals->b ∉ X.fs->b ∉ frs X.stack:=λb h1 h2 z=>(List.mem_cons.mp (I.stkSub b z)).elim h1 h2
 have neL:∀ b o,X.s₀.heap.get? b=some o->b≠X.env.locals:=λb o q=>Nat.ne_of_lt (Nat.lt_of_lt_of_le (Heap.lt_size q) I.ok.above)
 have neC:∀ b o,X.s₀.heap.get? b=some o->b ∉ ch:=λb o q hb=>by rw[(hf b hb).2.2.2.1] at q;cases q
 have cellK:∀ x c,X.env.cells.lookup x=some c->∀ v,s.heap.IsCell c v->h'.IsCell c v:=λx c q v ⟨o,ho,hd⟩=>by
  obtain ⟨sl,q'⟩:=k2 c o (λz=>(hf c z).2.2.2.2.1 x c q rfl) ho;exact ⟨_,q',hd⟩
 refine ⟨I.ok,I.os,I.bare,⟨λb o q n hb hx=>?_,λb o q n hb hx=>?_,λb o q n hx=>?_,λb o q hx=>?_,λb xs q=>sup _ _ (I.base.tups b xs q),λb o xs q=>sup _ _ (I.base.frzs b o xs q),λb ps q=>?_⟩,?_,λx c q=>?_,?_,λx c q=>?_,λp hp=>?_,hok,I.len⟩
 ·exact k b o (neC b o q) (nosl b (neL b o q) hb) (I.base.keep b o q n hb hx)
 ·obtain ⟨sl,e1⟩:=I.base.slot b o q n hb hx
  obtain ⟨sl',e2⟩:=k2 b _ (neC b o q) e1;exact ⟨sl',e2⟩
 ·rw[hH b (neC b o q)]
  exact I.base.free b o q n hx
 ·obtain ⟨o',e1⟩:=I.base.there b o q hx
  obtain ⟨sl',e2⟩:=k2 b _ (neC b o q) e1;exact ⟨_,e2⟩
 ·obtain ⟨m1,e1⟩:=I.base.tbls b ps q
  exact ⟨m1,sup _ _ e1⟩
 ·obtain ⟨m,hn,hl⟩:=I.loc
  refine ⟨m,?_,λi x v e1 e2 e3=>?_⟩
  ·obtain ⟨o,es,ep,ho,r⟩:=hn
   obtain ⟨sl,q⟩:=k2 _ o (λz=>(hf _ z).2.1 rfl) ho;exact ⟨_,es,ep,q,r⟩
  ·obtain ⟨u,r,l⟩:=hl i x v e1 e2 e3
   refine ⟨u,r,?_⟩
   rcases l with l|⟨kk,c,q,z⟩
   ·exact .inl l
   ·exact .inr ⟨kk,c,q,cellK x c q _ z⟩
 ·obtain ⟨v,z⟩:=I.cell x c q
  exact ⟨v,cellK x c q v z⟩
 ·rw[hH _ (λz=>(hf _ z).2.1 rfl)];exact I.free
 ·rw[hH _ (λz=>(hf _ z).2.2.2.2.1 x c q rfl)];exact I.freeC x c q
 ·obtain ⟨q,n,ne,nf,d⟩:=I.pin p hp
  have hp':p∈X.pn:=by
   have:p∈X.pn ++ ([]:List (Addr×Obj)):=hp
   simpa using this
  have nch:p.1 ∉ ch:=λz=>(hf p.1 z).2.2.2.2.2 p hp' rfl
  exact ⟨k p.1 p.2 nch (nosl p.1 ne nf) q,by rw[hH _ nch];exact n,ne,nf,d⟩
theorem Inv.turnS {t':Nat} {ch:List Addr} (I:Inv X [] σ H s) (hf:∀ b∈ch,FpX X H b) (k:∀ b u,b ∉ ch->b ∉ frs X.stack->s.heap.get? b=some u->h'.get? b=some u)
  (k2:∀ b u,b ∉ ch->s.heap.get? b=some u->∃ sl,h'.get? b=some { u with slots:=sl }):Inv X [] σ H { s with heap:=h',toks:=t' }:=by
 have nch:∀ b u,H b=some u->b ∉ ch:=λb u e z=>by rw[(hf b z).1] at e;cases e
 have nst:∀ b u,H b=some u->b ∉ frs X.stack:=λb u e z=>by rw[I.stkFree b z] at e;cases e
 refine I.turnR hf k k2 (λ_ _=>rfl) λb u e=>?_
 refine (I.hok b u e).stay (λc v hc q=>?_) (λ_ q=>q) λ_ _ q=>q
 rcases hc with z|z
 ·subst z;exact k _ v (nch _ u e) (nst _ u e) q
 ·exact k c v (nch c _ z) (nst c _ z) q
theorem Inv.track {o:HO} (I:Inv X [] σ H s) (hf:FpX X H e) (ok:ObjOk X.prog X.w (upd H e o) s.heap e o):Inv X [] σ (upd H e o) s:=by
 refine I.turnR (h':=s.heap) (t':=s.toks) (ch:=[e]) (λb hb=>by rw[List.mem_singleton.mp hb];exact hf) (λ_ _ _ _ q=>q) (λb u _ q=>⟨u.slots,q⟩) (λb hb=>qao (λz=>hb (by simp[z]))) λb u q=>?_
 by_cases hb:b=e
 ·subst hb;rw[qau] at q;cases q;exact ok
 ·rw[qao hb] at q
  exact (I.hok b u q).stay (λ_ _ _ q=>q) (λc q=>by rw[qao (qal q hf.1)];exact q) λc xs q=>by rw[qao (qal q hf.1)];exact q
theorem qnd {oe:Obj} {vs:Array Value} {head:Value} {hadNext:Bool} {Q:Unit->Shared->Prop} (hs:qey X) (hA:A.frames=some X.stack) (I:Inv X [] σ H s) (hp:FpX X H e)
  (he:s.heap.get? e=some oe) (hc:oe.cls=cls) (hdd:oe.dict=dd) (hd:oe.data=.fields vs) (hsz:1<vs.size) (cn:vs[2]?=some .none\/dd≠none)
  (k:∀ h' T,Inv X [] σ H { s with heap:=h' }->FpX X H T->FlT h' e T cls dd (rawInt X.env.locals)->Q () { s with heap:=h' }) :
  wpAny M A (do let a <- frameOf X.env;let pl <- entryPlaceOf X.env.locals hadNext;let b <- EntryCells.newEntry head a .none (rawInt X.env.locals) .none pl;setField (.ref e) 1 b) Q E s:=by
 have hs0:=hs;obtain ⟨hst,hfr,_⟩:=hs;have hl:=I.stack;rw[hst] at hl hA;have hene:e ∉ frs X.stack:=λhm=>by
  rcases List.mem_cons.mp (I.stkSub e hm) with z|z
  ·exact hp.2.1 z
  ·exact hp.2.2.1 z
 refine wpAny_bind (wpAny_frameOf_fun hA hl hfr λh₁ hs₁=>?_);refine wpAny_bind (wpAny_entryPlaceOf λpl hpl=>?_);unfold EntryCells.newEntry newFields;refine wpAny_bind (wpAny_newObj_type ?_ (hpl.sizeOk5 _ _ _ _ _));have S:(X.env :: X.outer).filterMap (·.frame)=frs X.stack:=by rw[hst];rfl
 rw[S] at hs₁;have he₁:h₁.get? e=some oe:=(hs₁.2.1 e hene).trans he
 generalize hob:({ cls:=.type "traceback",dict:=none,data:=.fields ([head,.ref X.env.locals,.none,rawInt X.env.locals,.none] ++ (if pl.isEmpty then List.replicate 6 Value.none else pl)).toArray }:Obj)=ob
 have hobd:ob.data=.fields ([head,.ref X.env.locals,.none,rawInt X.env.locals,.none] ++ (if pl.isEmpty then List.replicate 6 Value.none else pl)).toArray:=by rw[<- hob]
 have he₂:=Heap.get?_push_of_some (h:=h₁) ob he₁;refine wpAny_setField he₂ hd hsz ?_;have hTe:h₁.objs.size≠e:=Nat.ne_of_gt (Heap.lt_size he₁);have hd₃:=Obj.data_mapFields hd (·.setIfInBounds 1 (Value.ref h₁.objs.size));have he₃:=Heap.get?_update_self (Obj.mapFields (·.setIfInBounds 1 (Value.ref h₁.objs.size))) he₂ (Obj.isFreed_of_fields hd₃);have hT₃:=(Heap.get?_update_other (h₁.push ob) (Obj.mapFields (·.setIfInBounds 1 (Value.ref h₁.objs.size))) (Ne.symm hTe)).trans (Heap.get?_push_size h₁ (by rw[<- hob];rfl));have kk:∀ b o,b≠e->h₁.get? b=some o->((h₁.push ob).update e (Obj.mapFields (·.setIfInBounds 1 (Value.ref h₁.objs.size)))).get? b=some o:=λb o hb q=>by
  rw[Heap.get?_update_other _ _ (Ne.symm hb)];exact Heap.get?_push_of_some _ q
 refine k _ h₁.objs.size (I.turnS (t':=s.toks) (ch:=[e]) (λb hb=>by rw[List.mem_singleton.mp hb];exact hp) (λb u hb hn q=>?_) λb u hb q=>?_) (I.fpX hs0 (by rw[hs₁.1];exact Heap.get?_none_of_le (Nat.le_refl _)) (I.hok.fresh (by rw[hs₁.1];exact Nat.le_refl _))) ?_
 ·exact kk b u (λz=>hb (by simp[z])) ((hs₁.2.1 b hn).trans q)
 ·obtain ⟨sl,q'⟩:=hs₁.2.2 b u q
  exact ⟨sl,kk b _ (λz=>hb (by simp[z])) q'⟩
 ·refine ⟨_,_,_,_,he₃,(Obj.cls_mapFields _ _).trans hc,?_,hd₃,by simp[hsz],hTe,hT₃,hobd,by simp,by rw[Array.getElem?_setIfInBounds_ne (by decide)];exact cn⟩
  rw[<- hdd];obtain ⟨c9,d9,dt9,sl9⟩:=oe
  cases dt9<;>rfl
theorem qma {Q:Unit->Shared->Prop} (hs:qey X) (hA:A.frames=some X.stack) (I:Inv X [] σ H s) (F:Fly X H s.heap e cls dd)
  (k:∀ h' T,Inv X [] σ H { s with heap:=h' }->FpX X H T->FlT h' e T cls dd (rawInt X.env.locals)->Q () { s with heap:=h' }):wpAny M A (noteFrame (.ref e) X.env) Q E s:=by
 obtain ⟨hp,F⟩:=F;unfold noteFrame;simp only[hs.2.1]
 rcases F with ⟨oe,vs,he,hc,hdd,hd,h1,cn⟩|⟨T,fl,hT,oe,vs,oT,ts,he,hc,hdd,hd,h1,hTe,hoT,hdT,h3,cn⟩
 ·refine wpAny_bind (wpAny_field he hd h1 ?_)
  rw[if_neg (by decide)];exact qnd hs hA I hp he hc hdd hd (Array.getElem?_eq_some_iff.mp h1).1 cn k
 ·refine wpAny_bind (wpAny_field he hd h1 ?_)
  rw[if_pos (show (Value.ref T != Value.none)=true from by simp)];refine wpAny_bind (wpAny_field hoT hdT h3 ?_)
  by_cases hfl:(fl == rawInt X.env.locals)=true
  ·rw[if_pos hfl]
   have:=k s.heap T I hT ⟨oe,vs,oT,ts,he,hc,hdd,hd,h1,hTe,hoT,hdT,by rw[h3,beq_iff_eq.mp hfl],cn⟩;exact wpAny_pure this
  ·rw[if_neg hfl]
   refine wpAny_bind (wpAny_setField hoT hdT (Array.getElem?_eq_some_iff.mp h3).1 ?_);have other:∀ b,b≠T->(s.heap.update T (Obj.mapFields (·.setIfInBounds 3 Value.none))).get? b=s.heap.get? b:=λb hb=>Heap.get?_update_other _ _ (Ne.symm hb)
   have I2:Inv X [] σ H { s with heap:=s.heap.update T (Obj.mapFields (·.setIfInBounds 3 Value.none)) }:=
    I.turnS (t':=s.toks) (ch:=[T]) (λb hb=>by rw[List.mem_singleton.mp hb];exact hT) (λb u hb _ q=>(other b (λz=>hb (by simp[z]))).trans q) λb u hb q=>⟨u.slots,(other b (λz=>hb (by simp[z]))).trans q⟩
   exact qnd hs hA I2 hp ((other e (Ne.symm hTe)).trans he) hc hdd hd (Array.getElem?_eq_some_iff.mp h1).1 cn k
theorem qeh {Q:Unit->Shared->Prop} (fr:Option Addr) (I:Inv X [] σ H s) (hT:FpX X H T) (F:FlT s.heap e T cls dd fl)
  (k:∀ h',Inv X [] σ H { s with heap:=h' }->FlT h' e T cls dd (fr.elim .none λf=>rawInt f)->Q () { s with heap:=h' }):wpAny M A (setFlight (.ref e) fr) Q E s:=by
 obtain ⟨oe,vs,oT,ts,he,hc,hdd,hd,h1,hTe,hoT,hdT,h3,cn⟩:=F;have hsz3:3<ts.size:=(Array.getElem?_eq_some_iff.mp h3).1;have other:∀ b,b≠T->(s.heap.update T (Obj.mapFields (·.setIfInBounds 3 (fr.elim .none λf=>rawInt f)))).get? b=s.heap.get? b:=λb hb=>Heap.get?_update_other _ _ (Ne.symm hb)
 unfold setFlight;refine wpAny_bind (wpAny_field he hd h1 ?_);rw[if_pos (show (Value.ref T != Value.none)=true from by simp)];refine wpAny_setField hoT hdT hsz3 (k _ ?_ ?_)
 ·exact I.turnS (t':=s.toks) (ch:=[T]) (λb hb=>by rw[List.mem_singleton.mp hb];exact hT) (λb u hb _ q=>(other b (λz=>hb (by simp[z]))).trans q) λb u hb q=>⟨u.slots,(other b (λz=>hb (by simp[z]))).trans q⟩
 ·exact ⟨oe,vs,_,_,(other e (Ne.symm hTe)).trans he,hc,hdd,hd,h1,hTe,Heap.get?_update_self _ hoT (Obj.isFreed_of_fields (Obj.data_mapFields hdT _)),Obj.data_mapFields hdT _,by simp[hsz3],cn⟩
theorem qow {W:XW} (hs:qey X):PassesOwn (model X.prog X.w) X.A X.env (XE X W):=by
 rintro ev s ⟨e,cls,dd,σ,H,rfl,I,F,hw⟩;refine qma hs I.ok.frames I F λh1 T I1 hT F1=>?_
 unfold cameBackBy;obtain ⟨oe,vs,oT,ts,he,hc,hdd,hd,h1',hTe,hoT,hdT,h3,_⟩:=id F1;refine wpAny_bind (wpAny_field he hd h1' ?_);rw[if_neg (show ¬ (Value.ref T == Value.none)=true from by simp)];exact qeh _ I1 hT F1 λh2 I2 F2=>⟨e,cls,dd,σ,H,rfl,I2,⟨F.1,.inr ⟨T,_,hT,F2⟩⟩,hw⟩
end
def CX1 (P:Program) (w:World):CXT:=λouter H s E ev s'=>∃ e T cls dd H',ev=.ref e/\s'.os=s.os/\AllBare s'.gens/\Un (frs outer) [] H H' s.heap s'.heap/\HOk P w H' s'.heap/\FlT s'.heap e T cls dd .none/\H' e=none/\H' T=none /\
 s.heap.get? e=none/\s.heap.get? T=none/\E cls dd H'
theorem CX1.xe {X:Cx} {W:XW} {pins:List (Addr×Obj)} {σ:St} {H:Hp} {s s':Shared} {ev:Value} (hs:qey X) (I:Inv X pins σ H s) (h:CX1 X.prog X.w X.stack H s (λc d H'=>W c d σ H') ev s'):XE X W ev s':=by
 obtain ⟨e,T,cls,dd,H',rfl,os,bare,un,hok,F,he,hT,le,lT,q⟩:=h;have J:Inv X [] σ H s:=I.pins_of (by simp);have J':Inv X [] σ H' s':=by
  obtain ⟨hh,g,d,t,os'⟩:=s';obtain rfl:os'=s.os:=os;exact J.call (h':=hh) (g':=g) (d':=d) (t':=t) (ch:=[]) un hok bare (λb z=>absurd z (by simp))
 exact ⟨e,cls,dd,σ,H',rfl,J',⟨J.fpX hs le he,.inr ⟨T,_,J.fpX hs lT hT,F⟩⟩,q⟩
theorem quv {P:Program} {w:World} {K:Frag} {mg:Str->Option Value} {base:Heap} {N:List Str} {qual:Str} {scope:Scope} {f:Addr} {cd:Value} {A:Around} {outer:List Env} {s:Shared} {H:Hp} {E:XK} {ev:Value} {s':Shared}
  (h:XE (qpp (CX1 P w) P w K mg base N qual scope f cd A outer s H E) (λc d _ H'=>E c d H') ev s'):(qpp (CX1 P w) P w K mg base N qual scope f cd A outer s H E).xe ev s':=by
 obtain ⟨e,cls,dd,σ,H',rfl,I,F,q⟩:=h
 show wpAny _ _ (leaving _ _) _ _ _
 unfold leaving;refine wpAny_bind (qma (X:=qpp (CX1 P w) P w K mg base N qual scope f cd A outer s H E) ⟨rfl,rfl,rfl⟩ I.ok.frames I F λh1 T I1 hT F1=>?_);refine qeh none I1 hT F1 λh2 I2 F2=>?_
 exact ⟨e,T,cls,dd,H',rfl,I2.os,I2.bare,I2.base,I2.hok,F2,F.1.1,hT.1,F.1.2.2.2.1,hT.2.2.2.1,q⟩
def qox (X:Cx) (W:XW):Prop:=qey X/\∀ ev s,XE X W ev s->X.xe ev s
theorem XE.unwish {X:Cx} {E:Value->Shared->Prop} {W:XW} {ev:Value} {s:Shared} (h:XE (X.wish E) W ev s):XE X W ev s:=
 let ⟨e,cls,dd,σ,H,q,I,F,w⟩:=h;⟨e,cls,dd,σ,H,q,I.unwish,F,w⟩
theorem qa1 {X:Cx} {W:XW} (hs:qey X):qox (X.wish (XE X W)) W:=⟨hs,λ_ _ h=>h.unwish⟩
theorem qne {X:Cx} {W:XW} (hs:qey X):PassesOwn (model X.prog X.w) X.A X.env (X.wish (XE X W)).xe:=qow hs
theorem PSs.imp {X:Cx} {E:Value->Shared->Prop} {st:List Stmt} {t:TS} (hE:∀ ev s,E ev s->X.xe ev s) (h:PSs (X.wish E) st t):PSs X st t:=λpins s σ H D I hw =>
 wpAny_mono (h pins s σ H D (I.wish _) hw) (λ_ _ q=>q.unwish) λe s z=>hE e s z
section
variable {P:Program} {w:World} {K:Frag} {mg:Str->Option Value} {base:Heap}
abbrev bx (P:Program) (w:World) (K:Frag) (mg:Str->Option Value) (base:Heap) (N:List Str) (qual:Str) (scope:Scope) (f:Addr) (cd:Value) (A:Around) (outer:List Env) (s:Shared) (H:Hp) (E:XK):Cx:=
 (qpp (CX1 P w) P w K mg base N qual scope f cd A outer s H E).wish (XE (qpp (CX1 P w) P w K mg base N qual scope f cd A outer s H E) (λc d _ H'=>E c d H'))
theorem Fun.okX {x qual:Str} {st:Stmt} {f:Addr} {fd:FuncData} {N ps:List Str} {k:Nat} {sp:Sp} (F:Fun K x qual st f fd) (S:qag N ps (qab st)) (len:∀ vs H Q E,sp vs H Q E->vs.length=ps.length)
  (hbody:∀ (cdv:Value) (A:Around) (outer:List Env) (s:Shared) (H:Hp) (vs:List V) (Q:VK) (E:XK),Room k (A.deeper (envOfC qual (qab st) s.heap.objs.size f cdv))->sp vs H Q E ->
   ∃ t,PSs (bx P w K mg base N qual (qab st) f cdv A outer s H E) (qbr st) t/\t { nx:=λ_ H'=>Q .non H',rt:=Q } (start N vs) H):qfy P w K mg base (CX1 P w) (k+1) f fd ps sp:=by
 obtain ⟨oc,od,kV,doc,pm,an,cdv,ct,osl,rfl,lk,hcd⟩:=F.ex;refine qs7 lk hcd S len λA outer s H vs Q E hr hsp=>?_
 obtain ⟨t,h,q⟩:=hbody cdv A outer s H vs Q E hr hsp;exact ⟨t,h.imp λ_ _ z=>quv z,q⟩
theorem FunD.okX {x qual:Str} {st:Stmt} {dV:Value} {f:Addr} {fd:FuncData} {N ps:List Str} {k:Nat} {sp:Sp} (F:FunD K x qual st dV f fd) (S:qag N ps (qab st)) (len:∀ vs H Q E,sp vs H Q E->vs.length=ps.length)
  (hbody:∀ (cdv:Value) (A:Around) (outer:List Env) (s:Shared) (H:Hp) (vs:List V) (Q:VK) (E:XK),Room k (A.deeper (envOfC qual (qab st) s.heap.objs.size f cdv))->sp vs H Q E ->
   ∃ t,PSs (bx P w K mg base N qual (qab st) f cdv A outer s H E) (qbr st) t/\t { nx:=λ_ H'=>Q .non H',rt:=Q } (start N vs) H):qfy P w K mg base (CX1 P w) (k+1) f fd ps sp:=by
 obtain ⟨oc,od,kV,doc,pm,an,cdv,ct,osl,rfl,lk,hcd⟩:=F.ex;refine qs7 lk hcd S len λA outer s H vs Q E hr hsp=>?_
 obtain ⟨t,h,q⟩:=hbody cdv A outer s H vs Q E hr hsp;exact ⟨t,h.imp λ_ _ z=>quv z,q⟩
end
def qwg (P:Program) (w:World) (K:Frag) (mg:Str->Option Value) (base:Heap) (k:Nat) (x:Str) (ps:List Str) (ds:List Value) (sp:Sp):Prop:=
 ∃ f fd,qfy P w K mg base (CX1 P w) k f fd ps sp/\mg x=some (.ref f)/\keepIn K (.ref f)=true/\Binds K fd ps ds
def qwh (P:Program) (w:World) (K:Frag) (mg:Str->Option Value) (base:Heap) (C:Addr) (k:Nat) (m:Str) (ps:List Str) (ds:List Value) (sp:Sp):Prop:=
 ∃ f fd,qfy P w K mg base (CX1 P w) k f fd ps sp/\qp9 K C m f/\Binds K fd ps ds
def qqv (sp:Sp) (dvs:List V) (W:XW) (t:TA):TE:=λσ H Q=>t σ H λvs H1=>sp (vs ++ dvs) H1 Q λc d H'=>W c d σ H'
def qyy (C:Addr) (m:Str) (sp:Sp) (dvs:List V) (W:XW) (ta:TE) (t:TA):TE:=λσ H Q=>ta σ H λx H1=>qum C m x H1 (t σ H1 λvs H2=>sp (x :: (vs ++ dvs)) H2 Q λc d H'=>W c d σ H')
section
variable {X:Cx} {W:XW} {k:Nat} {f C:Addr} {fd:FuncData} {ps:List Str} {sp:Sp} {dvs:List V} {ds:List Value} {x m:Str} {p pos apos:Pos} {e o:Expr} {es:List Expr} {ta:TE} {t:TA}
theorem qqw {pins:List (Addr×Obj)} {σ:St} {H:Hp} {s:Shared} {Q:VK} {us:List Value} {vs:List V} (hW:qox X W) (F:qfy X.prog X.w X.K X.mg X.base (CX1 X.prog X.w) k f fd ps sp) (hr:Room k X.A) (hb:Binds X.K fd ps ds) (hd:Vals dvs ds)
  (I:Inv X pins σ H s) (r:Vals vs us) (h:sp (vs ++ dvs) H Q λc d H'=>W c d σ H'):wpAny (model X.prog X.w) X.A (call (.ref f) us) (EP X pins σ Q) X.xe s:=by
 have r2:Vals (vs ++ dvs) (us ++ ds):=r.append hd;have hl:(us ++ ds).length=ps.length:=by rw[<- r2.length];exact F.len _ _ _ _ h
 refine wpAny_call (codeAny_mono (F.run X.A X.stack s H ⟨us,[]⟩ (us ++ ds) (vs ++ dvs) Q _ hr I.env0 (hb s us I.kIn hl) r2 h) λr s' hq=>?_)
 cases r with
 | error e=>exact hW.2 _ _ (CX1.xe hW.1 I hq)
 | ok fl =>
  cases fl with
  | ret u=>exact I.after hq
  | next=>exact False.elim hq
  | brk=>exact False.elim hq
  | cont=>exact False.elim hq
theorem quw (hW:qox X W) (D:qwg X.prog X.w X.K X.mg X.base k x ps ds sp) (hr:Room k X.A) (hg:Gl X x) (hd:Vals dvs ds) (ha:PA X (e :: es) t) (hdb:(x == ("__debug__" : Str))=false:=by decide)
  (he:starEach (e :: es) X.env=(false,eval e X.env) :: starEach es X.env:=by rfl) (hpl:(backTo pos (starEach es X.env)).any (·.1)=false:=by rfl):PE X (.Call (.Name x p) (e :: es) [] pos) (qqv sp dvs W t):=by
 obtain ⟨f,fd,F,hm,hk,hb⟩:=D;intro pins s σ H Q I h;refine wpAny_Call_Name_kw (qeu I hg hm ?_ hdb);refine PySem.W.callWith_K (h₀:=X.base) I.ok.mod.kin hk (thn (ha pos pins s σ H _ I h) λus s1 ⟨vs,H1,I1,r,q⟩=>⟨I1.kIn,?_⟩) he hpl;exact qqw hW F hr hb hd I1 r q
theorem qff {pl:Sem Bool} (hW:qox X W) (he:PE X o ta) (c:Cls X.K C) (D:qwh X.prog X.w X.K X.mg X.base C k m ps ds sp) (hr:Room k X.A) (hd:Vals dvs ds) (ha:PA X (e :: es) t)
  (hst:starEach (e :: es) X.env=(false,eval e X.env) :: starEach es X.env:=by rfl) (hpl:(backTo pos (starEach es X.env)).any (·.1)=false:=by rfl)
  (ht:eval (.Call (.Attribute o m apos) (e :: es) [] pos) X.env=(do
   let ov <- eval o X.env
   standAt apos.atName
   let (f,first) <- holding [ov] (getMethod ov m pl)
   callWith pos f first (backTo pos (starEach (e :: es) X.env)) (backToKw pos (keywordEach [] X.env))):=by rfl) :
  PE X (.Call (.Attribute o m apos) (e :: es) [] pos) (qyy C m sp dvs W ta t):=by
 obtain ⟨f,fd,F,hm,hb⟩:=D;intro pins s σ H Q I h;refine PySem.W.methodCall_KW (pl:=pl) (thn (he pins s σ H _ I h) λu s1 hq__=>?_) ht;obtain ⟨x,H1,I1,rx,a,dx,fs,ex,ea,l,q⟩:=hq__;subst ex;obtain rfl:u=Value.ref a:=rx;refine qev I1 ea c hm l ?_;refine PySem.W.callWith_K (first:=[.ref a]) (h₀:=X.base) I.ok.mod.kin hm.kp (thn (ha pos pins s1 σ H1 _ I1 q) λus s2 ⟨vs,H2,I2,r,q2⟩=>⟨I2.kIn,?_⟩) hst hpl;exact qqw (us:=.ref a :: us) (vs:=.ref a :: vs) hW F hr hb hd I2 (.cons rfl r) q2
end
def qyz:List Value:=[.type "ValueError",.type "Exception",.type "BaseException",.type "object"]
def qwi (K:Frag) (C:Addr):Prop:=PySem.W.excIn K C qyz "ValueError.__new__" = true
theorem qy0 {K:Frag} {h:Heap} {C:Addr} {bmB:List Value} {newId:String} (X:K.In h) (q:PySem.W.excIn K C bmB newId=true) :
  ∃ bm N nm qn bs hd sn sub ab col dd k0 k1 k2 k3 k5 mN,h.get? C=some (excClassObj nm qn C N bs bm hd sn sub ab col dd k0 k1 k2 k3 k5 newId)/\h.Ns N mN/\mN "__init__" = none/\OwnTail h bmB bm:=by
 unfold PySem.W.excIn at q
 split at q
 case h_2=>cases q
 case h_1 dd cd sl ho =>
  split at q
  case h_2=>cases q
  case h_1 C' bm k0 k1 k2 k3 n k5 hm hsl =>
   simp only[Bool.and_eq_true,beq_iff_eq,Bool.not_eq_true'] at q;obtain ⟨⟨⟨⟨⟨q1,q2⟩,q3⟩,q4⟩,q5⟩,q6⟩:=q;subst q1 q2
   cases cd with
   | mk nm bs mro ns qn hd sn sub ab col del =>
    cases sl with
    | mk l =>
     have hm':mro=_:=hm;have hl':l=_:=hsl;have q3':del=false:=q3;subst hm' hl' q3';exact ⟨bm,ns,nm,qn,bs,hd,sn,sub,ab,col,dd,k0,k1,k2,k3,k5,_,X _ _ ho,.of_isNs (PySem.W.isNs_of_in X q5),PySem.W.nsMap_none_of_in X q5 q6,PySem.W.tail_of_in X q4⟩
def qy1 (W:XW) (C:Addr) (t:TA):TS:=λ_ σ H=>t σ H λvs H1=>vs.length<=sizeLine/\W (.ref C) none σ H1
theorem qBq {h h':Heap} {N:Addr} {m:Str->Option Value} (k:∀ b o,h.get? b=some o->h'.get? b=some o) (n:h.Ns N m):h'.Ns N m:=
 let ⟨o,es,ep,e,r⟩:=n;⟨o,es,ep,k _ _ e,r⟩
theorem qc1 {X:Cx} {W:XW} {C:Addr} {x:Str} {np cpos pos:Pos} {e:Expr} {es:List Expr} {t:TA} (hW:qox X W) (hc:X.calm=true) (hE:qwi X.K C) (hg:Gl X x) (hm:X.mg x=some (.ref C)) (ha:PA X (e :: es) t)
  (hdb:(x == ("__debug__" : Str))=false:=by decide) (he:starEach (e :: es) X.env=(false,eval e X.env) :: starEach es X.env:=by rfl) (hpl:(backTo cpos (starEach es X.env)).any (·.1)=false:=by rfl) :
  PS X (.Raise (some (.Call (.Name x np) (e :: es) [] cpos)) none pos) (qy1 W C t):=by
 intro pins s σ H D I h;obtain ⟨bm,N,nm,qn,bs,hd,sn,sub,ab,col,dd,k0,k1,k2,k3,k5,mN,hC,hN,hni,hT⟩:=qy0 I.ok.mod.kin hE;refine wpAny_Raise_call_subU PySem.F.excBase_ValueError (by decide +kernel) PySem.F.excBase_ValueError (C:=C) (nm:=nm) (q:=qn) (N:=N) (bs:=bs) (hdct:=hd) (sn:=sn) (sub:=sub) (ab:=ab) (col:=col) (dd:=dd) (k0:=k0) (k1:=k1) (k2:=k2) (k3:=k3) (k5:=k5) (hT.hasType (by decide +kernel)) (I.ok.hd hc) (by rw[he];show (false || (backTo cpos (starEach es X.env)).any (·.1))=false;rw[hpl];rfl) hni (qeu I hg hm ⟨rfl,?_⟩ hdb);have h2:=ha cpos pins s σ H _ I h;rw[he] at h2 ⊢;refine Calls.evalArgs_plain (thn h2 λus s1 ⟨vs,H1,I1,r,q1,q2⟩=>⟨rfl,by rw[<- r.length];exact q1,I1.bk _ _ hC,qBq I1.bk hN,hT.keeps I1.bk,λh' ex hx=>hW.2 _ _ ?_⟩);obtain ⟨tt,hex,_,_⟩:=hx.there;have J:Inv X [] σ H1 s1:=I1.pins_of (by simp);exact ⟨ex,.ref C,none,σ,H1,rfl,J.kept (t':=s1.toks) hx.keeps,⟨J.fpX hW.1 hx.new (J.noneOf hx.new),.inl ⟨_,_,hex,rfl,rfl,rfl,rfl,.inl rfl⟩⟩,q2⟩
open PySem PySem.Spec PyProof.Rows
def qnf (a:Addr) (cls:Value) (dd:Option Addr):HO:=.ext λh=>∃ oe vs,h.get? a=some oe/\oe.cls=cls/\oe.dict=dd/\oe.data=.fields vs/\(vs[2]?=some .none\/dd≠none)
abbrev hnd (X:Cx) (e:Addr):Cx:={ X with A:=X.A.mark (some (.ref e)),calm:=false,xe:=λ_ _=>False }
abbrev pnd (X:Cx) (pn:List (Addr×Obj)):Cx:={ X with pn:=pn }
section
variable {X:Cx} {pins:List (Addr×Obj)} {σ:St} {H:Hp} {s:Shared} {e:Addr}
theorem Inv.hnd (I:Inv X pins σ H s) (e:Addr):Inv (hnd X e) pins σ H s:=
 ⟨⟨I.ok.mod,I.ok.kind,I.ok.glob,I.ok.blt,I.ok.above,I.ok.inj,I.ok.has,I.ok.cab,(λz=>nomatch z),I.ok.frames,I.ok.stk,I.ok.exf,I.ok.bs,I.ok.bsz,I.ok.noex,I.ok.exfs,I.ok.funs,I.ok.frf⟩,I.os,I.bare,I.base,I.loc,I.cell,I.free,I.freeC,I.pin,I.hok,I.len⟩
theorem Inv.unhnd (hd:X.calm=true->X.A.handled=none) (I:Inv (L2.hnd X e) pins σ H s):Inv X pins σ H s:=
 ⟨⟨I.ok.mod,I.ok.kind,I.ok.glob,I.ok.blt,I.ok.above,I.ok.inj,I.ok.has,I.ok.cab,hd,I.ok.frames,I.ok.stk,I.ok.exf,I.ok.bs,I.ok.bsz,I.ok.noex,I.ok.exfs,I.ok.funs,I.ok.frf⟩,I.os,I.bare,I.base,I.loc,I.cell,I.free,I.freeC,I.pin,I.hok,I.len⟩
theorem Inv.pnd (I:Inv X pins σ H s):Inv (pnd X (X.pn ++ pins)) [] σ H s:=
 ⟨⟨I.ok.mod,I.ok.kind,I.ok.glob,I.ok.blt,I.ok.above,I.ok.inj,I.ok.has,I.ok.cab,I.ok.hd,I.ok.frames,I.ok.stk,I.ok.exf,I.ok.bs,I.ok.bsz,I.ok.noex,I.ok.exfs,I.ok.funs,I.ok.frf⟩,I.os,I.bare,I.base,I.loc,I.cell,I.free,I.freeC,λp hp=>I.pin p (by
  have:p∈(X.pn ++ pins) ++ ([]:List (Addr×Obj)):=hp
  simpa using this),I.hok,I.len⟩
theorem Inv.unpnd (I:Inv (L2.pnd X (X.pn ++ pins)) [] σ H s):Inv X pins σ H s:=
 ⟨⟨I.ok.mod,I.ok.kind,I.ok.glob,I.ok.blt,I.ok.above,I.ok.inj,I.ok.has,I.ok.cab,I.ok.hd,I.ok.frames,I.ok.stk,I.ok.exf,I.ok.bs,I.ok.bsz,I.ok.noex,I.ok.exfs,I.ok.funs,I.ok.frf⟩,I.os,I.bare,I.base,I.loc,I.cell,I.free,I.freeC,λp hp=>I.pin p (by
  show p∈(X.pn ++ pins) ++ ([]:List (Addr×Obj))
  simpa using hp),I.hok,I.len⟩
theorem SP.unpnd {E:Value->Shared->Prop} {D:Ends} {f:Flow} {s':Shared} (h:SP ((L2.pnd X (X.pn ++ pins)).wish E) [] D f s'):SP X pins D f s':=by
 cases f with
 | next=>obtain ⟨σ',H',I,q⟩:=h;exact ⟨σ',H',I.unwish.unpnd,q⟩
 | brk=>obtain ⟨σ',H',I,q⟩:=h;exact ⟨σ',H',I.unwish.unpnd,q⟩
 | cont=>obtain ⟨σ',H',I,q⟩:=h;exact ⟨σ',H',I.unwish.unpnd,q⟩
 | ret u=>obtain ⟨v,σ',H',I,r,q⟩:=h;exact ⟨v,σ',H',I.unwish.unpnd,r,q⟩
theorem Inv.gone {h':Heap} {t':Nat} {n:Str} {j:Nat} {m:Str->Option Value} {v:Option Value} (I:Inv X pins σ H s) (hN:X.N.Nodup) (hj:X.N[j]?=some n) (hm:s.heap.Ns X.env.locals m)
  (hl:∀ (i:Nat) (x:Str) (v:V),X.N[i]?=some x->σ[i]?=some (some v)->Vis X.env.scope x->∃ u,RelV v u/\Look X.env s.heap m x u)
  (hn:h'.Ns X.env.locals (λx=>if x=n then v else m x)) (hs:Heap.SameBut X.env.locals s.heap h'):Inv X pins (σ.set j none) H { s with heap:=h',toks:=t' }:=by
 have ne0:∀ b o,X.s₀.heap.get? b=some o->b≠X.env.locals:=λb o q=>Nat.ne_of_lt (Nat.lt_of_lt_of_le (Heap.lt_size q) I.ok.above)
 refine ⟨I.ok,I.os,I.bare,⟨λb o q n hb hx=>?_,λb o q n hb hx=>?_,I.base.free,λb o q hx=>?_,I.base.tups,I.base.frzs,I.base.tbls⟩,⟨_,hn,λi y v' e1 e2 e3=>?_⟩,λy c q=>?_,I.free,I.freeC,λp hp=>?_,λb u q=>?_,by simpa using I.len⟩
 ·exact (hs.2 b (ne0 b o q)).trans (I.base.keep b o q n hb hx)
 ·obtain ⟨sl,e1⟩:=I.base.slot b o q n hb hx
  exact ⟨sl,(hs.2 b (ne0 b o q)).trans e1⟩
 ·obtain ⟨o',e1⟩:=I.base.there b o q hx
  exact ⟨o',(hs.2 b (ne0 b o q)).trans e1⟩
 ·by_cases hij:i=j
  ·subst hij
   have hi:i<σ.length:=by rw[I.len];exact (List.getElem?_eq_some_iff.mp hj).1
   rw[List.getElem?_set_self hi] at e2;cases e2
  ·rw[List.getElem?_set_ne (Ne.symm hij)] at e2
   obtain ⟨u',r',q⟩:=hl i y v' e1 e2 e3;refine ⟨u',r',?_⟩
   rcases q with ⟨k,q⟩|⟨k,c,q,z⟩
   ·have ny:y≠n:=λz=>hij (qir hN e1 (z ▸ hj))
    exact .inl ⟨k,by simp[ny,q]⟩
   ·exact .inr ⟨k,c,q,z.sameBut hs (I.cne y c q)⟩
 ·obtain ⟨w',z⟩:=I.cell y c q
  exact ⟨w',z.sameBut hs (I.cne y c q)⟩
 ·obtain ⟨q,n,ne,nf,d⟩:=I.pin p hp
  exact ⟨(hs.2 p.1 ne).trans q,n,ne,nf,d⟩
 ·refine (I.hok b u q).stay (λc w' hc q'=>(hs.2 c ?_).trans q') (λ_ q=>q) λ_ _ q=>q
  rintro rfl
  rcases hc with z|z
  ·rw[<- z,I.free] at q;cases q
  ·rw[I.free] at z;cases z
theorem qwj {M:Model} {A:Around} {E:Value->Shared->Prop} {n:Str} {j:Nat} {pos:Pos} {Q:Unit->Shared->Prop} (I:Inv X pins σ H s) (hN:X.N.Nodup) (hj:X.N[j]?=some n) (hl:X.env.kindOf n=some .local)
  (k:∀ s',Inv X pins (σ.set j none) H s'->Q () s'):wpAny M A (do bindName X.env n .none;unbindBehindTheSuite X.env n pos) Q E s:=by
 obtain ⟨m,hm,hl'⟩:=id I.loc;exact wpAny_nameGoes_keeps hl hm (by rw[I.ok.kind];rfl) λh' v hn hs=>k _ (I.gone hN hj hm hl' hn hs)
end
def qCm (K:Frag) (C:Addr) (cls:Value):Prop:=∃ D,cls=.ref D/\PySem.W.ktsIn K D "BaseException" = true/\PySem.W.mroIn K D (.ref C)=some true
theorem qy2 {K:Frag} {h:Heap} {C:Addr} {base:Value} {r:Bool} {nm q:Str} {N:Addr} {bs bm:List Value} {hdct:Bool} {sn:List Str} {sub:List Value} {ab:Bool} {col:Option Bool} {dd:Option Addr} {k0 k1 k2 k3 k5:Option Value} {newId:String}
  (X:K.In h) (e:PySem.W.mroIn K C base=some r) (hC:h.get? C=some (excClassObj nm q C N bs bm hdct sn sub ab col dd k0 k1 k2 k3 k5 newId)):(Value.ref C :: bm).contains base=r:=by
 unfold PySem.W.mroIn PySem.W.clsIn at e
 split at e
 case h_1 ho =>
  have:=X _ _ ho;rw[hC] at this;cases this
  simpa using e
 case h_2=>simp at e
theorem qhn {M:Model} {A:Around} {E:Value->Shared->Prop} {K:Frag} {s:Shared} {e C D:Addr} {oe:Obj} {Q:Bool->Shared->Prop} (X:K.In s.heap) (he:s.heap.get? e=some oe) (hcls:oe.cls=.ref D)
  (hC:PySem.W.ktsIn K C "BaseException" = true) (hD:PySem.W.ktsIn K D "BaseException" = true) (hs:PySem.W.mroIn K D (.ref C)=some true) (hq:Q true s):wpAny M A (excMatches (.ref e) (.ref C)) Q E s:=by
 obtain ⟨nm,qn,N,bs,bm,hdct,sn,sub,ab,col,dd,k0,k1,k2,k3,k5,newId,gC,hb,_⟩:=PySem.W.kts_cls X hC;obtain ⟨nm',qn',N',bs',bm',hdct',sn',sub',ab',col',dd',k0',k1',k2',k3',k5',newId',gD,hb',_⟩:=PySem.W.kts_cls X hD;have hcB:(Value.ref C :: bm).contains (.type "BaseException")=true:=by rw[List.contains_cons,hb,Bool.or_true]
 have hcC:=qy2 X hs gD;have f:=tc_notTuple;obtain ⟨hp,g,d,tk,os⟩:=s;unfold excMatches
 repeat (first|(with_reducible refine wpAny_loadPart_at he ?_;rw[hcls])|with_reducible refine wpAny_loadPart_at gC ?_|(with_reducible refine wpAny_isSubtype_exc gC ?_;rw[hcB])|(with_reducible refine wpAny_isSubtype_exc gD ?_;rw[hcC])|wp_step)
 exact hq
def qy3 (D:Ends) (j:Nat):Ends:={ nx:=λσ H=>D.nx (σ.set j none) H,rt:=D.rt,bk:=λσ H=>D.bk (σ.set j none) H,ct:=λσ H=>D.ct (σ.set j none) H }
def hW (K:Frag) (C:Addr) (th:TS) (j:Nat) (D:Ends):XW:=λcls dd σ H=>qCm K C cls/\∀ e H',New H H' e (qnf e cls dd)->th (qy3 D j) (σ.set j (some (.ref e))) H'
open PySem PySem.Spec PyProof.Rows
structure qtk (K:Frag) (D:Addr):Prop where
 ga:PySem.W.findIn K (.ref D) "__getattribute__" = some (some (.builtin "BaseException.__getattribute__"))
 gt:PySem.W.findIn K (.ref D) "__getattr__" = some none
 cl:PySem.W.findIn K (.ref D) "__class__" = some (some (.builtin "object.__class__"))
 ob:PySem.W.mroIn K D (.type "object")=some true
 be:PySem.W.mroIn K D (.type "BaseException")=some true
 kt:PySem.W.ktsIn K D "BaseException" = true
section
variable {prog:Program} {w:World} {A:Around} {E:Value->Shared->Prop} {s:Shared} {K:Frag} {a D:Addr} {oe:Obj} {vs:Array Value}
theorem qqx {Q:Option Value->Shared->Prop} (X:K.In s.heap) (F:qtk K D) (he:s.heap.get? a=some oe) (hc:oe.cls=.ref D) (hd:oe.data=.fields vs) (hdx:∀ dx,oe.dict=some dx->∃ o,s.heap.get? dx=some o) (h:Q (some (.ref D)) { s with toks:=s.toks+1 }) :
  wpAny (model prog w) A (getAttr? (.ref a) "__class__") Q E s:=by
 obtain ⟨hh,g,d,t,os⟩:=s;have L0:PySem.W.Looks (model prog w) hh (typeOf (.ref a)) (.ref D):=hc ▸ (PySem.W.Looks.ld he).andThen .now;have L1:=PySem.W.looks_findIn (M:=model prog w) X F.ga;have L2':=PySem.W.looks_findIn (M:=model prog w) X F.gt;have L3:=PySem.W.looks_findIn (M:=model prog w) X F.cl;have L4:=PySem.W.looks_mroIn (M:=model prog w) X F.be;have f3:=(PySem.F.attr_ValueError).ga.bind (.ref a);have hx2:(Value.builtin "BaseException.__getattribute__" == Value.builtin "object.__getattribute__")=false:=by decide +kernel
 unfold getAttr? getAttrBy? getAttrBy;refine wpAny_bind (wpAny_mkText (wpAny_bind (wpAny_attempt (wpAny_holding (wpAny_bind (L0.at (wpAny_bind (L1.at ?_))))))));have hsel:(onTheHeap (Value.ref D) && Value.builtin "BaseException.__getattribute__" == Value.builtin "object.__getattribute__")=false:=by rw[hx2];rfl
 dsimp only;rw[if_neg (by rw[hsel];decide)];unfold getAttrByItsOwn;have hx0:(false && onTheHeap (Value.builtin "BaseException.__getattribute__"))=false:=rfl;unfold hookBefore;refine wpAny_bind ?_;rw[if_pos (show onTheHeap (Value.ref D)=true from rfl)];refine L2'.at ?_;refine wpAny_bind (wpAny_attempt (wpAny_holding ?_));unfold callGetattribute;rw[if_neg (by decide)];unfold boundAndCalled;rw[f3];refine wpAny_bind (wpAny_pure ?_);refine wpAny_call (codeAny_call_builtin PySem.F.attr_ValueError.ga.plain PySem.F.entry_bexc_ga ?_);have hk:builtinKind "BaseException.__getattribute__" = some .slot:=by decide +kernel
 have hsplit:splitId "BaseException.__getattribute__" = some ("BaseException", "__getattribute__"):=by decide +kernel
 have ha:=PySem.F.args_bexc_ga (.ref a) (.str "__class__" t);have hT5:(⟨hh,g,d,t,os⟩:Shared).TypeIs (.builtin "object.__class__") "getset_descriptor" :=PySem.F.typeOf_object_class;have f5:=PySem.F.typeOf_object_class;have f6:=PySem.F.slot_gs_get.lookup;have f7:=PySem.F.slot_gs_set.lookup;simp only[checkBuiltinCall,hk,hsplit];refine wpAny_bind ?_;unfold isInstance
 repeat (first|with_reducible refine L0.at ?_|with_reducible refine L4.at ?_|wp_step)
 refine L3.at ?_
 repeat (any_goals (first|assumption|with_reducible refine L0.at ?_|wp_step))
 obtain ⟨od,I⟩:∃ od,PySem.W.InstAt hh a oe D od:=by
  cases q:oe.dict with
  | none=>exact ⟨none,he,hc,by unfold PySem.W.notCls;rw[hd],by rw[q];trivial⟩
  | some dx =>
   obtain ⟨o,ho⟩:=hdx dx q;exact ⟨some o,he,hc,by unfold PySem.W.notCls;rw[hd],by rw[q];exact ho⟩
 refine PySem.W.class_get (s:=⟨hh,g,d,t+1,os⟩) (od:=od) X I F.ob ?_;refine wpAny_pure ?_;exact PySem.W.handed_on rfl (wpAny_pure h)
def qDd (a D:Addr) (h:Heap):Prop:=∃ oe vs,h.get? a=some oe/\oe.cls=.ref D/\oe.data=.fields vs/\∀ dx,oe.dict=some dx->∃ o,h.get? dx=some o
theorem qtl (F:qtk K D):PySem.W.KitX K (.ref a) (.ref D) (qDd a D) where
 ty:=λM h _ ⟨oe,vs,he,hc,_⟩=>hc ▸ (PySem.W.Looks.ld he).andThen .now
 it:=λ_ _ X _=>by
  obtain ⟨nm,qn,N,bs,bm,hdct,sn,sub,ab,col,dd,k0,k1,k2,k3,k5,newId,gD,_⟩:=PySem.W.kts_cls X F.kt;intro A' Q' E' s' k q;unfold isType loadHead;exact wpAny_bind (wpAny_loadPart (k _ _ gD) (wpAny_pure q))
 ne:=λh tp dd its n sl X htp=>by
  obtain ⟨nm,qn,N,bs,bm,hdct,sn,sub,ab,col,dd,k0,k1,k2,k3,k5,newId,gD,_⟩:=PySem.W.kts_cls X F.kt;refine Bool.eq_false_iff.mpr λq=>?_
  have e:D=tp:=Value.ref.inj (beq_iff_eq.mp q);subst e;rw[gD] at htp;have h2:=congrArg (Option.map Obj.cls) htp
  simp at h2
 ca:=λX ⟨oe,vs,he,hc,hd,hdx⟩ k=>qqx X F he hc hd hdx k
end
def qBr:V->Value
 | .ref C=>.ref C
 | .ty T=>.type T
 | _=>.none
theorem qei {X:Cx} {K:Frag} (hK:X.K=K):CallR X (.builtin "isinstance") (λxs H Q=>∃ a D dd c b,xs=[.ref a,c]/\H a=some (qnf a (.ref D) dd)/\qtk K D/\(∀ dx,dd=some dx->∃ fs,H dx=some (.xd fs))/\PySem.W.kitOne K (.ref D) (qBr c)=some b/\Q (.bl b) H):=by
 subst hK;intro pins s σ H xs us Q I r h;obtain ⟨a,D,dd,c,b,rfl,ha,F,hdd,e,q⟩:=h;obtain ⟨u,w',rfl,ru,rw'⟩:=vals2 r
 cases (show u=Value.ref a from ru)
 have hw:w'=qBr c:=by
  cases c<;>first|exact rw'|(exfalso;simp[PySem.W.kitOne,PySem.W.kitCls,qBr] at e)
 subst hw;obtain ⟨⟨oe,vs,he,hc,hdc,hd,_⟩,_⟩:=(show ObjOk X.prog X.w H s.heap a (qnf a (.ref D) dd) from I.hok a _ ha);refine PySem.W.kia_one (qtl F) I.kIn ⟨oe,vs,he,hc,hd,λdx z=>?_⟩ e (λz=>nomatch z) λtk=>⟨.bl b,H,I.tok tk,rfl,q⟩
 obtain ⟨fs,hx⟩:=hdd dx (hdc.symm.trans z);exact (I.hok dx _ hx).there
open PySem PySem.Spec PyProof.Rows
section
variable {X:Cx}
theorem qj9 (hc:X.calm=true):CallR X (.builtin "max") (λxs H Q=>∃ (p:Addr) (ns:List Int),xs=[.ref p]/\SqL X.K H p (ns.map V.int)/\0<ns.length/\∀ m,m∈ns->(∀ a∈ns,a<=m)->Q (.int m) H):=by
 intro pins s σ H xs us Q I r h;obtain ⟨p,ns,rfl,hq,hne,q⟩:=h;obtain ⟨u,rfl,ru⟩:=vals1 r
 cases (show u=Value.ref p from ru)
 obtain ⟨its,rv,pl,hz⟩:=I.list hq;have hi:IntsAre its ns:=L2.intsAre_of rv;obtain ⟨ys,e⟩:=hi.allInts.items;have hns:ns=ys.toList.map (·.1):=by rw[<- hi.numsOf,<- nums_intItems,<- e]
 have hl:=pl.isList;rw[e] at hl;have hsz:0<ys.size:=by have h3:=hne;rw[hns,List.length_map,Array.length_toList] at h3;exact h3
 refine max_intList (I.ok.hd hc) hl hsz λv h' tk hv hk=>?_
 obtain ⟨t,rfl⟩:=intItems_at hv;obtain ⟨h1,h2⟩:=argBest_gt (numAt ys) (ys.size-1);refine ⟨.int _,H,I.kept hk,⟨t,rfl⟩,q _ ?_ λa ha=>?_⟩
 ·rw[hns,numAt_eq];exact getD_mem (by rw[List.length_map,Array.length_toList];omega)
 ·rw[hns] at ha
  obtain ⟨j,hj,rfl⟩:=mem_getD ha;rw[List.length_map,Array.length_toList] at hj;rw[<- numAt_eq];exact h2 j (by omega)
theorem qqy (hc:X.calm=true):CallR X (.builtin "min") (λxs H Q=>∃ (p:Addr) (ns:List Int),xs=[.ref p]/\SqL X.K H p (ns.map V.int)/\0<ns.length/\∀ m,m∈ns->(∀ a∈ns,m<=a)->Q (.int m) H):=by
 intro pins s σ H xs us Q I r h;obtain ⟨p,ns,rfl,hq,hne,q⟩:=h;obtain ⟨u,rfl,ru⟩:=vals1 r
 cases (show u=Value.ref p from ru)
 obtain ⟨its,rv,pl,hz⟩:=I.list hq;have hi:IntsAre its ns:=L2.intsAre_of rv;obtain ⟨ys,e⟩:=hi.allInts.items;have hns:ns=ys.toList.map (·.1):=by rw[<- hi.numsOf,<- nums_intItems,<- e]
 have hl:=pl.isList;rw[e] at hl;have hsz:0<ys.size:=by have h3:=hne;rw[hns,List.length_map,Array.length_toList] at h3;exact h3
 refine min_intList (I.ok.hd hc) hl hsz λv h' tk hv hk=>?_
 obtain ⟨t,rfl⟩:=intItems_at hv;obtain ⟨h1,h2⟩:=argBest_lt (numAt ys) (ys.size-1);refine ⟨.int _,H,I.kept hk,⟨t,rfl⟩,q _ ?_ λa ha=>?_⟩
 ·rw[hns,numAt_eq];exact getD_mem (by rw[List.length_map,Array.length_toList];omega)
 ·rw[hns] at ha
  obtain ⟨j,hj,rfl⟩:=mem_getD ha;rw[List.length_map,Array.length_toList] at hj;rw[<- numAt_eq];exact h2 j (by omega)
end
theorem qh0:bootBuiltins "max" = some (.builtin "max"):=by decide +kernel
theorem qqz:bootBuiltins "min" = some (.builtin "min"):=by decide +kernel
theorem qb3:bootBuiltins "sorted" = some (.builtin "sorted"):=by decide +kernel
theorem qgj {X:Cx} (hs:qey X):qox X.nox (λ_ _ _ _=>False):=⟨hs,λ_ _ ⟨_,_,_,_,_,_,_,_,w⟩=>w⟩
open PySem PySem.Spec PyProof.Rows
theorem qwk {H H':Hp} {a:Addr} {o:HO} (s:Same H H') (h:H a=some o):H' a=some o:=s _ _ h
theorem qy4 {H H':Hp} {p a:Addr} {u o:HO} (n:New H H' p u) (h:H a=some o):H' a=some o:=n.same _ _ h
theorem qwl {H H1 H2:Hp} {p:Addr} {u:HO} (a:Same H H1) (n:New H1 H2 p u):Same H H2:=a.trans n.same
open PySem PySem.Spec PyProof.Rows
section
variable {X:Cx} {e e1:Expr} {te t1:TE} {pos p2:Pos}
end
def qDe (J:St->Hp->Prop) (t u:TS):TS:=λD σ H=>t { D with nx:=J } σ H/\∀ σ' H',J σ' H'->u D σ' H'
theorem qwm {X:Cx} {st:Stmt} {rest:List Stmt} {t u:TS} (J:St->Hp->Prop) (h1:PS X st t) (h2:PSs X rest u):PSs X (st :: rest) (qDe J t u):=by
 intro pins s σ H D I h;refine wpAny_execs_cons (thn (h1 pins s σ H { D with nx:=J } I h.1) λf s1 q=>?_)
 cases f with
 | next =>
  obtain ⟨σ',H',I',q⟩:=q;exact h2 pins s1 σ' H' D I' (h.2 σ' H' q)
 | ret v=>exact q
 | brk=>exact q
 | cont=>exact q
open PySem PySem.Spec PyProof.Rows
section
variable {prog:Program} {w:World} {A:Around} {R:Result->Shared->Prop} {I:Addr} {fp wr:List Addr} {n:Nat} {P:Nat->Value->Prop} {St:Nat->Heap->Prop} {d:Value}
end
section
variable {X:Cx}
theorem qgk:∀ {bs:List Bool} {us:List Value},Vals (bs.map V.bl) us->us=bs.map Value.bool
 | [],_,.nil=>rfl
 | b :: r,_,.cons h t=>by cases (show _=Value.bool b from h);rw[qgk t];rfl
theorem qng (hc:X.calm=true):CallR X (.builtin "all") (λxs H Q=>∃ (p:Addr) (bs:List Bool),xs=[.ref p]/\SqL X.K H p (bs.map V.bl)/\Q (.bl (bs.all id)) H):=by
 intro pins s σ H xs us Q I r h;obtain ⟨p,bs,rfl,hq,q⟩:=h;obtain ⟨u,rfl,ru⟩:=vals1 r
 cases (show u=Value.ref p from ru)
 obtain ⟨its,rv,pl,hz⟩:=I.list hq;have hl:=pl.isList;have hlt:p<s.heap.objs.size:=by obtain ⟨_,e,_⟩:=hl;exact Heap.lt_size e
 have hb:=qgk rv;refine call_all_walk (wpAny_pyIter_list hl ?_);refine ⟨s.heap.objs.size,[s.heap.objs.size,p],[s.heap.objs.size],its.toArray.size,_,_,λi=>(bs[i]?).getD true,rfl,Walks.list (A:=X.A.in1) (I.ok.hd hc) _ p (Nat.ne_of_lt hlt) its.toArray,
  ⟨⟨_,Heap.get?_push_size _ rfl,rfl,rfl⟩,hl.push _⟩,λi v s' Q' E' hP hQ=>?_,λh' tk hk=>?_⟩
 ·rw[hb] at hP
  have hP':(bs.map Value.bool)[i]?=some v:=by simpa using hP
  rw[List.getElem?_map] at hP';obtain ⟨b,e1,e2⟩:=Option.map_eq_some_iff.mp hP';subst e2;simp only[e1,Option.getD_some] at hQ;exact wpAny_truthy_bool hQ
 ·have e:((List.range its.toArray.size).all λi=>(bs[i]?).getD true)=bs.all id:=by
   rw[List.size_toArray,hb,List.length_map];exact PyProof.Rows.LSm.range_all bs
  rw[e];refine ⟨.bl _,H,I.kept λb o q=>hk b o (λhm=>?_) (Heap.get?_push_of_some _ q),rfl,q⟩;rw[List.mem_singleton.mp hm] at q;exact absurd (Heap.lt_size q) (Nat.lt_irrefl _)
end
theorem qux:bootBuiltins "all" = some (.builtin "all"):=by decide +kernel
open PySem PyProof PyProof.Rows
section
variable {X:Cx}
end
open PySem PySem.Spec PyProof.Rows
section
variable {prog:Program} {w:World} {A:Around} {E:Value->Shared->Prop} {s:Shared}
end
section
variable {X:Cx}
end
open PySem PySem.Spec PyProof.Rows
def RawD (h:Heap) (d:Addr) (es:Array DictEntry) (ep:Nat):Prop:=∃ o,h.get? d=some o/\o.ExactDict/\o.data=.dict es ep
theorem RawD.ty {s:Shared} {d:Addr} {es:Array DictEntry} {ep:Nat} (x:RawD s.heap d es ep):s.TypeIs (.ref d) "dict" :=let ⟨o,a,b,_⟩:=x;⟨o,a,b.1⟩
theorem RawD.up {h h':Heap} {d:Addr} {es:Array DictEntry} {ep:Nat} (x:RawD h d es ep) (e:∀ o,h.get? d=some o->h'.get? d=some o):RawD h' d es ep:=let ⟨o,a,b⟩:=x;⟨o,e o a,b⟩
theorem RawD.lt {h:Heap} {d:Addr} {es:Array DictEntry} {ep:Nat} (x:RawD h d es ep):d<h.objs.size:=let ⟨_,a,_⟩:=x;Heap.lt_size a
section
variable {prog:Program} {w:World} {A:Around} {E:Value->Shared->Prop} {s:Shared}
abbrev qBs (d:Addr) (n ep:Nat):Obj:={ cls:=.type "dict_keyiterator",data:=.fields #[.ref d,.int 0 0,.int n 0,.int ep 0] }
theorem qwn {d:Addr} {es:Array DictEntry} {ep:Nat} {Q:Value->Shared->Prop} (lo:(d == sysModules)=false) (hm:RawD s.heap d es ep) (hQ:Q (.ref s.heap.objs.size) { s with heap:=s.heap.push (qBs d es.size ep) }) :
  wpAny (model prog w) A (pyIter (.ref d)) Q E s:=by
 have ty:=hm.ty;obtain ⟨o,h1,h2,h3⟩:=hm;refine wpAny_pyIter_slot ty F.slot_dict_iter (wpAny_call_entry F.slot_dict_iter ty F.entry_dict_iter ?_ (F.args_dict_iter_1 _));unfold Builtin.«dict.__iter__»;refine wpAny_bind ?_;unfold Builtin.Dict.dictSlotNone;refine wpAny_bind (wpAny_notOrdered_dict ty ?_)
 show wpAny _ _ (pure (Value.ref d)) _ _ s;refine wpAny_pure ?_
 show wpAny _ _ (Builtin.Dict.showsAll d >>= _) _ _ s;unfold Builtin.Dict.showsAll
 rw[if_neg (by rw[lo];exact Bool.false_ne_true)];refine wpAny_bind (wpAny_pure ?_);refine wpAny_bind (wpAny_dictEntries h1 h3 ?_);refine wpAny_bind (wpAny_dictEpoch h1 h3 ?_);refine wpAny_bind (wpAny_newObj_type (wpAny_pure ⟨_,rfl, "dict_keyiterator",_,⟨_,Heap.get?_push_size _ rfl,rfl⟩,F.slot_dict_keyiterator_next.lookup,?_⟩));simpa [rawInt] using hQ
theorem qwo {it d:Addr} {i ep:Nat} {es:Array DictEntry} {Q:Option Value->Shared->Prop} (hJ:s.heap.IsKeyIter it d i es.size ep) (hm:RawD s.heap d es ep) (hx:i<es.size)
  (hQ:∀ h',h'.IsKeyIter it d (i+1) es.size ep->Heap.SameBut it s.heap h'->Q (some es[i].key) { s with heap:=h' }):wpAny (model prog w) A (pyNext (.ref it)) Q E s:=by
 obtain ⟨o,ho,hc,hd⟩:=id hJ;obtain ⟨od,h1,h2,h3⟩:=hm;have ty:=hJ.typeIs;unfold pyNext;refine wpAny_bind (wpAny_attempt (wpAny_callSpecial?_slot (name:=Str.ofString "__next__") ty F.slot_dict_keyiterator_next (wpAny_call_entry F.slot_dict_keyiterator_next ty F.entry_dict_keyiterator_next ?_ (F.args_dict_keyiterator_next_1 _))));refine wpAny_bind (wpAny_pure ?_);refine wpAny_bind ?_;refine wpAny_bind ?_
 first|refine wpAny_bind (wpAny_typeNameOfWhole_keyiter ty (wpAny_pure ?_))|refine wpAny_bind (wpAny_typeNameOf_keyiter ty (wpAny_pure ?_))
 refine wpAny_bind (wpAny_fieldsOf ho hd ?_);simp only[show Builtin.Dict_items.ownsTuple "dict_keyiterator" = false by decide,Bool.false_eq_true,if_false]
 show wpAny _ _ (if (Value.ref d == Value.none)=true then _ else _) _ _ s;rw[if_neg (show ¬ ((Value.ref d == Value.none)=true) from Bool.false_ne_true)]
 refine wpAny_bind (wpAny_pure ?_);refine wpAny_bind (wpAny_dictEntries h1 h3 ?_);rw[if_neg (by simp)];refine wpAny_bind (wpAny_pure ?_);refine wpAny_bind (wpAny_dictEpoch h1 h3 ?_);rw[if_neg (by simp)];refine wpAny_pure ?_;simp only[show ¬ ((i:Int)<0) from by omega,if_false,Int.toNat_natCast,Array.getElem?_eq_getElem hx];refine wpAny_bind ?_
 first|refine wpAny_bind (wpAny_typeNameOfWhole_keyiter ty (wpAny_pure ?_))|refine wpAny_bind (wpAny_typeNameOf_keyiter ty (wpAny_pure ?_))
 refine wpAny_bind (wpAny_isOneOf_keyiter ty ?_)
 show wpAny _ _ (setField (.ref it) 1 (rawInt ((i:Int)+1)) >>= _) _ _ s;refine wpAny_bind (wpAny_setField ho hd (by simp) ?_)
 have hJ':(s.heap.update it (Obj.mapFields (·.setIfInBounds 1 (rawInt ((i:Int)+1))))).IsKeyIter it d (i+1) es.size ep:=⟨_,Heap.get?_update_self _ ho (Obj.isFreed_of_fields (Obj.data_mapFields hd _)),(Obj.cls_mapFields ..).trans hc,by rw[Obj.data_mapFields hd];simp[rawInt]⟩;refine wpAny_bind (wpAny_holding ?_);refine wpAny_bind (wpAny_isOneOf_keyiter (s:={ s with heap:=s.heap.update it (Obj.mapFields (·.setIfInBounds 1 (rawInt ((i:Int)+1)))) }) hJ'.typeIs ?_)
 show wpAny _ _ (pure es[i].key) _ _ _
 exact wpAny_pure (wpAny_pure ⟨_,rfl,wpAny_pure (hQ _ hJ' (Heap.SameBut.update ..))⟩)
theorem qy5 {it d:Addr} {ep:Nat} {es:Array DictEntry} {Q:Option Value->Shared->Prop} (hh:A.handled=none) (hJ:s.heap.IsKeyIter it d es.size es.size ep) (hm:RawD s.heap d es ep)
  (hQ:∀ h',Heap.ExtBut it s.heap h'->Q none { s with heap:=h' }):wpAny (model prog w) A (pyNext (.ref it)) Q E s:=by
 obtain ⟨o,ho,hc,hd⟩:=id hJ;obtain ⟨od,h1,h2,h3⟩:=hm;have ty:=hJ.typeIs;unfold pyNext;refine wpAny_bind (wpAny_attempt (wpAny_callSpecial?_slot (name:=Str.ofString "__next__") ty F.slot_dict_keyiterator_next (wpAny_call_entry F.slot_dict_keyiterator_next ty F.entry_dict_keyiterator_next ?_ (F.args_dict_keyiterator_next_1 _))));refine wpAny_bind (wpAny_pure ?_);refine wpAny_bind ?_;refine wpAny_bind ?_
 first|refine wpAny_bind (wpAny_typeNameOfWhole_keyiter ty (wpAny_pure ?_))|refine wpAny_bind (wpAny_typeNameOf_keyiter ty (wpAny_pure ?_))
 refine wpAny_bind (wpAny_fieldsOf ho hd ?_);simp only[show Builtin.Dict_items.ownsTuple "dict_keyiterator" = false by decide,Bool.false_eq_true,if_false]
 show wpAny _ _ (if (Value.ref d == Value.none)=true then _ else _) _ _ s;rw[if_neg (show ¬ ((Value.ref d == Value.none)=true) from Bool.false_ne_true)]
 refine wpAny_bind (wpAny_pure ?_);refine wpAny_bind (wpAny_dictEntries h1 h3 ?_);rw[if_neg (by simp)];refine wpAny_bind (wpAny_pure ?_);refine wpAny_bind (wpAny_dictEpoch h1 h3 ?_);rw[if_neg (by simp)];refine wpAny_pure ?_;simp only[show ¬ ((es.size:Int)<0) from by omega,if_false,Int.toNat_natCast,Array.getElem?_eq_none (Nat.le_refl _)];refine wpAny_bind ?_
 first|refine wpAny_bind (wpAny_typeNameOfWhole_keyiter ty (wpAny_pure ?_))|refine wpAny_bind (wpAny_typeNameOf_keyiter ty (wpAny_pure ?_))
 show wpAny _ _ (setField (.ref it) 0 .none >>= _) _ _ s;refine wpAny_bind (wpAny_setField ho hd (by simp) ?_)
 show wpAny _ _ (newExc (.type "StopIteration") [] >>= _) _ _ _;refine wpAny_bind ?_
 simp only[newExc,newTuple];refine wpAny_bind (wpAny_newObj_type ?_ (by size_fits));refine wpAny_bind (m:=firstArgMember _ _) (wpAny_of_eq (a:=Value.none) (by first|rfl|(simp only[firstArgMember];rfl)) ?_);refine wpAny_newObj_type ?_ (by size_fits);simp only[raiseNew];refine wpAny_bind (wpAny_handled ?_);rw[show A.in1.handled=none from hh];refine wpAny_bind (wpAny_pure (wpAny_throw ?_));refine wpAny_bind (wpAny_isInstance (T:= "StopIteration") (b:=true) ⟨_,Heap.get?_push_size _ rfl,rfl⟩ isSubtype_stop ?_);exact wpAny_pure (hQ _ (((Heap.SameBut.update ..).extBut.push _).push _))
theorem qtm (hh:A.handled=none) (J d:Addr) (hne:d≠J) (es:Array DictEntry) (ep:Nat) :
  Walks prog w A J [J,d] [J] es.size (λi v=>∃ e,es[i]?=some e/\v=e.key) (λi h=>h.IsKeyIter J d i es.size ep/\RawD h d es ep) where
 sub:=λb hb=>by simp at hb;simp[hb]
 frame:=λ_ _ _ st hk=>⟨st.1.at λo e=>hk J (by simp) o e,st.2.up λo e=>hk d (by simp) o e⟩
 item:=λi s Q E hi st hQ=>by
  refine qwo st.1 st.2 hi λh' hJ' hs'=>?_
  exact hQ _ h' s.toks ⟨es[i],by simp[hi],rfl⟩ ⟨hJ',st.2.up λo e=>hs'.extBut d o hne e⟩ λb o hb e=>hs'.extBut b o (λh=>hb (by simp[h])) e
 done:=λs Q E st hQ=>qy5 hh st.1 st.2 λh' he'=>hQ h' s.toks λb o hb e=>he' b o (λh=>hb (by simp[h])) e
 self:=λ_ _ _ _ st hQ=>wpAny_pyIter_keyiter st.1 hQ
theorem quy {d:Addr} {es:Array DictEntry} {ep:Nat} (lo:(d == sysModules)=false):PySem.W.KdlSrc prog w "dict" d d es.size (λi v=>∃ e,es[i]?=some e/\v=e.key) (λh=>RawD h d es ep) where
 type:=λ_ hm=>hm.ty
 there:=λ_ hm=>⟨hm.lt,hm.lt⟩
 keep:=λ_ _ hm hk=>hm.up λo e=>hk d (.inl rfl) o e
 notList:=by decide
 notTuple:=by decide
 hint:=λ_ _ _ _ hm hq=>PySem.W.kdl_hint_dict hm.ty hq
 iter:=λ_ _ hh hm=>⟨_,_,(λ_ _ hq=>qwn lo hm hq),qtm hh _ d (Nat.ne_of_lt hm.lt) es ep,⟨⟨_,Heap.get?_push_size _ rfl,rfl,rfl⟩,hm.up λ_ e=>Heap.get?_push_of_some _ e⟩⟩
end
open PySem PySem.Spec PyProof.Rows
section
variable {prog:Program} {w:World} {A:Around} {E:Value->Shared->Prop} {s:Shared}
theorem qh1 {a:Addr} {vs:List Value} {n:Nat} {P:Fin->Shared->Prop} (ho:s.heap.get? a=some (seqObj "list" vs.toArray n)) (h2:vs.length<2)
  (h:P (.done (.ret .none)) { s with heap:=sortedHeap s.heap a vs ((vs.toArray.zip vs.toArray).map (·.2)) }):wpAny (model prog w) A (Builtin.«list.sort» ⟨[.ref a],[]⟩) P E s:=by
 rw[list_sort_plain];have la:a<s.heap.objs.size:=Heap.lt_size ho;refine wpAny_bind (listItems_at ho rfl ?_);refine wpAny_bind (listUpdate_at ho rfl ?_);obtain ⟨e1,h1⟩:∃ e1,(s.heap.update a (Obj.mapSeq λ_=>#[])).get? a=some (seqObj "list" #[] e1):=⟨_,get?_update_seq ho (λ_=>#[])⟩;refine wpAny_bind (seqEpoch_at h1 rfl ?_);refine wpAny_bind (wpAny_newTuple ?_);refine wpAny_bind (wpAny_newList ?_);refine wpAny_holding ?_;have h6:(((s.heap.update a (Obj.mapSeq λ_=>#[])).push (seqObj "tuple" vs.toArray 0)).push (seqObj "list" #[] 0)).get? a=some (seqObj "list" #[] e1):=by
  rw[Heap.get?_push_ne _ _ _ (by rw[size_push',Heap.size_update];exact Nat.ne_of_lt (Nat.lt_succ_of_lt la)),Heap.get?_push_ne _ _ _ (by rw[Heap.size_update];exact Nat.ne_of_lt la)];exact h1
 show wpAny (model prog w) A _ P E { s with heap:=((s.heap.update a (Obj.mapSeq λ_=>#[])).push (seqObj "tuple" vs.toArray 0)).push (seqObj "list" #[] 0) }
 dsimp only;have z2:vs.toArray.size<2:=by simpa using h2
 rw[if_pos z2,if_pos z2];refine wpAny_bind (wpAny_pure ?_);rw[StateT.run_pure];refine wpAny_bind (wpAny_pure ?_);dsimp only;refine wpAny_bind (seqEpoch_at h6 rfl ?_);refine wpAny_bind (listUpdate_at h6 rfl ?_ (hsz2:=by rw[Array.size_map];show (pairsOf vs).size<=_;rw[pairsOf_size,sizeLine_eq];omega));simp only[bne_self_eq_false,Bool.false_eq_true,if_false];exact wpAny_pure h
end
theorem qq0 (vs:List Value):(vs.toArray.zip vs.toArray).map (·.2)=vs.toArray:=by
 apply Array.ext'
 simpa using List.map_snd_zip (l₁:=vs) (l₂:=vs) (Nat.le_refl _)
section
variable {X:Cx}
end
open PySem PySem.Spec PyProof.Rows
section
variable {X:Cx} {tg:Expr}
end
section
variable {X:Cx}
inductive qq1 (K:Frag) (x y:V) (H:Hp) (Q:VK):Prop
 | mk:∀ a b xs ys,x=.ref a->y=.ref b->SqT K H a xs->SqT K H b ys->xs≠[]->ys≠[]->xs.length+ys.length<=sizeLine->(∀ p H',New H H' p (.tup (xs ++ ys))->Q (.ref p) H')->qq1 K x y H Q
def qnh (K:Frag):R2:=λx y H Q=>qq1 K x y H Q
theorem qi4:OpR X (binaryOp .Add) (qnh X.K):=op_catT.imp λ_ _ _ _ ⟨a,b,xs,ys,e1,e2,h1,h2,z,zy,hz,q⟩=>⟨a,b,xs,ys,e1,e2,h1,h2,z,hz,λe=>absurd e zy,λ_ p hp=>q p _ (qax hp)⟩
def qy6:TE:=λ_ H Q=>∀ p H',New H H' p (.dT [])->Q (.ref p) H'
theorem qf1 {pos:Pos}:PE X (.Dict [] [] pos) qy6:=λpins s σ H Q I h=>qtb pins s σ H Q I λp hp=>h p _ (qax hp)
end
open PySem PySem.Spec PyProof.Rows
end L2
namespace L2
theorem lq1 {α:Type} {us:List α} (h:us.length=1):∃ a,us=[a]:=by
 cases us with
 | nil=>cases h
 | cons a r=>exact ⟨a,by rw[List.length_eq_zero_iff.mp (Nat.succ.inj h)]⟩
theorem lq2 {α:Type} {us:List α} (h:us.length=2):∃ a0 a1,us=[a0,a1]:=by
 cases us with
 | nil=>cases h
 | cons a r=>obtain ⟨a1,e⟩:=lq1 (Nat.succ.inj h);exact ⟨a,a1,by rw[e]⟩
theorem lq3 {α:Type} {us:List α} (h:us.length=3):∃ a0 a1 a2,us=[a0,a1,a2]:=by
 cases us with
 | nil=>cases h
 | cons a r=>obtain ⟨a1,a2,e⟩:=lq2 (Nat.succ.inj h);exact ⟨a,a1,a2,by rw[e]⟩
theorem lq4 {α:Type} {us:List α} (h:us.length=4):∃ a0 a1 a2 a3,us=[a0,a1,a2,a3]:=by
 cases us with
 | nil=>cases h
 | cons a r=>obtain ⟨a1,a2,a3,e⟩:=lq3 (Nat.succ.inj h);exact ⟨a,a1,a2,a3,by rw[e]⟩
theorem lq5 {α:Type} {us:List α} (h:us.length=5):∃ a0 a1 a2 a3 a4,us=[a0,a1,a2,a3,a4]:=by
 cases us with
 | nil=>cases h
 | cons a r=>obtain ⟨a1,a2,a3,a4,e⟩:=lq4 (Nat.succ.inj h);exact ⟨a,a1,a2,a3,a4,by rw[e]⟩
open PySem PySem.Spec PyProof.Rows PySem.W
def KW (lt:Nat->Nat->Bool) (n:Nat) {α:Type}:KasT α->(α->Prop)->Prop
 | .ret a,Q=>Q a
 | .ask i j k,Q=>i<n/\j<n/\KW lt n (k (lt i j)) Q
theorem KW.bind {lt:Nat->Nat->Bool} {n:Nat} {α β:Type} {f:α->KasT β} {Q:β->Prop}:∀ {t:KasT α},KW lt n t (λa=>KW lt n (f a) Q)->KW lt n (t.bind f) Q
 | .ret a,h=>by rw[KasT.bind.eq_1];exact h
 | .ask i j k,h=>by
  rw[KasT.bind.eq_2];exact ⟨h.1,h.2.1,KW.bind h.2.2⟩
theorem KW.mono {lt:Nat->Nat->Bool} {n:Nat} {α:Type} {Q Q':α->Prop} (hq:∀ a,Q a->Q' a):∀ {t:KasT α},KW lt n t Q->KW lt n t Q'
 | .ret a,h=>hq a h
 | .ask i j k,h=>⟨h.1,h.2.1,KW.mono hq h.2.2⟩
theorem KW.run {lt:Nat->Nat->Bool} {n:Nat} {α:Type} {Q:α->Prop} {cmp:Nat->Nat->(Bool->Shared->Prop)->Shared->Prop} {s:Shared} (hc:∀ i j (C:Bool->Shared->Prop),i<n->j<n->C (lt i j) s->cmp i j C s) :
  ∀ {t:KasT α},KW lt n t Q->KasT.kasWp cmp t (λa s'=>s'=s/\Q a) s
 | .ret a,h=>by rw[KasT.kasWp.eq_1];exact ⟨rfl,h⟩
 | .ask i j k,h=>by
  rw[KasT.kasWp.eq_2];exact hc i j _ h.1 h.2.1 (KW.run hc h.2.2)
structure qBt (n:Nat) (lt:Nat->Nat->Bool):Prop where
 tot:∀ i j,i<n->j<n->i≠j->lt i j=false->lt j i=true
 tr:∀ i j k,i<n->j<n->k<n->lt i j=true->lt j k=true->lt i k=true
structure PermA (n:Nat) (p:Array Nat):Prop where
 sz:p.size=n
 perm:p.toList.Perm (List.range n)
theorem PermA.lt {n:Nat} {p:Array Nat} (h:PermA n p) {x:Nat} (hx:x<n):p.getD x 0<n:=by
 have hs:=h.sz;rw[Array.getD_eq_getD_getElem?,Array.getElem?_eq_getElem (by omega)];have:p[x]∈p.toList:=by simp
 exact List.mem_range.mp (h.perm.mem_iff.mp this)
theorem PermA.inj {n:Nat} {p:Array Nat} (h:PermA n p) {x y:Nat} (hx:x<n) (hy:y<n) (hne:x≠y):p.getD x 0≠p.getD y 0:=by
 have hs:=h.sz;have nd:p.toList.Nodup:=h.perm.nodup_iff.mpr List.nodup_range;rw[Array.getD_eq_getD_getElem?,Array.getElem?_eq_getElem (by omega),Array.getD_eq_getD_getElem?,Array.getElem?_eq_getElem (by omega)];intro e;have e':p.toList[x]'(by simpa using by omega)=p.toList[y]'(by simpa using by omega):=by simpa using e
 have pw:=List.pairwise_iff_getElem.mp nd
 rcases Nat.lt_or_gt_of_ne hne with h1|h1
 ·exact pw x y (by simpa using by omega) (by simpa using by omega) h1 e'
 ·exact pw y x (by simpa using by omega) (by simpa using by omega) h1 e'.symm
theorem PermA.of {n:Nat} {p q:Array Nat} (h:PermA n p) (hq:q.Perm p):PermA n q:=by
 have e:q.toList.Perm p.toList:=Array.perm_iff_toList_perm.mp hq;exact ⟨by have:=e.length_eq;simpa [h.sz] using this,e.trans h.perm⟩
def Asc (lt:Nat->Nat->Bool) (p:Array Nat) (b:Nat):Prop:=∀ x y,x<y->y<b->lt (p.getD x 0) (p.getD y 0)=true
structure OrdW (n:Nat) (lt:Nat->Nat->Bool):Prop where
 as_:∀ i j,i<n->j<n->lt i j=true->lt j i=false
 tr:∀ i j k,i<n->j<n->k<n->lt j i=false->lt k j=false->lt k i=false
theorem OrdW.irr {n:Nat} {lt:Nat->Nat->Bool} (O:OrdW n lt) {i:Nat} (h:i<n):lt i i=false:=by
 cases e:lt i i with
 | false=>rfl
 | true=>rw[<- e];exact O.as_ i i h h e
def qtn (lt:Nat->Nat->Bool) (p:Array Nat) (b:Nat):Prop:=∀ x y,x<y->y<b->lt (p.getD y 0) (p.getD x 0)=false
def qsr (lt:Nat->Nat->Bool) (p:Array Nat) (b:Nat):Prop:=∀ x y,x<y->y<b->lt (p.getD x 0) (p.getD y 0)=false
def qi5 (lt:Nat->Nat->Bool) (p:Array Nat) (i j:Nat):Prop:=∀ a b,i<=a->a<j->i<=b->b<j->lt (p.getD a 0) (p.getD b 0)=false
section
variable {lt:Nat->Nat->Bool} {n:Nat}
theorem qmb (O:OrdW n lt) {p:Array Nat} (hp:PermA n p):∀ (f x:Nat),1<=x->x+f<=n->qtn lt p x->KW lt n (kas_asc p f x) (λm=>x<=m/\m<=x+f/\qtn lt p m/\(m=x+f\/lt (p.getD m 0) (p.getD (m-1) 0)=true))
 | 0,x,h1,hx,ha=>by rw[kas_asc.eq_1];exact ⟨Nat.le_refl _,Nat.le_refl _,ha,.inl rfl⟩
 | f+1,x,h1,hx,ha=>by
  rw[kas_asc.eq_2];refine ⟨hp.lt (by omega),hp.lt (by omega),?_⟩
  cases e:lt (p.getD x 0) (p.getD (x-1) 0) with
  | true=>dsimp only;rw[if_pos rfl];exact ⟨Nat.le_refl _,by omega,ha,.inr e⟩
  | false =>
   dsimp only;rw[if_neg Bool.false_ne_true];refine KW.mono (λm hm=>?_) (qmb O hp f (x+1) (by omega) (by omega) ?_)
   ·obtain ⟨m1,m2,m3,m4⟩:=hm
    exact ⟨by omega,by omega,m3,m4.imp (λz=>by omega) id⟩
   ·intro a b hab hb
    by_cases hbx:b=x
    ·subst hbx
     by_cases hax:a=b-1
     ·subst hax;exact e
     ·exact O.tr _ _ _ (hp.lt (by omega)) (hp.lt (by omega)) (hp.lt (by omega)) (ha a (b-1) (by omega) (by omega)) e
    ·exact ha a b hab (by omega)
theorem qi6 {p:Array Nat} (hp:PermA n p) {i m x:Nat} (hm:m<=n):(kas_rev p i m).getD x 0=if i<=x/\x<m then p.getD (i+m-1-x) 0 else p.getD x 0:=by
 have hs:=hp.sz;unfold kas_rev;rw[Array.getD_eq_getD_getElem?,getElem?_mirror_all (by omega)]
 split<;>rw[Array.getD_eq_getD_getElem?]
theorem qdg {p:Array Nat} (hp:PermA n p) (i m:Nat):PermA n (kas_rev p i m):=hp.of (mirror_perm _ _ _ _)
theorem qni (O:OrdW n lt) {p:Array Nat} (hp:PermA n p) {i m:Nat} (hm:m<=n) (hs:qi5 lt p i m) {a:Nat} (ha:a<n):lt ((kas_rev p i m).getD a 0) (p.getD a 0)=false/\lt (p.getD a 0) ((kas_rev p i m).getD a 0)=false:=by
 rw[qi6 hp hm]
 split
 ·exact ⟨hs _ _ (by omega) (by omega) (by omega) (by omega),hs _ _ (by omega) (by omega) (by omega) (by omega)⟩
 ·exact ⟨O.irr (hp.lt ha),O.irr (hp.lt ha)⟩
theorem qq2 (O:OrdW n lt) {p:Array Nat} (hp:PermA n p) {i m:Nat} (hm:m<=n) (hs:qi5 lt p i m) {a b:Nat} (ha:a<n) (hb:b<n) (h:lt (p.getD a 0) (p.getD b 0)=false):lt ((kas_rev p i m).getD a 0) ((kas_rev p i m).getD b 0)=false:=by
 have hq:=qdg hp i m;have h1:=qni O hp hm hs ha;have h2:=qni O hp hm hs hb;exact O.tr _ _ _ (hq.lt hb) (hp.lt ha) (hq.lt ha) (O.tr _ _ _ (hq.lt hb) (hp.lt hb) (hp.lt ha) h2.2 h) h1.1
theorem qq3 (O:OrdW n lt) {p:Array Nat} (hp:PermA n p) {i m x:Nat} (hm:m<=n) (hx:x<=n) (hs:qi5 lt p i m) (h:qsr lt p x):qsr lt (kas_rev p i m) x:=
 λa b hab hb=>qq2 O hp hm hs (by omega) (by omega) (h a b hab hb)
theorem qf2 (O:OrdW n lt):∀ (f:Nat) (p:Array Nat) (x q:Nat),PermA n p->2<=x->x+f<=n->q+1<=x->qsr lt p x->qi5 lt p (x-(q+1)) x ->
  KW lt n (kas_desc f p x q) (λr=>PermA n r.1/\x<=r.2.1/\r.2.1<=x+f/\r.2.2+1<=r.2.1/\qsr lt r.1 r.2.1/\qi5 lt r.1 (r.2.1-(r.2.2+1)) r.2.1)
 | 0,p,x,q,hp,h1,hx,hq,ha,hs=>by rw[kas_desc.eq_1];exact ⟨hp,Nat.le_refl _,Nat.le_refl _,hq,ha,hs⟩
 | f+1,p,x,q,hp,h1,hx,hq,ha,hs=>by
  rw[kas_desc.eq_2];refine ⟨hp.lt (by omega),hp.lt (by omega),?_⟩;have fin:∀ {t:KasT (Array Nat×Nat×Nat)},KW lt n t (λr=>PermA n r.1/\x+1<=r.2.1/\r.2.1<=x+1+f/\r.2.2+1<=r.2.1/\qsr lt r.1 r.2.1/\qi5 lt r.1 (r.2.1-(r.2.2+1)) r.2.1)->KW lt n t (λr=>PermA n r.1/\x<=r.2.1/\r.2.1<=x+(f+1)/\r.2.2+1<=r.2.1/\qsr lt r.1 r.2.1/\qi5 lt r.1 (r.2.1-(r.2.2+1)) r.2.1):=λh=>KW.mono (λr ⟨r1,r2,r3,r4,r5,r6⟩=>⟨r1,by omega,by omega,r4,r5,r6⟩) h
  have one:∀ (p':Array Nat),PermA n p'->qsr lt p' x->lt (p'.getD (x-1) 0) (p'.getD x 0)=false->qsr lt p' (x+1):=λp' hp' hd e a b hab hb=>by
   by_cases hbx:b=x
   ·subst hbx
    by_cases hax:a=b-1
    ·subst hax;exact e
    ·exact O.tr _ _ _ (hp'.lt (by omega)) (hp'.lt (by omega)) (hp'.lt (by omega)) e (hd a (b-1) (by omega) (by omega))
   ·exact hd a b hab (by omega)
  have seg1:∀ (p':Array Nat),PermA n p'->qi5 lt p' (x+1-(0+1)) (x+1):=λp' hp' a b h1 h2 h3 h4=>by
   have ea:a=x:=by omega
   have eb:b=x:=by omega
   rw[ea,eb];exact O.irr (hp'.lt (by omega))
  cases e:lt (p.getD x 0) (p.getD (x-1) 0) with
  | true =>
   have e2:=O.as_ _ _ (hp.lt (by omega)) (hp.lt (by omega)) e;dsimp only;rw[if_pos rfl]
   by_cases hq0:q>0
   ·rw[if_pos hq0]
    have hp':=qdg hp (x-(q+1)) x;refine fin (qf2 O f _ (x+1) 0 hp' (by omega) (by omega) (by omega) (one _ hp' (qq3 O hp (by omega) (by omega) hs ha) ?_) (seg1 _ hp'));exact qq2 O hp (by omega) hs (by omega) (by omega) e2
   ·rw[if_neg hq0]
    exact fin (qf2 O f _ (x+1) 0 hp (by omega) (by omega) (by omega) (one _ hp ha e2) (seg1 _ hp))
  | false =>
   dsimp only;rw[if_neg Bool.false_ne_true];refine ⟨hp.lt (by omega),hp.lt (by omega),?_⟩
   cases e2:lt (p.getD (x-1) 0) (p.getD x 0) with
   | true =>
    dsimp only;rw[if_pos rfl];exact ⟨hp,Nat.le_refl _,(show x<=x+(f+1) by omega),hq,ha,hs⟩
   | false =>
    dsimp only;rw[if_neg Bool.false_ne_true];refine fin (qf2 O f _ (x+1) (q+1) hp (by omega) (by omega) (by omega) (one _ hp ha e2) ?_);have key:∀ a,x-(q+1)<=a->a<=x->lt (p.getD a 0) (p.getD x 0)=false/\lt (p.getD x 0) (p.getD a 0)=false:=λa h1 h2=>by
     by_cases hax:a=x
     ·rw[hax];exact ⟨O.irr (hp.lt (by omega)),O.irr (hp.lt (by omega))⟩
     ·have f1:=hs a (x-1) (by omega) (by omega) (by omega) (by omega)
      have f2:=hs (x-1) a (by omega) (by omega) (by omega) (by omega);exact ⟨O.tr _ _ _ (hp.lt (by omega)) (hp.lt (by omega)) (hp.lt (by omega)) e2 f1,O.tr _ _ _ (hp.lt (by omega)) (hp.lt (by omega)) (hp.lt (by omega)) f2 e⟩
    intro a b h1 h2 h3 h4;exact O.tr _ _ _ (hp.lt (by omega)) (hp.lt (show x<n by omega)) (hp.lt (by omega)) (key b (by omega) (by omega)).2 (key a (by omega) (by omega)).1
theorem qfg (O:OrdW n lt) {p:Array Nat} (hp:PermA n p) {m:Nat} (h1:1<=m) (hm:m<n) (hd:qsr lt p (m+1)):KW lt n (kas_descPart m n p) (λr=>PermA n r.2/\1<=r.1/\r.1<=n/\qtn lt r.2 r.1):=by
 unfold kas_descPart;have tail:∀ {q:Array Nat} {x:Nat},PermA n q->1<=x->x<=n->qsr lt q x->KW lt n (kas_tail3 x n q) (λr=>PermA n r.2/\1<=r.1/\r.1<=n/\qtn lt r.2 r.1):=fun {q x} hq hx1 hxn hdq=>by
  unfold kas_tail3;have hq':=qdg hq 0 x;refine KW.bind (KW.mono (λm' hm'=>?_) (qmb O hq' (n-x) x hx1 (by omega) ?_))
  ·obtain ⟨a1,a2,a3,_⟩:=hm'
   exact ⟨hq',by show 1<=m';omega,by show m'<=n;omega,a3⟩
  ·intro a b hab hb
   rw[qi6 hq hxn,qi6 hq hxn,if_pos ⟨Nat.zero_le _,hb⟩,if_pos ⟨Nat.zero_le _,by omega⟩];exact hdq _ _ (by omega) (by omega)
 refine KW.bind (KW.mono (λr hr=>?_) (qf2 O (n-(m+1)) p (m+1) 0 hp (by omega) (by omega) (by omega) hd (λa b h1 h2 h3 h4=>?_)))
 ·obtain ⟨r1,r2,r3,r4,r5,r6⟩:=hr
  by_cases hq:r.2.2>0
  ·rw[if_pos hq]
   exact tail (qdg r1 _ _) (by omega) (by omega) (qq3 O r1 (by omega) (by omega) r6 r5)
  ·rw[if_neg hq]
   exact tail r1 (by omega) (by omega) r5
 ·have ea:a=m:=by omega
  have eb:b=m:=by omega
  rw[ea,eb];exact O.irr (hp.lt hm)
theorem qq4 (O:OrdW n lt) {p:Array Nat} (hp:PermA n p) (hn:2<=n):KW lt n (kas_count n p) (λr=>PermA n r.2/\1<=r.1/\r.1<=n/\qtn lt r.2 r.1):=by
 rw[kas_count.eq_1];refine KW.bind (KW.mono (λm hm=>?_) (qmb O hp (n-1) 1 (Nat.le_refl _) (by omega) (λx y h1 h2=>by omega)));obtain ⟨m1,m2,m3,m4⟩:=hm
 by_cases hmn:m=n
 ·rw[if_pos (by simpa using hmn)]
  exact ⟨hp,by omega,by omega,m3⟩
 ·rw[if_neg (by simpa using hmn)]
  have d0:lt (p.getD m 0) (p.getD (m-1) 0)=true:=by
   rcases m4 with z|z
   ·omega
   ·exact z
  have d1:=O.as_ _ _ (hp.lt (by omega)) (hp.lt (by omega)) d0
  by_cases h1:m>1
  ·rw[if_pos h1]
   refine ⟨hp.lt (by omega),hp.lt (by omega),?_⟩
   cases e:lt (p.getD 0 0) (p.getD (m-1) 0) with
   | true =>
    dsimp only;rw[if_pos rfl];exact ⟨hp,by omega,by omega,m3⟩
   | false =>
    dsimp only;rw[if_neg Bool.false_ne_true];have le:∀ a b,a<=b->b<m->lt (p.getD b 0) (p.getD a 0)=false:=λa b hab hb=>by
     by_cases z:a=b
     ·rw[z];exact O.irr (hp.lt (by omega))
     ·exact m3 a b (by omega) hb
    have hs:qi5 lt p 0 m:=λa b _ ha _ hb=>by
     exact O.tr _ _ _ (hp.lt (by omega)) (hp.lt (show 0<n by omega)) (hp.lt (by omega)) (O.tr _ _ _ (hp.lt (by omega)) (hp.lt (show m-1<n by omega)) (hp.lt (by omega)) (le b (m-1) (by omega) (by omega)) e) (le 0 a (by omega) ha)
    refine qfg O (qdg hp 0 m) (by omega) (by omega) λa b hab hb=>qq2 O hp (by omega) hs (by omega) (by omega) ?_
    by_cases hbm:b=m
    ·rw[hbm]
     exact O.tr _ _ _ (hp.lt (by omega)) (hp.lt (show m-1<n by omega)) (hp.lt (by omega)) d1 (hs a (m-1) (by omega) (by omega) (by omega) (by omega))
    ·exact hs a b (by omega) (by omega) (by omega) (by omega)
  ·rw[if_neg h1]
   have em:m=1:=by omega
   subst em;refine qfg O hp (Nat.le_refl _) (by omega) λa b hab hb=>?_
   have ea:a=0:=by omega
   have eb:b=1:=by omega
   rw[ea,eb];exact d1
theorem qgl (O:OrdW n lt) {p:Array Nat} (hp:PermA n p) {k:Nat} (hk:k<n) (ha:qtn lt p k):∀ (f lo hi:Nat),lo<=hi->hi<=k->hi-lo<=f->(∀ j,j<lo->lt (p.getD k 0) (p.getD j 0)=false)->(∀ j,hi<=j->j<k->lt (p.getD j 0) (p.getD k 0)=false) ->
  KW lt n (kas_place p k f lo hi) (λl=>l<=k/\(∀ j,j<l->lt (p.getD k 0) (p.getD j 0)=false)/\∀ j,l<=j->j<k->lt (p.getD j 0) (p.getD k 0)=false)
 | 0,lo,hi,h1,h2,h3,h4,h5=>by
  rw[kas_place.eq_1];exact ⟨by omega,h4,λj hj=>h5 j (by omega)⟩
 | f+1,lo,hi,h1,h2,h3,h4,h5=>by
  rw[kas_place.eq_2]
  by_cases hlt:lo ≥ hi
  ·rw[if_pos hlt]
   exact ⟨by omega,h4,λj hj=>h5 j (by omega)⟩
  ·rw[if_neg hlt]
   refine ⟨hp.lt hk,hp.lt (by omega),?_⟩;have le:∀ a b,a<=b->b<k->lt (p.getD b 0) (p.getD a 0)=false:=λa b hab hb=>by
    by_cases z:a=b
    ·rw[z];exact O.irr (hp.lt (by omega))
    ·exact ha a b (by omega) hb
   cases e:lt (p.getD k 0) (p.getD ((lo+hi) / 2) 0) with
   | true =>
    dsimp only;rw[if_pos rfl];have e2:=O.as_ _ _ (hp.lt hk) (hp.lt (by omega)) e;refine qgl O hp hk ha f lo ((lo+hi) / 2) (by omega) (by omega) (by omega) h4 λj hj hjk=>?_
    exact O.tr _ _ _ (hp.lt hk) (hp.lt (by omega)) (hp.lt (by omega)) e2 (le _ j hj hjk)
   | false =>
    dsimp only;rw[if_neg Bool.false_ne_true];refine qgl O hp hk ha f ((lo+hi) / 2+1) hi (by omega) h2 (by omega) (λj hj=>?_) h5;exact O.tr _ _ _ (hp.lt (by omega)) (hp.lt (show (lo+hi) / 2<n by omega)) (hp.lt hk) (le j _ (by omega) (by omega)) e
theorem qq5 (O:OrdW n lt):∀ (f:Nat) (p:Array Nat) (k:Nat),PermA n p->1<=k->k+f=n->qtn lt p k->KW lt n (kas_bin f p k) (λq=>PermA n q/\qtn lt q n)
 | 0,p,k,hp,h1,hk,ha=>by
  rw[kas_bin.eq_1];have:k=n:=by omega
  subst this;exact ⟨hp,ha⟩
 | f+1,p,k,hp,h1,hk,ha=>by
  rw[kas_bin.eq_2];have hkn:k<n:=by omega
  have hs:=hp.sz;refine KW.bind (KW.mono (λl hl=>?_) (qgl O hp hkn ha k 0 k (Nat.zero_le _) (Nat.le_refl _) (by omega) (λj hj=>by omega) (λj h1 h2=>by omega)));obtain ⟨l1,l2,l3⟩:=hl;have hq:PermA n (bubble p k (k-l)):=hp.of (bubble_perm _ _ _);refine qq5 O f _ (k+1) hq (by omega) (by omega) ?_;have hg:∀ x,(bubble p k (k-l)).getD x 0=if x=l then p.getD k 0 else if l<x/\x<=k then p.getD (x-1) 0 else p.getD x 0:=λx=>by
   rw[Array.getD_eq_getD_getElem?,getElem?_bubble (by omega) (k-l) (by omega),show k-(k-l)=l by omega]
   split
   ·rw[Array.getD_eq_getD_getElem?]
   ·split<;>rw[Array.getD_eq_getD_getElem?]
  intro x y hxy hy;rw[hg x,hg y]
  by_cases hx:x=l
  ·rw[if_pos hx,if_neg (by omega),if_pos ⟨by omega,by omega⟩]
   exact l3 _ (by omega) (by omega)
  ·rw[if_neg hx]
   by_cases hy2:y=l
   ·rw[if_pos hy2,if_neg (by omega)]
    exact l2 _ (by omega)
   ·rw[if_neg hy2]
    by_cases hx3:l<x/\x<=k
    ·rw[if_pos hx3,if_pos ⟨by omega,by omega⟩]
     exact ha _ _ (by omega) (by omega)
    ·rw[if_neg hx3]
     by_cases hy3:l<y/\y<=k
     ·rw[if_pos hy3]
      exact ha _ _ (by omega) (by omega)
     ·rw[if_neg hy3]
      exact ha _ _ hxy (by omega)
theorem qto (O:OrdW n lt) (hn:2<=n):KW lt n (kas_sort n) (λq=>PermA n q/\qtn lt q n):=by
 unfold kas_sort;have hp:PermA n (List.range n).toArray:=⟨by simp,by simp⟩;refine KW.bind (KW.mono (λr hr=>?_) (qq4 O hp hn));obtain ⟨r1,r2,r3,r4⟩:=hr
 by_cases h:r.1<n
 ·rw[if_pos h,Nat.max_eq_left r2]
  exact qq5 O _ _ _ r1 r2 (by omega) r4
 ·rw[if_neg h]
  have e:r.1=n:=by omega
  rw[e] at r4;exact ⟨r1,r4⟩
end
theorem qq6 {lt:Nat->Nat->Bool} {n:Nat} (O:qBt n lt) (W:OrdW n lt) (hn:2<=n):KW lt n (kas_sort n) (λq=>PermA n q/\Asc lt q n):=KW.mono (λ_ h=>⟨h.1,λx y hxy hy=>O.tot _ _ (h.1.lt hy) (h.1.lt (by omega)) (h.1.inj hy (by omega) (by omega)) (h.2 x y hxy hy)⟩) (qto W hn)
open PySem PySem.Spec PyProof.Rows PySem.W
def blt:List Int->List Int->Bool
 | [],[]=>false
 | [],_ :: _=>true
 | _ :: _,[]=>false
 | a :: r,b :: t=>if a=b then blt r t else decide (a<b)
theorem qd8:∀ (k l:List Int),k≠l->blt k l=false->blt l k=true
 | [],[],h,_=>absurd rfl h
 | [],_ :: _,_,h=>by simp[blt] at h
 | _ :: _,[],_,_=>rfl
 | a :: r,b :: t,h,e=>by
  unfold blt at e ⊢
  by_cases hab:a=b
  ·subst hab
   rw[if_pos rfl] at e ⊢;exact qd8 r t (λz=>h (by rw[z])) e
  ·rw[if_neg hab] at e
   rw[if_neg (λz=>hab z.symm)]
   simp at e ⊢
   omega
theorem qh2:∀ (k l m:List Int),blt k l=true->blt l m=true->blt k m=true
 | [],[],_,h,_=>by simp[blt] at h
 | _ :: _,[],_,h,_=>by simp[blt] at h
 | [],_ :: _,[],_,h=>by simp[blt] at h
 | _ :: _,_ :: _,[],_,h=>by simp[blt] at h
 | [],_ :: _,_ :: _,_,_=>rfl
 | a :: r,b :: t,c :: u,h1,h2=>by
  unfold blt at h1 h2 ⊢
  by_cases hab:a=b
  ·subst hab
   rw[if_pos rfl] at h1
   by_cases hbc:a=c
   ·subst hbc
    rw[if_pos rfl] at h2 ⊢;exact qh2 r t u h1 h2
   ·rw[if_neg hbc] at h2 ⊢
    exact h2
  ·rw[if_neg hab] at h1
   by_cases hbc:b=c
   ·subst hbc
    rw[if_neg hab];exact h1
   ·rw[if_neg hbc] at h2
    simp at h1 h2
    rw[if_neg (by omega)]
    simp;omega
theorem qez:∀ k:List Int,blt k k=false
 | []=>rfl
 | a :: r=>by unfold blt;rw[if_pos rfl];exact qez r
def ltK (ks:List (List Int)) (i j:Nat):Bool:=blt (ks.getD i []) (ks.getD j [])
theorem qDf (ks:List (List Int)) (nd:ks.Nodup):qBt ks.length (ltK ks) where
 tot:=λi j hi hj hne e=>by
  refine qd8 _ _ (λz=>?_) e;rw[List.getD_eq_getElem?_getD,List.getD_eq_getElem?_getD,List.getElem?_eq_getElem hi,List.getElem?_eq_getElem hj] at z;have pw:=List.pairwise_iff_getElem.mp nd
  rcases Nat.lt_or_gt_of_ne hne with h|h
  ·exact pw i j hi hj h z
  ·exact pw j i hj hi h z.symm
 tr:=λi j k _ _ _ h1 h2=>qh2 _ _ _ h1 h2
theorem quz {k l:List Int} (h:blt k l=true):blt l k=false:=by
 cases e:blt l k with
 | false=>rfl
 | true =>
  have:=qh2 k l k h e;rw[qez] at this;cases this
theorem qy7 {k l m:List Int} (h1:blt l k=false) (h2:blt m l=false):blt m k=false:=by
 by_cases e1:k=l
 ·rw[e1];exact h2
 ·by_cases e2:l=m
  ·rw[<- e2];exact h1
  ·exact quz (qh2 _ _ _ (qd8 _ _ (λz=>e1 z.symm) h1) (qd8 _ _ (λz=>e2 z.symm) h2))
theorem qBu (ks:List (List Int)):OrdW ks.length (ltK ks):=⟨λ_ _ _ _ h=>quz h,λ_ _ _ _ _ _ h1 h2=>qy7 h1 h2⟩
def qu0 (h:Heap) (v:Value) (k:List Int):Prop:=∃ b o xs e,v=.ref b/\h.get? b=some o/\o.cls=.type "tuple" /\ o.data=.seq xs e/\Vals (k.map V.int) xs.toList
section
variable {prog:Program} {w:World} {A:Around} {E:Value->Shared->Prop} {s:Shared}
theorem qnj {b fin:Bool} {Q:Bool->Shared->Prop}:∀ (k l:List Int) (us ws:List Value) (i:Nat),Vals (k.map V.int) us->Vals (l.map V.int) ws->fin=decide (k.length<l.length)->Q (blt k l) s->KatLex prog w A b fin Q (us.zip ws) i s
 | [],l,us,ws,i,hu,hw,hf,q=>by
  cases us with
  | cons _ _=>exact absurd hu.length (by simp)
  | nil =>
   rw[List.zip_nil_left];refine kat_nil ?_;rw[hf]
   cases l with
   | nil=>exact q
   | cons _ _=>exact q
 | x :: k,[],us,ws,i,hu,hw,hf,q=>by
  cases ws with
  | cons _ _=>exact absurd hw.length (by simp)
  | nil =>
   rw[List.zip_nil_right];refine kat_nil ?_;rw[hf];exact q
 | x :: k,y :: l,us,ws,i,hu,hw,hf,q=>by
  cases us with
  | nil=>exact absurd hu.length (by simp)
  | cons u us =>
   cases ws with
   | nil=>exact absurd hw.length (by simp)
   | cons v ws =>
    rw[List.map_cons] at hu hw
    cases hu with
    | cons hx hu =>
     cases hw with
     | cons hy hw =>
      obtain ⟨t,rfl⟩:=(show ∃ t,u=Value.int x t from hx);obtain ⟨t',rfl⟩:=(show ∃ t,v=Value.int y t from hy);rw[List.zip_cons_cons];refine kat_cons (wpAny_eqBool_int ?_)
      by_cases hxy:x=y
      ·subst hxy
       rw[show (x == x)=true by simp];refine kat_yes (qnj k l us ws (i+1) hu hw (by rw[hf];simp) ?_);unfold blt at q
       rwa [if_pos rfl] at q
      ·rw[show (x == y)=false by simpa using hxy]
       unfold blt at q;rw[if_neg hxy] at q;refine kat_no ?_
       cases (b && i == 0) with
       | true=>exact oneLt_int q
       | false=>exact kat_one _ _ (lt_int q)
theorem qy8 {b:Bool} {Q:Bool->Shared->Prop} {x y:Value} {k l:List Int} (hx:qu0 s.heap x k) (hy:qu0 s.heap y l) (q:Q (blt k l) s):wpAny (model prog w) A (keyLt' (tuples' b) x y) Q E s:=by
 obtain ⟨a,o,xs,e,rfl,h1,h2,h3,h4⟩:=hx;obtain ⟨a',o',xs',e',rfl,h1',h2',h3',h4'⟩:=hy;refine kat_lt h1 h3 h1' h3' (qnj k l _ _ 0 h4 h4' ?_ q);have e1:k.length=xs.size:=by have:=h4.length;simpa using this
 have e2:l.length=xs'.size:=by have:=h4'.length;simpa using this
 rw[e1,e2]
theorem qu1 {h:Heap}:∀ {vs:List Value} {ks:List (List Int)},vs.length=ks.length->(∀ (i:Nat) v k,vs[i]?=some v->ks[i]?=some k->qu0 h v k/\k≠[])->∃ fs,KatTups h vs fs/\fs.length=vs.length/\∀ v∈fs,∃ i t,v=Value.int i t
 | [],[],_,_=>⟨[],.nil,rfl,λv hv=>by cases hv⟩
 | v :: vs,k :: ks,hl,H=>by
  obtain ⟨fs,f1,f2,f3⟩:=qu1 (vs:=vs) (ks:=ks) (by simpa using hl) (λi v k e1 e2=>H (i+1) v k (by simpa using e1) (by simpa using e2));obtain ⟨⟨b,o,xs,e,rfl,h1,h2,h3,h4⟩,hne⟩:=H 0 v k rfl rfl
  cases k with
  | nil=>exact absurd rfl hne
  | cons i r =>
   obtain ⟨u,us,eu,hu⟩:∃ u us,xs.toList=u :: us/\RelV (.int i) u:=by
    generalize xs.toList=ys at h4
    cases h4 with
    | cons hx _=>exact ⟨_,_,rfl,hx⟩
   obtain ⟨t,rfl⟩:=(show ∃ t,u=Value.int i t from hu);refine ⟨Value.int i t :: fs,?_,by simp[f2],λv hv=>?_⟩
   ·rw[KatTups.eq_2]
    refine ⟨⟨b,o,xs,e,rfl,h1,h2,h3,?_⟩,f1⟩;rw[<- Array.getElem?_toList,eu];rfl
   ·rcases List.mem_cons.mp hv with h|h
    ·exact ⟨i,t,h⟩
    ·exact f3 v h
theorem qq7 {a:Addr} {vs:List Value} {n:Nat} {P:Fin->Shared->Prop} {ks:List (List Int)} (ho:s.heap.get? a=some (seqObj "list" vs.toArray n)) (h2:2<=vs.length) (h64:vs.length<64) (hl:vs.length=ks.length) (nd:ks.Nodup)
  (hT:∀ (i:Nat) v k,vs[i]?=some v->ks[i]?=some k->qu0 s.heap v k/\k≠[])
  (h:∀ p:Array Nat,PermA ks.length p->Asc (ltK ks) p ks.length->P (.done (.ret .none)) { s with heap:=sortedHeap s.heap a vs (p.map λi=>vs.getD i .none) }):wpAny (model prog w) A (Builtin.«list.sort» ⟨[.ref a],[]⟩) P E s:=by
 rw[list_sort_plain];have la:a<s.heap.objs.size:=Heap.lt_size ho;refine wpAny_bind (listItems_at ho rfl ?_);refine wpAny_bind (listUpdate_at ho rfl ?_);obtain ⟨e1,h1⟩:∃ e1,(s.heap.update a (Obj.mapSeq λ_=>#[])).get? a=some (seqObj "list" #[] e1):=⟨_,get?_update_seq ho (λ_=>#[])⟩;refine wpAny_bind (seqEpoch_at h1 rfl ?_);refine wpAny_bind (wpAny_newTuple ?_ (by simp only[List.toList_toArray];rw[sizeLine_eq];omega));refine wpAny_bind (wpAny_newList ?_);refine wpAny_holding ?_;have h6:(((s.heap.update a (Obj.mapSeq λ_=>#[])).push (seqObj "tuple" vs.toArray 0)).push (seqObj "list" #[] 0)).get? a=some (seqObj "list" #[] e1):=by
  rw[Heap.get?_push_ne _ _ _ (by rw[size_push',Heap.size_update];exact Nat.ne_of_lt (Nat.lt_succ_of_lt la)),Heap.get?_push_ne _ _ _ (by rw[Heap.size_update];exact Nat.ne_of_lt la)];exact h1
 show wpAny (model prog w) A _ P E { s with heap:=((s.heap.update a (Obj.mapSeq λ_=>#[])).push (seqObj "tuple" vs.toArray 0)).push (seqObj "list" #[] 0) }
 obtain ⟨s3,es3⟩:∃ s3:Shared,s3={ s with heap:=((s.heap.update a (Obj.mapSeq λ_=>#[])).push (seqObj "tuple" vs.toArray 0)).push (seqObj "list" #[] 0) }:=⟨_,rfl⟩;have hT3:∀ (i:Nat) v k,vs[i]?=some v->ks[i]?=some k->qu0 s3.heap v k/\k≠[]:=λi v k q1 q2=>by
  obtain ⟨⟨b,o,xs,e,rfl,g1,g2,g3,g4⟩,hne⟩:=hT i v k q1 q2;refine ⟨⟨b,o,xs,e,rfl,?_,g2,g3,g4⟩,hne⟩;have hba:b≠a:=λz=>by
   subst z;rw[ho] at g1;cases g1;have g2':(Value.type "list" : Value)=Value.type "tuple" :=g2;injection g2' with e'
   exact absurd e' (by decide)
  rw[es3];exact Heap.get?_push_of_some _ (Heap.get?_push_of_some _ ((Heap.SameBut.update s.heap a _).extBut b o hba g1))
 obtain ⟨fs,f1,f2,f3⟩:=qu1 hl hT3;have z2:¬ vs.toArray.size<2:=by simpa using by omega
 dsimp only;rw[if_neg z2,if_neg z2,<- es3];refine wpAny_bind (kat_kind (T:=.type "int") f1 (by omega) (λv hv=>?_) (by decide) ?_)
 ·obtain ⟨i,t,rfl⟩:=f3 v hv
  exact Looks.of_pure rfl
 have hrun:=kas_runs (prog:=prog) (w:=w) (A:=A) (E:=E) (κ:=tuples' true) (it:=pairsOf vs) (n:=ks.length) (s:=s3) (G:=λp s'=>s'=s3/\PermA ks.length p/\Asc (ltK ks) p ks.length)
  (Q:=λ_ st' s'=>s'=s3/\failedOf st'=none/\∃ p,arrOf st'=p.map (kas_item (pairsOf vs))/\PermA ks.length p/\Asc (ltK ks) p ks.length) (by omega) (by omega)
  (λp st' s' hz ha hf hG=>⟨hG.1,hf,p,ha,hG.2⟩)
  (KW.run (λi j C hi hj hC=>by
   unfold kas_cmp;rw[kas_item_eq,kas_item_eq];have q1:vs[i]?=some (vs.getD i .none):=by rw[List.getD_eq_getElem?_getD,List.getElem?_eq_getElem (by omega)];rfl
   have q2:vs[j]?=some (vs.getD j .none):=by rw[List.getD_eq_getElem?_getD,List.getElem?_eq_getElem (by omega)];rfl
   have q3:ks[i]?=some (ks.getD i []):=by rw[List.getD_eq_getElem?_getD,List.getElem?_eq_getElem hi];rfl
   have q4:ks[j]?=some (ks.getD j []):=by rw[List.getD_eq_getElem?_getD,List.getElem?_eq_getElem hj];rfl
   exact qy8 (hT3 i _ _ q1 q3).1 (hT3 j _ _ q2 q4).1 hC) (qq6 (qDf ks nd) (qBu ks) (by omega)))
 have est:kas_st (tuples' true) (pairsOf vs) (List.range ks.length).toArray=SortSt.mk' (tuples' true) (vs.toArray.zip vs.toArray) #[] 7 none:=by
  unfold kas_st;have:=kas_range (pairsOf vs);rw[pairsOf_size,hl] at this;rw[this];rfl
 rw[est] at hrun
 show wpAny (model prog w) A (sortRuns'.run (SortSt.mk' (tuples' true) (vs.toArray.zip vs.toArray) #[] 7 none) >>= _) P E s3
 refine wpAny_bind (wpAny_mono hrun (λr s' hq=>?_) λ_ _ z=>z);obtain ⟨rfl,hf,p,hp,hq⟩:=hq;have h6':s'.heap.get? a=some (seqObj "list" #[] e1):=by rw[es3];exact h6
 have hz:((arrOf r.2).map (·.2)).size<=sizeLine:=by rw[Array.size_map,hp,Array.size_map,hq.1.sz,sizeLine_eq];omega
 refine wpAny_bind (seqEpoch_at h6' rfl ?_);refine wpAny_bind (listUpdate_at h6' rfl ?_ (hsz2:=Nat.le_succ_of_le hz));rw[hf];simp only[bne_self_eq_false,Bool.false_eq_true,if_false];refine wpAny_pure ?_;have:=h p hq.1 hq.2;rw[es3];rw[hp,Array.map_map];have ef:((λx:Keyed=>x.2) ∘ kas_item (pairsOf vs))=λi=>vs.getD i .none:=by
  funext i
  show (kas_item (pairsOf vs) i).2=_
  rw[kas_item_eq]
 rw[ef];exact this
end
open PySem PySem.Spec PyProof.Rows PySem.W
def pick {α:Type} (idx:List Nat) (xs:List α) (d:α):List α:=idx.map λi=>xs.getD i d
theorem qcs {α:Type} (xs:List α) (d:α):pick (List.range xs.length) xs d=xs:=by
 unfold pick
 apply List.ext_getElem?
 intro i;rw[List.getElem?_map]
 by_cases h:i<xs.length
 ·rw[List.getElem?_range h,List.getElem?_eq_getElem h]
  simp[List.getD_eq_getElem?_getD,List.getElem?_eq_getElem h]
 ·rw[List.getElem?_eq_none (by simpa using by omega),List.getElem?_eq_none (by omega)];rfl
theorem qgm {α:Type} {idx:List Nat} {xs:List α} {d:α} (h:idx.Perm (List.range xs.length)):(pick idx xs d).Perm xs:=by
 have:=h.map (λi=>xs.getD i d);have e:=qcs xs d;unfold pick at e;rw[e] at this;exact this
def TupsH (H:Hp) (xs:List V) (ks:List (List Int)):Prop:=Paired (λv r=>∃ a,v=V.ref a/\H a=some (.tup (r.map V.int))) xs ks
theorem TupsH.len {H:Hp}:∀ {xs:List V} {ks:List (List Int)},TupsH H xs ks->xs.length=ks.length
 | _,_,.nil=>rfl
 | _,_,.cons _ t=>by simp[TupsH.len t]
theorem TupsH.get {H:Hp}:∀ {xs:List V} {ks:List (List Int)} {i:Nat} {x:V} {k:List Int},TupsH H xs ks->xs[i]?=some x->ks[i]?=some k->∃ a,x=.ref a/\H a=some (.tup (k.map V.int))
 | _,_,_,_,_,.nil,e,_=>by simp at e
 | _,_,0,_,_,.cons r _,e,f=>by simp at e f;subst e f;exact r
 | _,_,i+1,x,k,.cons _ t,e,f=>TupsH.get (i:=i) t (by simpa using e) (by simpa using f)
theorem TupsH.pick {H:Hp} {xs:List V} {ks:List (List Int)} (h:TupsH H xs ks):∀ {idx:List Nat},(∀ i∈idx,i<ks.length)->TupsH H (pick idx xs .non) (pick idx ks [])
 | [],_=>.nil
 | i :: r,hi=>by
  have h0:=hi i List.mem_cons_self;have hl:=h.len;refine .cons (h.get (i:=i) ?_ ?_) (TupsH.pick h λj hj=>hi j (List.mem_cons_of_mem _ hj))
  ·show xs[i]?=some (xs.getD i .non)
   rw[List.getD_eq_getElem?_getD,List.getElem?_eq_getElem (by omega)];rfl
  ·show ks[i]?=some (ks.getD i [])
   rw[List.getD_eq_getElem?_getD,List.getElem?_eq_getElem h0];rfl
theorem vals_pick {xs:List V} {vs:List Value} (h:Vals xs vs):∀ {idx:List Nat},(∀ i∈idx,i<xs.length)->Vals (pick idx xs .non) (pick idx vs .none)
 | [],_=>.nil
 | i :: r,hi=>by
  have h0:=hi i List.mem_cons_self;have hl:=h.length;refine .cons ?_ (vals_pick h λj hj=>hi j (List.mem_cons_of_mem _ hj))
  show RelV (xs.getD i .non) (vs.getD i .none)
  rw[List.getD_eq_getElem?_getD,List.getElem?_eq_getElem h0,List.getD_eq_getElem?_getD,List.getElem?_eq_getElem (by omega)];exact vals_ix h h0 (by omega)
where
 vals_ix:∀ {xs:List V} {vs:List Value} {i:Nat},Vals xs vs->(h1:i<xs.length)->(h2:i<vs.length)->RelV xs[i] vs[i]
  | _,_,0,.cons r _,_,_=>r
  | _,_,i+1,.cons _ t,h1,h2=>vals_ix (i:=i) t (by simpa using h1) (by simpa using h2)
section
variable {prog:Program} {w:World} {A:Around} {E:Value->Shared->Prop} {s:Shared}
theorem qnk {a:Addr} {vs:List Value} {n:Nat} {P:Fin->Shared->Prop} {ks:List (List Int)} (ho:s.heap.get? a=some (seqObj "list" vs.toArray n)) (h64:vs.length<64) (hl:vs.length=ks.length) (nd:ks.Nodup)
  (hT:∀ (i:Nat) v k,vs[i]?=some v->ks[i]?=some k->qu0 s.heap v k/\k≠[])
  (h:∀ idx:List Nat,idx.Perm (List.range ks.length)->(pick idx ks []).Pairwise (λk l=>blt k l=true)->P (.done (.ret .none)) { s with heap:=sortedHeap s.heap a vs (pick idx vs .none).toArray }):wpAny (model prog w) A (Builtin.«list.sort» ⟨[.ref a],[]⟩) P E s:=by
 by_cases h2:vs.length<2
 ·refine qh1 ho h2 ?_
  have:=h (List.range ks.length) (.refl _) (by
   rw[qcs]
   match ks,hl with
   | [],_=>exact .nil
   | [k],_=>exact List.pairwise_singleton _ _
   | _ :: _ :: _,hl=>simp at hl;omega)
  rw[<- hl,qcs] at this;rw[qq0];exact this
 ·refine qq7 ho (by omega) h64 hl nd hT λp hp ha=>?_
  have e:(p.map λi=>vs.getD i .none)=(pick p.toList vs .none).toArray:=by
   apply Array.ext'
   simp[pick]
  rw[e];refine h p.toList hp.perm ?_;rw[List.pairwise_iff_getElem];intro i j hi hj hij;have hs:=hp.sz;have li:i<p.size:=by simpa [pick] using hi
  have lj:j<p.size:=by simpa [pick] using hj
  have:=ha i j hij (by omega);unfold ltK at this;rw[Array.getD_eq_getD_getElem?,Array.getElem?_eq_getElem li,Array.getD_eq_getD_getElem?,Array.getElem?_eq_getElem lj] at this
  simpa [pick] using this
theorem qmc {l:Addr} {vs:List Value} {ks:List (List Int)} {Q:Value->Shared->Prop} (hL:s.heap.IsList l vs.toArray) (h64:vs.length<64) (hl:vs.length=ks.length) (nd:ks.Nodup)
  (hT:∀ (i:Nat) v k,vs[i]?=some v->ks[i]?=some k->qu0 s.heap v k/\k≠[])
  (h:∀ idx:List Nat,idx.Perm (List.range ks.length)->(pick idx ks []).Pairwise (λk l=>blt k l=true)->Q (.ref (s.heap.objs.size+1)) { s with heap:=sortedAll s.heap vs (pick idx vs .none).toArray }):wpAny (model prog w) A (call (.builtin "sorted") [.ref l]) Q E s:=by
 refine Calls.call_function_entry kind_sorted plain_sorted entry_sorted (args_sorted1 _) ?_;unfold Builtin.«sorted»;refine wpAny_bind (m:=checkCount "sorted" 1 1 _) (wpAny_pure ?_);refine wpAny_bind (collect_list hL ?_ (by rw[sizeLine_eq];omega));refine wpAny_bind (wpAny_newList ?_ (by rw[sizeLine_eq];omega));have hsz:((s.heap.push (seqObj "list" #[] 0)).update s.heap.objs.size (Obj.mapSeq λx=>x ++ vs.toArray)).objs.size=s.heap.objs.size+1:=by rw[Heap.size_update,size_push']
 have hS:(((s.heap.push (seqObj "list" #[] 0)).update s.heap.objs.size (Obj.mapSeq λx=>x ++ vs.toArray)).push (seqObj "list" vs.toArray 0)).get? (s.heap.objs.size+1)=some (seqObj "list" vs.toArray 0):=by
  rw[<- hsz];exact Heap.get?_push_size _ rfl
 dsimp only;rw[hsz];have kp:∀ b ob,s.heap.get? b=some ob->(((s.heap.push (seqObj "list" #[] 0)).update s.heap.objs.size (Obj.mapSeq λx=>x ++ vs.toArray)).push (seqObj "list" vs.toArray 0)).get? b=some ob:=λb ob hb=>by
  refine Heap.get?_push_of_some _ ((Heap.SameBut.update _ s.heap.objs.size _).extBut b ob (Nat.ne_of_lt (Heap.lt_size hb)) (Heap.get?_push_of_some _ hb))
 refine wpAny_bind (wpAny_holding (wpAny_call_entry slot_list_sort ⟨_,hS,rfl⟩ entry_list_sort (qnk (s:={ s with heap:=((s.heap.push (seqObj "list" #[] 0)).update s.heap.objs.size (Obj.mapSeq λx=>x ++ vs.toArray)).push (seqObj "list" vs.toArray 0) }) hS h64 hl nd (λi v k q1 q2=>?_) λidx i1 i2=>⟨_,rfl,?_⟩) (args_list_sort _)))
 ·obtain ⟨⟨b,o,xs,e,e1,g1,g2⟩,hne⟩:=hT i v k q1 q2
  exact ⟨⟨b,o,xs,e,e1,kp _ _ g1,g2⟩,hne⟩
 ·exact wpAny_pure ⟨_,rfl,h idx i1 i2⟩
end
section
variable {X:Cx}
theorem qq8 {pins:List (Addr×Obj)} {σ:St} {H:Hp} {s:Shared} {a:Addr} {k:List Int} (I:Inv X pins σ H s) (h:H a=some (.tup (k.map V.int))):qu0 s.heap (.ref a) k:=by
 obtain ⟨its,rv,p,_⟩:=I.tuple (SqT.of h);obtain ⟨o,h1,h2,n,h3⟩:=(show s.heap.IsTuple a its.toArray from p);exact ⟨a,o,its.toArray,n,rfl,h1,h2,h3,by simpa using rv⟩
def qy9 (K:Frag):List V->Hp->VK->Prop:=λxs H Q=>∃ (p:Addr) (ys:List V) (ks:List (List Int)),xs=[.ref p]/\SqL K H p ys/\TupsH H ys ks/\ks.length<64/\ks.Nodup/\(∀ k∈ks,k≠[]) /\
 ∀ ms zs l H',ms.Perm ks->ms.Pairwise (λk l=>blt k l=true)->TupsH H zs ms->New H H' l (.lst zs)->Q (.ref l) H'
theorem qfh:CallR X (.builtin "sorted") (qy9 X.K):=by
 intro pins s σ H xs us Q I r h;obtain ⟨p,ys,ks,rfl,hq,hT,h64,nd,hne,q⟩:=h;obtain ⟨u,rfl,ru⟩:=vals1 r
 cases (show u=Value.ref p from ru)
 obtain ⟨its,rv,pl,hz⟩:=I.list hq;have l1:=hT.len;have l2:=rv.length;refine qmc pl.isList (by omega) (ks:=ks) (by omega) nd (λi v k q1 q2=>?_) λidx i1 i2=>?_
 ·obtain ⟨x,qx⟩:∃ x,ys[i]?=some x:=⟨_,List.getElem?_eq_getElem (by have:=(List.getElem?_eq_some_iff.mp q2).1;omega)⟩
  obtain ⟨a,rfl,ha⟩:=hT.get qx q2;have hv:v=Value.ref a:=by
   have hx:=(List.getElem?_eq_some_iff.mp qx);have hvv:=(List.getElem?_eq_some_iff.mp q1);have:=vals_pick.vals_ix rv hx.1 hvv.1;rw[hx.2,hvv.2] at this;exact this
  subst hv;exact ⟨qq8 I ha,hne k (List.mem_of_getElem? q2)⟩
 ·have hi:∀ i∈idx,i<ks.length:=λi h=>List.mem_range.mp (i1.mem_iff.mp h)
  obtain ⟨e,he⟩:=sortedAll_at s.heap its (pick idx its .none).toArray;have vp:Vals (pick idx ys .non) (pick idx its .none):=vals_pick rv (λi h=>by have:=hi i h;omega);refine ⟨.ref _,_,I.laid (t':=s.toks) (o:=.lst (pick idx ys .non)) (λ_ _=>sortedAll_old) (Nat.le_succ _) ⟨?_,pick idx its .none,e,vp,he⟩,rfl,q (pick idx ks []) (pick idx ys .non) _ _ (qgm i1) i2 (hT.pick hi) (qax (I.hok.fresh (Nat.le_succ _)))⟩;have:=i1.length_eq;rw[List.length_range] at this
  show (pick idx ys .non).length<=_
  unfold pick;rw[List.length_map,sizeLine_eq];omega
def qza:List V->Hp->VK->Prop:=λxs H Q=>∃ (a:Addr) (kvs:List (List Key×V)) (ks:List (List Int)),xs=[.ref a]/\H a=some (.dT kvs)/\kvs.map (·.1)=ks.map (λk=>k.map Sum.inl)/\ks.length<64/\ks.Nodup/\(∀ k∈ks,k≠[]) /\
 ∀ ms zs l H',ms.Perm ks->ms.Pairwise (λk l=>blt k l=true)->TupsH H zs ms->New H H' l (.lst zs)->Q (.ref l) H'
theorem qq9 {H:Hp}:∀ {kvs:List (List Key×V)} {ys:List (List Key×Addr×Value)} {ks:List (List Int)},KT H kvs ys->kvs.map (·.1)=ks.map (λk=>k.map Sum.inl)->TupsH H (ys.map λy=>V.ref y.2.1) ks
 | [],_,ks,.nil,e=>by
  cases ks with
  | nil=>exact .nil
  | cons _ _=>cases e
 | p :: r,_,ks,.cons (b:=y) hy t,e=>by
  cases ks with
  | nil=>cases e
  | cons k ks =>
   rw[List.map_cons,List.map_cons] at e;injection e with e1 e2
   refine .cons ⟨y.2.1,rfl,?_⟩ (qq9 t e2);have:=hy.2.1;rw[e1] at this;rw[this,List.map_map];rfl
theorem qka:∀ ys:List (List Key×Addr×Value),Vals (ys.map λy=>V.ref y.2.1) (ys.map λy=>Value.ref y.2.1)
 | []=>.nil
 | _ :: r=>.cons rfl (qka r)
theorem qfi (hc:X.calm=true):CallR X (.builtin "sorted") qza:=by
 intro pins s σ H xs us Q I r h;obtain ⟨a,kvs,ks,rfl,ha,ek,h64,nd,hne,q⟩:=h;obtain ⟨u,rfl,rx⟩:=vals1 r
 cases (show u=Value.ref a from rx)
 obtain ⟨hz,lo,ys,kt,o,es,ep,e1,e2,e3,e4,_⟩:=qyk I.hok ha;have hR:RawD s.heap a es ep:=⟨o,e1,e2,e3⟩;have hT:=qq9 kt ek;have lk:kvs.length=ks.length:=by have:=congrArg List.length ek;simpa using this
 have ly:ys.length=ks.length:=by have:=hT.len;simpa using this
 have hl:es.size=ys.length:=by rw[<- Array.length_toList,e4,List.length_map]
 refine Calls.call_function_entry kind_sorted plain_sorted entry_sorted (args_sorted1 _) ?_;unfold Builtin.«sorted»;refine wpAny_bind (m:=checkCount "sorted" 1 1 _) (wpAny_pure ?_);refine wpAny_bind (PySem.W.kdu_collect (quy lo) (I.ok.hd hc) hR (by rw[sizeLine_eq];omega) λh' tk acc hk hacc=>?_);have hlen:acc.toList.length=ks.length:=by rw[Array.length_toList,hacc.1,hl,ly]
 have hacc':acc.toList=ys.map λy=>Value.ref y.2.1:=by
  apply List.ext_getElem?
  intro i
  by_cases hi:i<ys.length
  ·obtain ⟨v,hv⟩:∃ v,acc.toList[i]?=some v:=⟨_,List.getElem?_eq_getElem (by omega)⟩
   obtain ⟨e,he,hve⟩:=hacc.2 i v (by rw[<- Array.getElem?_toList];exact hv);rw[<- Array.getElem?_toList,e4,List.getElem?_map,List.getElem?_eq_getElem hi] at he;cases he;rw[hv,List.getElem?_map,List.getElem?_eq_getElem hi,hve];rfl
  ·rw[List.getElem?_eq_none (by omega),List.getElem?_eq_none (by simpa using by omega)]
 have I':Inv X pins σ H { s with heap:=h',toks:=tk }:=I.kept hk;have rv:Vals (ys.map λy=>V.ref y.2.1) acc.toList:=by
  rw[hacc'];exact qka ys
 refine wpAny_bind (wpAny_newList ?_ (by rw[hlen,sizeLine_eq];omega));have hS:(h'.push (seqObj "list" acc.toList.toArray 0)).get? h'.objs.size=some (seqObj "list" acc.toList.toArray 0):=Heap.get?_push_size _ rfl;refine wpAny_bind (wpAny_holding (wpAny_call_entry slot_list_sort ⟨_,hS,rfl⟩ entry_list_sort (qnk (s:={ s with heap:=h'.push (seqObj "list" acc.toList.toArray 0),toks:=tk }) (ks:=ks) hS (by omega) hlen nd (λi v k q1 q2=>?_) λidx i1 i2=>⟨_,rfl,?_⟩) (args_list_sort _)))
 ·obtain ⟨y,hy⟩:∃ y,ys[i]?=some y:=⟨_,List.getElem?_eq_getElem (by have:=(List.getElem?_eq_some_iff.mp q2).1;omega)⟩
  obtain ⟨b,eb,hb⟩:=hT.get (i:=i) (by rw[List.getElem?_map,hy];rfl) q2;cases eb;have hv:v=Value.ref y.2.1:=by
   rw[hacc',List.getElem?_map,hy] at q1;exact (Option.some.inj q1).symm
  subst hv;obtain ⟨b,o,xs,e,e1,g1,g2⟩:=qq8 I' hb;exact ⟨⟨b,o,xs,e,e1,Heap.get?_push_of_some _ g1,g2⟩,hne k (List.mem_of_getElem? q2)⟩
 ·refine wpAny_pure ⟨_,rfl,?_⟩
  have hi:∀ i∈idx,i<ks.length:=λi h=>List.mem_range.mp (i1.mem_iff.mp h)
  have hil:=i1.length_eq;rw[List.length_range] at hil;obtain ⟨c,hat⟩:∃ c,(sortedHeap (h'.push (seqObj "list" acc.toList.toArray 0)) h'.objs.size acc.toList (pick idx acc.toList .none).toArray).get? h'.objs.size=some (seqObj "list" (pick idx acc.toList .none).toArray c):=sortedHeap_at hS;have kp:∀ b ob,h'.get? b=some ob->(sortedHeap (h'.push (seqObj "list" acc.toList.toArray 0)) h'.objs.size acc.toList (pick idx acc.toList .none).toArray).get? b=some ob:=λb ob hb=>by
   have lb:=Heap.lt_size hb;rw[sortedHeap_old (Nat.ne_of_lt lb) (by rw[size_push'];exact Nat.lt_succ_of_lt lb)];exact Heap.get?_push_of_some _ hb
  have vp:Vals (pick idx (ys.map λy=>V.ref y.2.1) .non) (pick idx acc.toList .none):=vals_pick rv (λi h=>by have:=hi i h;simp;omega);refine ⟨.ref h'.objs.size,_,I'.laid (t':=tk) (o:=.lst (pick idx (ys.map λy=>V.ref y.2.1) .non)) kp (Nat.le_refl _) ⟨?_,pick idx acc.toList .none,c,vp,hat⟩,rfl,q (pick idx ks []) _ _ _ (qgm i1) i2 (hT.pick hi) (qax (I'.hok.fresh (Nat.le_refl _)))⟩
  show (pick idx _ V.non).length<=_
  unfold pick;rw[List.length_map,sizeLine_eq];omega
end
open PySem PySem.Spec PyProof.Rows
section
variable {X:Cx} {k:Nat} {C:Addr} {ps:List Str} {sp:Sp} {dvs:List V} {ds:List Value} {m:Str} {pos apos:Pos} {e o:Expr} {es:List Expr} {ta:TE} {t:TA}
end
open PySem PySem.Spec PyProof.Rows PySem.W
section
variable {prog:Program} {w:World} {A:Around} {E:Value->Shared->Prop} {s:Shared}
end
section
variable {X:Cx} {pos:Pos}
end
open PySem PySem.Spec PyProof.Rows
section
variable {prog:Program} {w:World} {A:Around} {E:Value->Shared->Prop} {s:Shared}
abbrev qu2 (d:Addr) (n ep:Nat):Obj:={ cls:=.type "dict_itemiterator",data:=.fields #[.none,.bool false,.ref d,.int 0 0,.int n 0,.int ep 0,.none,.none] }
theorem qwp {d:Addr} {es:Array DictEntry} {ep:Nat} {Q:Value->Shared->Prop} (lo:(d == sysModules)=false) (hm:RawD s.heap d es ep)
  (hQ:Q (.ref s.heap.objs.size) { s with heap:=s.heap.push { cls:=.type "dict_items",data:=.fields #[.ref d] } }):wpAny (model prog w) A (call (.builtin "dict.items") [.ref d]) Q E s:=by
 have ty:=hm.ty;refine wpAny_call_entry F.slot_dict_items ty F.entry_dict_items ?_ (F.args_dict_items_1 _);unfold Builtin.«dict.items»;refine wpAny_bind ?_;unfold Builtin.Dict.noArgs;refine wpAny_bind (wpAny_notOrdered_dict ty ?_);show wpAny _ _ (pure d) _ _ s;refine wpAny_pure ?_
 show wpAny _ _ (Builtin.Dict.showsAll d >>= _) _ _ s;unfold Builtin.Dict.showsAll;rw[if_neg (by rw[lo];exact Bool.false_ne_true)]
 refine wpAny_bind (wpAny_pure ?_);exact wpAny_bind (wpAny_newObj_type (wpAny_pure ⟨_,rfl,hQ⟩))
theorem qwq {v d:Addr} {es:Array DictEntry} {ep:Nat} {Q:Value->Shared->Prop} (hv:s.heap.IsItemsView v d) (hm:RawD s.heap d es ep)
  (hQ:Q (.ref s.heap.objs.size) { s with heap:=s.heap.push (qu2 d es.size ep) }):wpAny (model prog w) A (pyIter (.ref v)) Q E s:=by
 have ty:=hv.typeIs;obtain ⟨u,e1,e2,e3⟩:=hv;obtain ⟨o,h1,h2,h3⟩:=hm;refine wpAny_pyIter_slot ty F.slot_dict_items_iter (wpAny_call_entry F.slot_dict_items_iter ty F.entry_dict_items_iter ?_ (F.args_dict_items_iter_1 _));unfold Builtin.«dict_items.__iter__»;refine wpAny_bind (wpAny_pure ?_);refine wpAny_bind ?_;unfold Builtin.Dict_items.dictOf;refine wpAny_bind (wpAny_field e1 e3 (x:=.ref d) rfl (wpAny_pure ?_));refine wpAny_bind ?_;unfold Builtin.Dict_items.newIterator;refine wpAny_bind (wpAny_dictEntries h1 h3 ?_);refine wpAny_bind (wpAny_dictEpoch h1 h3 ?_);simp only[show Builtin.Dict_items.ownsTuple "dict_itemiterator" = true by decide,if_true];refine wpAny_newObj_type (wpAny_pure ⟨_,rfl, "dict_itemiterator",_,⟨_,Heap.get?_push_size _ rfl,rfl⟩,F.slot_dict_itemiterator_next.lookup,?_⟩) (by simp only[sizeOk,Builtin.Dict_items.ownedTupleFields,List.size_toArray,List.length_append,List.length_cons,List.length_nil,sizeLine_eq];omega)
 simpa [rawInt,Builtin.Dict_items.ownedTupleFields] using hQ
theorem qwr {it d:Addr} {i ep:Nat} {es:Array DictEntry} {ok ov:Value} {Q:Option Value->Shared->Prop} (hJ:IsItemIter s.heap it d i es.size ep ok ov) (hm:RawD s.heap d es ep) (hx:i<es.size)
  (hQ:∀ h',IsItemIterOut h' it d (i+1) es.size ep es[i].key es[i].val s.heap.objs.size->h'.get? s.heap.objs.size=some { cls:=.type "tuple",data:=.seq #[es[i].key,es[i].val] } ->
   (∀ b o,b≠it->s.heap.get? b=some o->h'.get? b=some o)->Q (some (.ref s.heap.objs.size)) { s with heap:=h' }):wpAny (model prog w) A (pyNext (.ref it)) Q E s:=by
 obtain ⟨hp,g,dr,tk,os⟩:=s;obtain ⟨od,h1,h2,h3⟩:=hm;have ty:Shared.TypeIs ⟨hp,g,dr,tk,os⟩ (.ref it) "dict_itemiterator" :=⟨_,hJ,rfl⟩;unfold pyNext;refine wpAny_bind (wpAny_attempt (wpAny_callSpecial?_slot (name:=Str.ofString "__next__") ty F.slot_dict_itemiterator_next (wpAny_call_entry F.slot_dict_itemiterator_next ty F.entry_dict_itemiterator_next ?_ (F.args_dict_itemiterator_next_1 _))));refine wpAny_bind (wpAny_pure ?_);refine wpAny_bind ?_;refine wpAny_bind ?_
 first|refine wpAny_bind (wpAny_typeNameOfWhole_itemiter ty (wpAny_pure ?_))|refine wpAny_bind (wpAny_typeNameOf_itemiter ty (wpAny_pure ?_))
 refine wpAny_bind (wpAny_fieldsOf hJ rfl ?_);simp only[show Builtin.Dict_items.ownsTuple "dict_itemiterator" = true by decide,if_true]
 show wpAny _ _ (if (Value.ref d == Value.none)=true then _ else _) _ _ _;rw[if_neg (show ¬ ((Value.ref d == Value.none)=true) from Bool.false_ne_true)]
 refine wpAny_bind (wpAny_pure ?_);refine wpAny_bind (wpAny_dictEntries h1 h3 ?_);rw[if_neg (by simp)];refine wpAny_bind (wpAny_pure ?_);refine wpAny_bind (wpAny_dictEpoch h1 h3 ?_);rw[if_neg (by simp)];refine wpAny_pure ?_;simp only[show ¬ ((i:Int)<0) from by omega,if_false,Int.toNat_natCast,Array.getElem?_eq_getElem hx];refine wpAny_bind ?_
 first|refine wpAny_bind (wpAny_typeNameOfWhole_itemiter ty (wpAny_pure ?_))|refine wpAny_bind (wpAny_typeNameOf_itemiter ty (wpAny_pure ?_))
 refine wpAny_bind (wpAny_isOneOf_itemiter ty ?_)
 show wpAny _ _ (setField (.ref it) 3 (rawInt ((i:Int)+1)) >>= _) _ _ ⟨hp,g,dr,tk,os⟩;refine wpAny_bind (wpAny_setField_rec hJ (by simp) λg1 j1 b1=>?_)
 replace b1:Heap.SameBut it hp g1:=b1
 replace j1:IsItemIter g1 it d (i+1) es.size ep ok ov:=by
  unfold IsItemIter;rw[show ((i+1:Nat):Int)=(i:Int)+1 by omega];simpa [rawInt] using j1
 have ty1:Shared.TypeIs ⟨g1,g,dr,tk,os⟩ (.ref it) "dict_itemiterator" :=⟨_,j1,rfl⟩;refine wpAny_bind (wpAny_holding ?_);refine wpAny_bind (wpAny_isOneOf_itemiter ty1 ?_);refine wpAny_bind (wpAny_isOneOf_itemiter ty1 ?_)
 show wpAny _ _ (Builtin.Dict_items.pairFromOwner (.ref it) 6 es[i].key es[i].val) _ _ ⟨g1,g,dr,tk,os⟩;unfold Builtin.Dict_items.pairFromOwner;refine wpAny_bind (wpAny_newTuple ?_)
 have j2:IsItemIter (g1.push { cls:=.type "tuple",data:=.seq #[es[i].key,es[i].val] }) it d (i+1) es.size ep ok ov:=Heap.get?_push_of_some _ j1;have z1:g1.objs.size=hp.objs.size:=b1.1;have il:it≠hp.objs.size:=Nat.ne_of_lt (Heap.lt_size hJ);have t2:(g1.push { cls:=.type "tuple",data:=.seq #[es[i].key,es[i].val] }).get? hp.objs.size=some { cls:=.type "tuple",data:=.seq #[es[i].key,es[i].val] }:=by rw[<- z1];exact Heap.get?_push_size _ rfl
 have k2:∀ b o,b≠it->hp.get? b=some o->(g1.push { cls:=.type "tuple",data:=.seq #[es[i].key,es[i].val] }).get? b=some o:=λb o hb e=>Heap.get?_push_of_some _ (b1.extBut b o hb e)
 generalize (g1.push { cls:=.type "tuple",data:=.seq #[es[i].key,es[i].val] })=g2 at j2 t2 k2 ⊢
 show wpAny _ _ (Builtin.Dict_items.ownedTupleIsFree (.ref it) >>= _) _ _ ⟨g2,g,dr,tk,os⟩;rw[z1];refine wpAny_bind ?_
 unfold Builtin.Dict_items.ownedTupleIsFree;refine wpAny_bind (wpAny_field j2 rfl (x:=.none) rfl (wpAny_pure ?_));simp only[if_true];refine wpAny_bind (wpAny_field j2 rfl (x:=ok) rfl ?_);refine wpAny_bind (wpAny_field j2 rfl (x:=ov) rfl ?_);refine wpAny_bind (wpAny_setField_rec j2 (by simp) λg3 j3 b3=>?_);replace b3:Heap.SameBut it g2 g3:=b3;replace j3:IsItemIter g3 it d (i+1) es.size ep es[i].key ov:=j3;refine wpAny_bind (wpAny_setField_rec j3 (by simp) λg4 j4 b4=>?_);replace b4:Heap.SameBut it g3 g4:=b4;replace j4:IsItemIter g4 it d (i+1) es.size ep es[i].key es[i].val:=j4;refine wpAny_bind (wpAny_setField_rec j4 (by simp) λg5 j5 b5=>?_);replace b5:Heap.SameBut it g4 g5:=b5;replace j5:IsItemIterOut g5 it d (i+1) es.size ep es[i].key es[i].val hp.objs.size:=j5;refine wpAny_bind (wpAny_setField_rec j5 (by simp) λg6 j6 b6=>?_);replace b6:Heap.SameBut it g5 g6:=b6;replace j6:IsItemIterOut g6 it d (i+1) es.size ep es[i].key es[i].val hp.objs.size:=j6;have k6:∀ b o,b≠it->g2.get? b=some o->g6.get? b=some o:=λb o hb e=>b6.extBut b o hb (b5.extBut b o hb (b4.extBut b o hb (b3.extBut b o hb e)))
 exact wpAny_bind (wpAny_letGo (wpAny_pure (wpAny_pure ⟨_,rfl,wpAny_pure (hQ g6 j6 (k6 _ _ il.symm t2) λb o hb e=>k6 b o hb (k2 b o hb e))⟩)))
theorem qzb {it d:Addr} {i ep:Nat} {es:Array DictEntry} {ok ov:Value} {Q:Option Value->Shared->Prop} (hh:A.handled=none) (hJ:IsItemIter s.heap it d i es.size ep ok ov) (hm:RawD s.heap d es ep) (hx:es.size<=i)
  (hQ:∀ h',Heap.ExtBut it s.heap h'->Q none { s with heap:=h' }):wpAny (model prog w) A (pyNext (.ref it)) Q E s:=by
 obtain ⟨od,h1,h2,h3⟩:=hm;have ty:s.TypeIs (.ref it) "dict_itemiterator" :=⟨_,hJ,rfl⟩;unfold pyNext;refine wpAny_bind (wpAny_attempt (wpAny_callSpecial?_slot (name:=Str.ofString "__next__") ty F.slot_dict_itemiterator_next (wpAny_call_entry F.slot_dict_itemiterator_next ty F.entry_dict_itemiterator_next ?_ (F.args_dict_itemiterator_next_1 _))));refine wpAny_bind (wpAny_pure ?_);refine wpAny_bind ?_;refine wpAny_bind ?_
 first|refine wpAny_bind (wpAny_typeNameOfWhole_itemiter ty (wpAny_pure ?_))|refine wpAny_bind (wpAny_typeNameOf_itemiter ty (wpAny_pure ?_))
 refine wpAny_bind (wpAny_fieldsOf hJ rfl ?_);simp only[show Builtin.Dict_items.ownsTuple "dict_itemiterator" = true by decide,if_true]
 show wpAny _ _ (if (Value.ref d == Value.none)=true then _ else _) _ _ s;rw[if_neg (show ¬ ((Value.ref d == Value.none)=true) from Bool.false_ne_true)]
 refine wpAny_bind (wpAny_pure ?_);refine wpAny_bind (wpAny_dictEntries h1 h3 ?_);rw[if_neg (by simp)];refine wpAny_bind (wpAny_pure ?_);refine wpAny_bind (wpAny_dictEpoch h1 h3 ?_);rw[if_neg (by simp)];refine wpAny_pure ?_;simp only[show ¬ ((i:Int)<0) from by omega,if_false,Int.toNat_natCast,Array.getElem?_eq_none hx];refine wpAny_bind ?_
 first|refine wpAny_bind (wpAny_typeNameOfWhole_itemiter ty (wpAny_pure ?_))|refine wpAny_bind (wpAny_typeNameOf_itemiter ty (wpAny_pure ?_))
 show wpAny _ _ (setField (.ref it) 2 .none >>= _) _ _ s;refine wpAny_bind (wpAny_setField hJ rfl (by simp) ?_)
 show wpAny _ _ (newExc (.type "StopIteration") [] >>= _) _ _ _;refine wpAny_bind ?_
 simp only[newExc,newTuple];refine wpAny_bind (wpAny_newObj_type ?_ (by size_fits));refine wpAny_bind (m:=firstArgMember _ _) (wpAny_of_eq (a:=Value.none) (by first|rfl|(simp only[firstArgMember];rfl)) ?_);refine wpAny_newObj_type ?_ (by size_fits);simp only[raiseNew];refine wpAny_bind (wpAny_handled ?_);rw[show A.in1.handled=none from hh];refine wpAny_bind (wpAny_pure (wpAny_throw ?_));refine wpAny_bind (wpAny_isInstance (T:= "StopIteration") (b:=true) ⟨_,Heap.get?_push_size _ rfl,rfl⟩ isSubtype_stop ?_);exact wpAny_pure (hQ _ (((Heap.SameBut.update ..).extBut.push _).push _))
theorem qtp:entryFor table "dict_itemiterator.__iter__" = some Builtin.«dict_keyiterator.__iter__» :=
 entryFor_alias (id':= "dict_keyiterator.__iter__") (by rw[fastTable_eq_tree];kernel_rfl) (by first|rfl|decide +kernel) (by decide +kernel) (by rw[fastTable_eq_tree];kernel_rfl)
theorem qws {it d:Addr} {i n ep:Nat} {ok ov:Value} {Q:Value->Shared->Prop} (hJ:IsItemIter s.heap it d i n ep ok ov) (h:Q (.ref it) s):wpAny (model prog w) A (pyIter (.ref it)) Q E s:=by
 have ty:s.TypeIs (.ref it) "dict_itemiterator" :=⟨_,hJ,rfl⟩;refine wpAny_pyIter_slot ty F.slot_dict_itemiterator_iter (wpAny_call_entry F.slot_dict_itemiterator_iter ty qtp ?_ (F.args_dict_itemiterator_iter_1 _));show wpAny _ _ (ret (.ref it)) _ _ s
 exact wpAny_pure ⟨_,rfl, "dict_itemiterator",_,ty,F.slot_dict_itemiterator_next.lookup,h⟩
end
open PySem PySem.Spec PyProof.Rows
def NoF (X:Cx) (d:Addr):Prop:=(∀ xs,X.H₀ d≠some (.tup xs))/\(∀ o u,X.H₀ d≠some (.frz o u))/\∀ ps,X.H₀ d≠some (.tbl ps)
section
variable {X:Cx} {pins:List (Addr×Obj)} {σ:St} {H:Hp} {s:Shared} {d:Addr}
theorem Inv.noF {kvs:List (List Key×V)} (I:Inv X pins σ H s) (hd:H d=some (.dT kvs)):NoF X d:=by
 refine ⟨λxs q=>?_,λo u q=>?_,λps q=>?_⟩
 ·have:=I.base.tups d xs q;rw[hd] at this;cases this
 ·have:=I.base.frzs d o u q;rw[hd] at this;cases this
 ·obtain ⟨m,e⟩:=I.base.tbls d ps q;rw[hd] at e;cases e
theorem Inv.swap {o1 o2:HO} (I:Inv X pins σ H s) (hd:H d=some o1) (n1:∀ xs,o1≠.tup xs) (n2:∀ b,o1≠.own b) (nf:NoF X d) (ok:ObjOk X.prog X.w (upd H d o2) s.heap d o2):Inv X pins σ (upd H d o2) s:=by
 have ne:∀ {b},H b=none->b≠d:=λh z=>by rw[z,hd] at h;cases h
 refine ⟨I.ok,I.os,I.bare,⟨I.base.keep,I.base.slot,λb o q n hx=>?_,I.base.there,λb xs q=>?_,λb o u q=>?_,λb ps q=>?_⟩,I.loc,I.cell,?_,λx c q=>?_,λp hp=>?_,λb u q=>?_,I.len⟩
 ·have h0:=I.base.free b o q n hx
  rw[qao (ne h0)];exact h0
 ·have hb:b≠d:=λz=>nf.1 xs (by rw[<- z];exact q)
  rw[qao hb];exact I.base.tups b xs q
 ·have hb:b≠d:=λz=>nf.2.1 o u (by rw[<- z];exact q)
  rw[qao hb];exact I.base.frzs b o u q
 ·have hb:b≠d:=λz=>nf.2.2 ps (by rw[<- z];exact q)
  rw[qao hb];exact I.base.tbls b ps q
 ·rw[qao (ne I.free)];exact I.free
 ·rw[qao (ne (I.freeC x c q))];exact I.freeC x c q
 ·obtain ⟨e,n,r⟩:=I.pin p hp
  exact ⟨e,by rw[qao (ne n)];exact n,r⟩
 ·by_cases hb:b=d
  ·subst hb;rw[qau] at q;cases q;exact ok
  ·rw[qao hb] at q
   refine (I.hok b u q).stay (λ_ _ _ q=>q) (λc q=>?_) λc xs q=>?_
   ·rw[qao (λz=>by rw[z,hd] at q;exact n2 _ (Option.some.inj q))];exact q
   ·rw[qao (λz=>by rw[z,hd] at q;exact n1 _ (Option.some.inj q))];exact q
theorem qra {P:Program} {w:World} {h:Heap} {o1 o2:HO} {kvs:List (List Key×V)} (hd:H d=some o1) (n1:∀ xs,o1≠.tup xs) (n2:∀ b,o1≠.own b) (x:ObjOk P w H h d (.dT kvs)):ObjOk P w (upd H d o2) h d (.dT kvs):=
 x.stay (λ_ _ _ q=>q) (λc q=>by rw[qao (λz=>by rw[z,hd] at q;exact n2 _ (Option.some.inj q))];exact q) λc xs q=>by rw[qao (λz=>by rw[z,hd] at q;exact n1 _ (Option.some.inj q))];exact q
theorem Inv.freeze {kvs:List (List Key×V)} {ob:Obj} (I:Inv X pins σ H s) (hd:H d=some (.dT kvs)) (e:s.heap.get? d=some ob):Inv X pins σ (upd H d (.frz ob (.dT kvs))) s:=
 I.swap hd (λ_ z=>nomatch z) (λ_ z=>nomatch z) (I.noF hd) ⟨e,qra hd (λ_ z=>nomatch z) (λ_ z=>nomatch z) (I.hok d _ hd)⟩
theorem Inv.thaw {kvs:List (List Key×V)} {ob:Obj} (I:Inv X pins σ H s) (hd:H d=some (.frz ob (.dT kvs))) (nf:NoF X d):Inv X pins σ (upd H d (.dT kvs)) s:=
 I.swap hd (λ_ z=>nomatch z) (λ_ z=>nomatch z) nf (qra hd (λ_ z=>nomatch z) (λ_ z=>nomatch z) (I.hok d _ hd).2)
end
def Iti (d:Addr) (ob:Obj) (kvs:List (List Key×V)):It:=
 ⟨λi H=>H d=some (.frz ob (.dT kvs))/\i<kvs.length,
   λi H x H'=>∃ p b k v,kvs[i]?=some (k,v)/\x=.ref p/\H p=none/\H b=some (.tup (k.map kV))/\H'=upd H p (.tup [.ref b,v]),
   λi H=>H d=some (.frz ob (.dT kvs))/\kvs.length<=i⟩
theorem qgn {α β:Type} {R:α->β->Prop}:∀ {xs:List α} {ys:List β} {i:Nat} {x:α},Paired R xs ys->xs[i]?=some x->∃ y,ys[i]?=some y/\R x y
 | _,_,_,_,.nil,e=>by simp at e
 | _,_,0,_,.cons r _,e=>by simp at e;subst e;exact ⟨_,rfl,r⟩
 | _,_,i+1,x,.cons _ t,e=>by
  obtain ⟨u,h1,h2⟩:=qgn (i:=i) (x:=x) t (by simpa using e);exact ⟨u,by simpa using h1,h2⟩
theorem qrb {P:Program} {w:World} {H:Hp} {h:Heap} {d:Addr} {ob:Obj} {kvs:List (List Key×V)} {es:Array DictEntry} {ep:Nat} (x:ObjOk P w H h d (.frz ob (.dT kvs))) (he:ob.data=.dict es ep) :
  RawD h d es ep/\es.size=kvs.length/\∀ (i:Nat) k v,kvs[i]?=some (k,v)->∃ (hi:i<es.size) (b:Addr),es[i].key=.ref b/\H b=some (.tup (k.map kV))/\RelV v es[i].val:=by
 obtain ⟨e0,hz,lo,xs,pr,o,es',ep',e1,e2,e3,e4,nd⟩:=x;rw[e0] at e1;cases e1;rw[he] at e3;cases e3;have hl:es.size=kvs.length:=by rw[<- Array.length_toList,e4,List.length_map];exact pr.length.symm
 refine ⟨⟨ob,e0,e2,he⟩,hl,λi k v hk=>?_⟩;obtain ⟨⟨k',b,u⟩,hq,hk',hb,hv⟩:=qgn pr hk;have hi:i<es.size:=by rw[hl];exact (List.getElem?_eq_some_iff.mp hk).1
 have ei:es.toList[i]?=some (entryOfKey (tupleKind (qbh P w)) (k',b,u)):=by rw[e4,List.getElem?_map,hq];rfl
 have ei':es[i]=entryOfKey (tupleKind (qbh P w)) (k',b,u):=by
  rw[Array.getElem?_toList,Array.getElem?_eq_getElem hi] at ei;exact Option.some.inj ei
 refine ⟨hi,b,by rw[ei'];rfl,hb,by rw[ei'];exact hv⟩
theorem qoy {P:Program} {w:World} {K:Frag} {elts:List Expr} {ek:Nat} {epos:Pos} (d it:Addr) (ob:Obj) (kvs:List (List Key×V)) (es:Array DictEntry) (ep:Nat) (he:ob.data=.dict es ep) :
  Turn P w K (.Tuple elts ek epos) (Iti d ob kvs) [it] it (λi h=>∃ ok ov,IsItemIter h it d i es.size ep ok ov) where
 mem:=by simp
 obj:=λi h st b hb=>by
  have e:b=it:=by simpa using hb
  subst e;obtain ⟨ok,ov,st⟩:=st;exact ⟨_,st,λv z=>by
   have z':Data.fields _=Data.cell v:=z
   cases z'⟩
 keep:=λi h h' st k=>let ⟨ok,ov,st⟩:=st;⟨ok,ov,k it (by simp) _ st⟩
 item:=by
  intro X hP hw hK hc i pins s σ H E I hf st hg;subst hP hw hK;obtain ⟨hd,hi⟩:=hg;obtain ⟨ok,ov,st⟩:=st;obtain ⟨hR,hl,at_⟩:=qrb (I.hok d _ hd) he;have hkv:kvs[i]?=some (kvs[i].1,kvs[i].2):=by rw[List.getElem?_eq_getElem hi]
  obtain ⟨hi',b,ek',hb,hv⟩:=at_ i _ _ hkv;refine qwr st hR hi' λh' a1 a2 a3=>?_
  refine ⟨.ref s.heap.objs.size,rfl,wpAny_letOwnedTupleGo_items a1 λh'' j'' sb=>?_⟩;have nz:s.heap.objs.size≠it:=Nat.ne_of_gt (Heap.lt_size st);have T2:=sb.extBut _ _ nz a2;rw[ek'] at T2;refine ⟨.ref s.heap.objs.size,upd H s.heap.objs.size (.tup [.ref b,kvs[i].2]),I.turnedLaid (t':=s.toks) (ch:=[it]) hf (λc o hc e=>?_) (Nat.le_refl _) ⟨by show 2<=sizeLine;decide,[.ref b,es[i].val],.cons rfl (.cons hv .nil),_,T2,rfl,_,rfl⟩,rfl,⟨_,b,_,_,hkv,rfl,I.hok.fresh (Nat.le_refl _),hb,rfl⟩,⟨_,_,j''⟩,λc hc=>?_⟩
  ·have hne:c≠it:=λz=>hc (by simp[z])
   exact sb.extBut _ _ hne (a3 c o hne e)
  ·have e:c=it:=by simpa using hc
   subst e;rw[qao (Ne.symm nz)];exact (hf c (by simp)).1
 done:=by
  intro X hP hw hK hc i pins s σ H E I hf st hg;subst hP hw hK;obtain ⟨hd,hi⟩:=hg;obtain ⟨ok,ov,st⟩:=st;obtain ⟨hR,hl,at_⟩:=qrb (I.hok d _ hd) he;obtain ⟨f0,f1,f2,f3,f4,f5⟩:=hf it (by simp);exact qzb (I.ok.hd hc) st hR (by omega) λh' eb=>⟨rfl,I.turned (t':=s.toks) (λb o hb e=>eb b o hb e) f0 f1 f3 f4 f5⟩
 self:=λ_ _ _ _ _ st h=>let ⟨_,_,st⟩:=st;qws st h
section
variable {X:Cx}
def qrc (X:Cx) (to:TE):TI:=λσ H R=>to σ H λx H1=>∃ d kvs,x=.ref d/\H1 d=some (.dT kvs)/\∀ ob,NoF X d->R (Iti d ob kvs) (upd H1 d (.frz ob (.dT kvs)))
theorem qnl {elts:List Expr} {ek:Nat} {epos:Pos} {o:Expr} {to:TE} {apos cpos:Pos} (ho:PE X o to)
  (hbase:attributeBase o (Str.ofString "items") X.env (eval o X.env)=eval o X.env:=by rfl) (hline:(apos.endLine == cpos.line)=true:=by rfl) :
  PI X (.Tuple elts ek epos) (.Call (.Attribute o (Str.ofString "items") apos) [] [] cpos) (qrc X to):=by
 intro pins s σ H R I h;refine wpAny_Call_method0_late hbase hline (thn (ho pins s σ H _ I h) λv s1 hq__=>?_);obtain ⟨x,H1,I1,r1,d,kvs,ex,hd,q⟩:=hq__;subst ex
 cases (show v=Value.ref d from r1)
 obtain ⟨hz,lo,xs,pr,ob,es,ep,e1,e2,e3,e4,nd⟩:=I1.hok d _ hd;have hR:RawD s1.heap d es ep:=⟨ob,e1,e2,e3⟩;refine ⟨"dict", "dict.items",F.plainAttrs_dict,F.slot_dict_items,F.type_dict_items,hR.ty,(λa ea=>by cases ea;exact ⟨ob,e1,e2.2.1⟩),Calls.callWith_builtin rfl (PySem.evalArgs_none (qwp lo hR ?_))⟩;refine qwq (s:={ s1 with heap:=s1.heap.push { cls:=.type "dict_items",data:=.fields #[.ref d] } }) ⟨_,Heap.get?_push_size _ rfl,rfl,rfl⟩ (hR.up λ_ e=>Heap.get?_push_of_some _ e) ?_;have k2:∀ b o,s1.heap.get? b=some o->((s1.heap.push { cls:=.type "dict_items",data:=.fields #[.ref d] }).push (qu2 d es.size ep)).get? b=some o:=λb o e=>Heap.get?_push_of_some _ (Heap.get?_push_of_some _ e)
 have I2:=(I1.kept (t':=s1.toks) k2).freeze hd (k2 _ _ e1);have hsz:s1.heap.objs.size<=(s1.heap.push { cls:=.type "dict_items",data:=.fields #[.ref d] }).objs.size:=by rw[Heap.size_push];exact Nat.le_succ _
 refine ⟨_,[_],_,_,_,rfl,I2,qoy d _ ob kvs es ep e3,⟨_,_,Heap.get?_push_size _ rfl⟩,λb hb=>?_,q ob (I1.noF hd)⟩;have e:b=(s1.heap.push { cls:=.type "dict_items",data:=.fields #[.ref d] }).objs.size:=by simpa using hb
 subst e;refine I1.fpOk hsz ?_;have hne:(s1.heap.push { cls:=.type "dict_items",data:=.fields #[.ref d] }).objs.size≠d:=Nat.ne_of_gt (Nat.lt_of_lt_of_le (Heap.lt_size e1) hsz);rw[qao hne];exact I1.hok.fresh hsz
def qzc (X:Cx) (Q:VK):VK:=λv H2=>∃ d kvs ob,H2 d=some (.frz ob (.dT kvs))/\NoF X d/\Q v (upd H2 d (.dT kvs))
def qDg (X:Cx) (nv:Nat) (fv:List Nat) (to:TE) (g:TG) (tc:TT) (te:TE):TE:=λσ H Q=>tLC nv fv (qrc X to) g tc te σ H (qzc X Q)
theorem qrd {e:Expr} {nv:Nat} {fv:List Nat} {to:TE} {g:TG} {tc:TT} {te:TE} (h:PE X e (tLC nv fv (qrc X to) g tc te)):PE X e (qDg X nv fv to g tc te):=by
 intro pins s σ H Q I q;exact thn (h pins s σ H _ I q) λu s' ⟨v,H2,I2,r,d,kvs,ob,hd,nf,q⟩=>⟨v,_,I2.thaw hd nf,r,q⟩
end
theorem qnm {X:Cx} {d:Addr} {ob:Obj} {kvs:List (List Key×V)} {g:TG} {tc:TT} {te:TE} {Q:VK} {σ:St} {H:Hp} (Pv:Nat->List V->Hp->Prop) (hz:kvs.length<=sizeLine) (nf:NoF X d) (h0:Pv 0 [] (upd H d (.frz ob (.dT kvs))))
  (hl:∀ i ys H2,Pv i ys H2->H2 d=some (.frz ob (.dT kvs))/\ys.length<=i)
  (hs:∀ i k v b p ys H2 H3,kvs[i]?=some (k,v)->H2 b=some (.tup (k.map kV))->New H2 H3 p (.tup [.ref b,v])->Pv i ys H2->g (.ref p) σ H3 λσ4 H4=>tc σ4 H4 λbb H5=>if bb=true then te σ4 H5 λv H6=>Pv (i+1) (ys ++ [v]) H6 else Pv (i+1) ys H5)
  (hd:∀ ys H2 p H3,Pv kvs.length ys H2->New H2 H3 p (.lst ys)->H3 d=some (.frz ob (.dT kvs))->Q (.ref p) (upd H3 d (.dT kvs))):qdx (Iti d ob kvs) (qzc X Q) g tc te σ (upd H d (.frz ob (.dT kvs))):=by
 refine ⟨λi m ys H2=>m=kvs.length-i/\i<=kvs.length/\Pv i ys H2,⟨kvs.length,by simp,Nat.zero_le _,h0⟩,?_⟩;rintro i m ys H2 ⟨rfl,hi,p⟩;obtain ⟨hd2,hy⟩:=hl i ys H2 p
 by_cases hlt:i<kvs.length
 ·refine .inr ⟨⟨hd2,hlt⟩,by omega,Pv (i+1),λzs H' p'=>⟨kvs.length-(i+1),by omega,rfl,hlt,p'⟩,λx H3 y=>?_⟩
  obtain ⟨q,b,k,v,e1,rfl,e3,e4,rfl⟩:=y;exact hs i k v b q ys H2 _ e1 e4 (qax e3) p
 ·have e:i=kvs.length:=by omega
  subst e;refine .inl ⟨⟨hd2,Nat.le_refl _⟩,by omega,λp' hp'=>?_⟩;have hne:d≠p':=λz=>by rw[<- z,hd2] at hp';cases hp'
  have h3:upd H2 p' (.lst ys) d=some (.frz ob (.dT kvs)):=by rw[qao hne];exact hd2
  exact ⟨d,kvs,ob,h3,nf,hd ys H2 p' _ p (qax hp') h3⟩
open PySem PySem.Spec PyProof.Rows
section
variable {prog:Program} {w:World} {A:Around} {E:Value->Shared->Prop} {h:Heap} {g:Array GenState} {d:Drawn} {t:Nat} {os:OsState}
variable {nm q:Str} {C N x:Addr} {bs bm:List Value} {hdct:Bool} {sn:List Str} {sub:List Value} {ab:Bool} {col:Option Bool} {dd:Option Addr} {k0 k1 k2 k3 k5:Option Value}
end
section
variable {prog:Program} {w:World} {A:Around} {E:Value->Shared->Prop} {K:Frag} {h:Heap} {g:Array GenState} {d:Drawn} {t:Nat} {os:OsState} {C f x:Addr} {o:Obj} {vs:Array Value}
end
open PySem PySem.Spec PyProof.Rows
section
variable {prog:Program} {w:World} {A:Around} {E:Value->Shared->Prop} {s:Shared} {K:Frag} {a D:Addr} {oe:Obj} {od:Option Obj}
end
open PySem PySem.Spec PyProof.Rows
end L2
namespace L2
open PySem PySem.Spec PyProof.Rows PySem.Builtin PySem.Builtin.Str
def slS (x:Str) (lo hi:Option Int):Str:=
 if ((strSliceIndices lo hi 1 x.length).length == x.length)=true then x else ⟨((strSliceIndices lo hi 1 x.length).filterMap (x.cps[·]?)).toArray⟩
def qDh:V->Option Int->Option Int->Hp->VK->Prop:=λx lo hi H Q=>∃ z,x=.str z/\(slS z lo hi).length<=sizeLine/\Q (.str (slS z lo hi)) H
theorem qgo {X:Cx}:SlR X qDh:=by
 intro pins s σ H x v vl vu lo hi sl Q I rx hs pl pu h;obtain ⟨z,rfl,hz,q⟩:=h;obtain ⟨t,rfl⟩:=rx;obtain ⟨l,el,el2⟩:∃ l:Option (Int×Tok),vl=partValue l/\l.map (·.1)=lo:=by
  cases pl with
  | none=>exact ⟨none,rfl,rfl⟩
  | int i t=>exact ⟨some (i,t),rfl,rfl⟩
 obtain ⟨u,eu,eu2⟩:∃ u:Option (Int×Tok),vu=partValue u/\u.map (·.1)=hi:=by
  cases pu with
  | none=>exact ⟨none,rfl,rfl⟩
  | int i t=>exact ⟨some (i,t),rfl,rfl⟩
 subst el eu el2 eu2;have hs':s.heap.IsSlice sl l u none:=hs;refine ⟨"str",_,F.slot_str_getitem.lookup,typeIs_str _ _ _,wpAny_getItem_str_slice (l:=l) (u:=u) (st:=none) hs' rfl ?_⟩;unfold slS at q hz;unfold sliceMade slicePicked
 by_cases c:((strSliceIndices (l.map (·.1)) (u.map (·.1)) 1 z.length).length == z.length)=true
 ·rw[if_pos c] at q
  rw[if_pos (by simpa using c)];exact ⟨.str z,H,I,⟨_,rfl⟩,q⟩
 ·rw[if_neg c] at q hz
  rw[if_neg (by simpa using c)];exact ⟨hz,⟨.str _,H,I.tok _,⟨_,rfl⟩,q⟩⟩
open PySem PySem.Spec PyProof.Rows PySem.W
end L2
namespace L2
open PySem PySem.Spec PyProof.Rows PySem.W
section
variable {prog:Program} {w:World} {A:Around} {E:Value->Shared->Prop} {s:Shared}
end
section
variable {X:Cx}
end
open PySem PySem.Spec PyProof.Rows
section
variable {prog:Program} {w:World} {A:Around} {R:Result->Shared->Prop} {I:Addr} {fp wr:List Addr} {n:Nat} {P:Nat->Value->Prop} {St:Nat->Heap->Prop} {K:Type} [DecidableEq K] {knd:KeyKind prog w K}
end
open PySem PySem.Spec PyProof.Rows
section
variable {prog:Program} {w:World} {A:Around} {E:Value->Shared->Prop} {s:Shared} {K:Type} [DecidableEq K] {knd:KeyKind prog w K}
end
open PySem PySem.Spec PyProof.Rows
section
variable {X:Cx} {k:Nat} {ps:List Str} {sp:Sp} {dvs:List V} {ds:List Value} {x:Str} {p pos:Pos} {e:Expr} {es:List Expr} {t:TA}
end
open PySem
end L2
namespace L2
open PySem
def qwt:TE:=λ_ H Q=>∀ p H',New H H' p (.dK [])->Q (.ref p) H'
theorem qkb {X:Cx} {pos:Pos}:PE X (.Dict [] [] pos) qwt:=λpins s σ H Q I h=>qta pins s σ H Q I λp hp=>h p _ (qax hp)
open PySem
section
variable {X:Cx}
theorem jS (i:Nat) {x:Str} {e:Expr} {te:TE} {pos pos':Pos} (hN:X.N.Nodup) (he:PE X e te) (hi:X.N[i]?=some x:=by rfl) (hx:Loc X.env.scope x:=by exact Or.inl rfl) (hs:swapsWith e (some (.Name x pos')) pos.line X.env=pure false:=by rfl) (hf:X.fn x=true\/X.env.scope.names.lookup x=some .local:=by first|exact .inl rfl|exact .inr rfl|assumption):PS X (.Assign [.Name x pos'] e pos) (qAr te (qcr i)):=qht hN hi hx he hs hf
theorem jN (i:Nat) {x:Str} {pos:Pos} (hN:X.N.Nodup) (hi:X.N[i]?=some x:=by rfl) (hx:Loc X.env.scope x:=by exact Or.inl rfl) (hf:X.fn x=true\/X.env.scope.names.lookup x=some .local:=by first|exact .inl rfl|exact .inr rfl|assumption):PG X (.Name x pos) (qcr i):=qga hN hi hx hf
theorem jM (i:Nat) {x:Str} {pos:Pos} (L:List Str) (hl:X.N=L:=by rfl) (hd:L.Nodup:=by decide +kernel) (hi:X.N[i]?=some x:=by rfl) (hx:Loc X.env.scope x:=by exact Or.inl rfl) (hf:X.fn x=true\/X.env.scope.names.lookup x=some .local:=by first|exact .inl rfl|exact .inr rfl|assumption):PG X (.Name x pos) (qcr i):=qga (by rw[hl];exact hd) hi hx hf
theorem jF {k k2:Nat} {x:Str} {ps:List Str} {sp:Sp} {e:Expr} {es:List Expr} {t:TA} {p pos:Pos} (D:qba X.prog X.w X.K X.mg X.base k x ps sp) (hr:Room k2 X.A) (ha:PA X (e :: es) t) (hk:k<=k2:=by decide) (hg:Gl X x:=by rfl) (hdb:(x == ("__debug__" : Str))=false:=by decide) (he:starEach (e :: es) X.env=(false,eval e X.env) :: starEach es X.env:=by rfl) (hpl:(backTo pos (starEach es X.env)).any (·.1)=false:=by rfl):PE X (.Call (.Name x p) (e :: es) [] pos) (qv1 sp [] E0 t):=qyv D (hr.mono hk) hg ha hdb he hpl
theorem jX {Y:Cx} {k k2:Nat} {x:Str} {ps:List Str} {sp:Sp} {e:Expr} {es:List Expr} {t:TA} {p pos:Pos} (D:qwg Y.prog Y.w Y.K Y.mg Y.base k x ps [] sp) (hr:Room k2 Y.A) (ha:PA Y.nox (e :: es) t) (hk:k<=k2:=by decide) (hs:qey Y:=by exact ⟨rfl,rfl,rfl⟩) (hg:Gl Y.nox x:=by rfl) (hdb:(x == ("__debug__" : Str))=false:=by decide) (he:starEach (e :: es) Y.nox.env=(false,eval e Y.nox.env) :: starEach es Y.nox.env:=by rfl) (hpl:(backTo pos (starEach es Y.nox.env)).any (·.1)=false:=by rfl):PE Y.nox (.Call (.Name x p) (e :: es) [] pos) (qqv sp [] (λ_ _ _ _=>False) t):=quw (qgj hs) D (hr.mono hk) hg .nil ha hdb he hpl
theorem jW {Y:Cx} {W:XW} {k k2:Nat} {x:Str} {ps:List Str} {sp:Sp} {e:Expr} {es:List Expr} {t:TA} {p pos:Pos} (D:qwg Y.prog Y.w Y.K Y.mg Y.base k x ps [] sp) (hr:Room k2 Y.A) (ha:PA (Y.wish (XE Y W)) (e :: es) t) (hk:k<=k2:=by decide) (hs:qey Y:=by exact ⟨rfl,rfl,rfl⟩) (hg:Gl (Y.wish (XE Y W)) x:=by rfl) (hdb:(x == ("__debug__" : Str))=false:=by decide) (he:starEach (e :: es) Y.env=(false,eval e Y.env) :: starEach es Y.env:=by rfl) (hpl:(backTo pos (starEach es Y.env)).any (·.1)=false:=by rfl):PE (Y.wish (XE Y W)) (.Call (.Name x p) (e :: es) [] pos) (qqv sp [] W t):=quw (qa1 hs) D (hr.mono hk) hg .nil ha hdb he hpl
theorem jC {op:CmpOp} {r:R2} {a b:Expr} {ta tb:TE} {pos:Pos} (ho:OpR X (compareOp op) r) (ha:PE X a ta) (hb:PE X b tb) (hm:behindInMarks op b=false:=by exact qp5 _):PT X (.Compare a [op] [b] pos) (qvx (tOp r ta tb)):=ql3 ho ha hb hm
theorem jD {op:CmpOp} {r:R2} {a b:Expr} {ta tb:TE} {pos:Pos} (ho:OpR X (compareOp op) r) (ha:PE X a ta) (hb:PE X b tb) (hm:behindInMarks op b=false:=by exact qp5 _):PE X (.Compare a [op] [b] pos) (tOp r ta tb):=qp6 ho ha hb hm
theorem jI {a b:Expr} {ta tb:TE} {pos:Pos} (ha:PE X a ta) (hb:PE X b tb) (hs:ql5 b:=by exact λ_ _=>rfl):PE X (.Subscript a b pos) (tOp (qyg X.K) ta tb):=ql6 qiu ha hb hs
theorem jT {a b:Expr} {ta tb:TE} {pos:Pos} (ha:PE X a ta) (hb:PE X b tb) (hs:ql5 b:=by exact λ_ _=>rfl):PE X (.Subscript a b pos) (tOp (qAu X.K) ta tb):=ql6 qqe ha hb hs
theorem jA1 {e1:Expr} {t1:TE} (h1:PE X e1 t1) (s1:starEach [e1] X.env=(false,eval e1 X.env) :: starEach [] X.env:=by rfl):PA X [e1] (qc9 t1 qm2):=qaw h1 qbn s1
theorem jA2 {e1 e2:Expr} {t1 t2:TE} (h1:PE X e1 t1) (h2:PE X e2 t2) (s1:starEach [e1,e2] X.env=(false,eval e1 X.env) :: starEach [e2] X.env:=by rfl) (s2:starEach [e2] X.env=(false,eval e2 X.env) :: starEach [] X.env:=by rfl):PA X [e1,e2] (qc9 t1 (qc9 t2 qm2)):=qaw h1 (qaw h2 qbn s2) s1
theorem jA3 {e1 e2 e3:Expr} {t1 t2 t3:TE} (h1:PE X e1 t1) (h2:PE X e2 t2) (h3:PE X e3 t3) (s1:starEach [e1,e2,e3] X.env=(false,eval e1 X.env) :: starEach [e2,e3] X.env:=by rfl) (s2:starEach [e2,e3] X.env=(false,eval e2 X.env) :: starEach [e3] X.env:=by rfl) (s3:starEach [e3] X.env=(false,eval e3 X.env) :: starEach [] X.env:=by rfl):PA X [e1,e2,e3] (qc9 t1 (qc9 t2 (qc9 t3 qm2))):=qaw h1 (qaw h2 (qaw h3 qbn s3) s2) s1
theorem jA4 {e1 e2 e3 e4:Expr} {t1 t2 t3 t4:TE} (h1:PE X e1 t1) (h2:PE X e2 t2) (h3:PE X e3 t3) (h4:PE X e4 t4) (s1:starEach [e1,e2,e3,e4] X.env=(false,eval e1 X.env) :: starEach [e2,e3,e4] X.env:=by rfl) (s2:starEach [e2,e3,e4] X.env=(false,eval e2 X.env) :: starEach [e3,e4] X.env:=by rfl) (s3:starEach [e3,e4] X.env=(false,eval e3 X.env) :: starEach [e4] X.env:=by rfl) (s4:starEach [e4] X.env=(false,eval e4 X.env) :: starEach [] X.env:=by rfl):PA X [e1,e2,e3,e4] (qc9 t1 (qc9 t2 (qc9 t3 (qc9 t4 qm2)))):=qaw h1 (qaw h2 (qaw h3 (qaw h4 qbn s4) s3) s2) s1
theorem jA5 {e1 e2 e3 e4 e5:Expr} {t1 t2 t3 t4 t5:TE} (h1:PE X e1 t1) (h2:PE X e2 t2) (h3:PE X e3 t3) (h4:PE X e4 t4) (h5:PE X e5 t5) (s1:starEach [e1,e2,e3,e4,e5] X.env=(false,eval e1 X.env) :: starEach [e2,e3,e4,e5] X.env:=by rfl) (s2:starEach [e2,e3,e4,e5] X.env=(false,eval e2 X.env) :: starEach [e3,e4,e5] X.env:=by rfl) (s3:starEach [e3,e4,e5] X.env=(false,eval e3 X.env) :: starEach [e4,e5] X.env:=by rfl) (s4:starEach [e4,e5] X.env=(false,eval e4 X.env) :: starEach [e5] X.env:=by rfl) (s5:starEach [e5] X.env=(false,eval e5 X.env) :: starEach [] X.env:=by rfl):PA X [e1,e2,e3,e4,e5] (qc9 t1 (qc9 t2 (qc9 t3 (qc9 t4 (qc9 t5 qm2))))):=qaw h1 (qaw h2 (qaw h3 (qaw h4 (qaw h5 qbn s5) s4) s3) s2) s1
theorem jG2 {e1 e2:Expr} {t1 t2:TG} {k:Nat} {pos:Pos} (h1:PG X e1 t1) (h2:PG X e2 t2) (hc:X.calm=true:=by rfl) (s1:(assignEach [e1,e2] X.env).map (·.2)=assign e1 X.env :: (assignEach [e2] X.env).map (·.2):=by rfl) (s2:(assignEach [e2] X.env).map (·.2)=assign e2 X.env :: (assignEach [] X.env).map (·.2):=by rfl) (hn:(assignEach [e1,e2] X.env).length=2:=by rfl) (hst:(assignEach [e1,e2] X.env).findIdx? (·.1)=none:=by rfl):PG X (.Tuple [e1,e2] k pos) (qsx X.K 2 (qcl t1 (qcl t2 qsw))):=qpx hc (qb9 h1 (qb9 h2 ql2 s2) s1) hn hst
theorem jG3 {e1 e2 e3:Expr} {t1 t2 t3:TG} {k:Nat} {pos:Pos} (h1:PG X e1 t1) (h2:PG X e2 t2) (h3:PG X e3 t3) (hc:X.calm=true:=by rfl) (s1:(assignEach [e1,e2,e3] X.env).map (·.2)=assign e1 X.env :: (assignEach [e2,e3] X.env).map (·.2):=by rfl) (s2:(assignEach [e2,e3] X.env).map (·.2)=assign e2 X.env :: (assignEach [e3] X.env).map (·.2):=by rfl) (s3:(assignEach [e3] X.env).map (·.2)=assign e3 X.env :: (assignEach [] X.env).map (·.2):=by rfl) (hn:(assignEach [e1,e2,e3] X.env).length=3:=by rfl) (hst:(assignEach [e1,e2,e3] X.env).findIdx? (·.1)=none:=by rfl):PG X (.Tuple [e1,e2,e3] k pos) (qsx X.K 3 (qcl t1 (qcl t2 (qcl t3 qsw)))):=qpx hc (qb9 h1 (qb9 h2 (qb9 h3 ql2 s3) s2) s1) hn hst
theorem jG4 {e1 e2 e3 e4:Expr} {t1 t2 t3 t4:TG} {k:Nat} {pos:Pos} (h1:PG X e1 t1) (h2:PG X e2 t2) (h3:PG X e3 t3) (h4:PG X e4 t4) (hc:X.calm=true:=by rfl) (s1:(assignEach [e1,e2,e3,e4] X.env).map (·.2)=assign e1 X.env :: (assignEach [e2,e3,e4] X.env).map (·.2):=by rfl) (s2:(assignEach [e2,e3,e4] X.env).map (·.2)=assign e2 X.env :: (assignEach [e3,e4] X.env).map (·.2):=by rfl) (s3:(assignEach [e3,e4] X.env).map (·.2)=assign e3 X.env :: (assignEach [e4] X.env).map (·.2):=by rfl) (s4:(assignEach [e4] X.env).map (·.2)=assign e4 X.env :: (assignEach [] X.env).map (·.2):=by rfl) (hn:(assignEach [e1,e2,e3,e4] X.env).length=4:=by rfl) (hst:(assignEach [e1,e2,e3,e4] X.env).findIdx? (·.1)=none:=by rfl):PG X (.Tuple [e1,e2,e3,e4] k pos) (qsx X.K 4 (qcl t1 (qcl t2 (qcl t3 (qcl t4 qsw))))):=qpx hc (qb9 h1 (qb9 h2 (qb9 h3 (qb9 h4 ql2 s4) s3) s2) s1) hn hst
theorem jB2 {s1 s2:Stmt} {t1 t2:TS} (h1:PS X s1 t1) (h2:PS X s2 t2):PSs X [s1,s2] (qcj t1 t2):=qaj h1 (qad h2)
theorem jB3 {s1 s2 s3:Stmt} {t1 t2 t3:TS} (h1:PS X s1 t1) (h2:PS X s2 t2) (h3:PS X s3 t3):PSs X [s1,s2,s3] (qcj t1 (qcj t2 t3)):=qaj h1 (qaj h2 (qad h3))
theorem jB4 {s1 s2 s3 s4:Stmt} {t1 t2 t3 t4:TS} (h1:PS X s1 t1) (h2:PS X s2 t2) (h3:PS X s3 t3) (h4:PS X s4 t4):PSs X [s1,s2,s3,s4] (qcj t1 (qcj t2 (qcj t3 t4))):=qaj h1 (qaj h2 (qaj h3 (qad h4)))
theorem jB5 {s1 s2 s3 s4 s5:Stmt} {t1 t2 t3 t4 t5:TS} (h1:PS X s1 t1) (h2:PS X s2 t2) (h3:PS X s3 t3) (h4:PS X s4 t4) (h5:PS X s5 t5):PSs X [s1,s2,s3,s4,s5] (qcj t1 (qcj t2 (qcj t3 (qcj t4 t5)))):=qaj h1 (qaj h2 (qaj h3 (qaj h4 (qad h5))))
theorem jB6 {s1 s2 s3 s4 s5 s6:Stmt} {t1 t2 t3 t4 t5 t6:TS} (h1:PS X s1 t1) (h2:PS X s2 t2) (h3:PS X s3 t3) (h4:PS X s4 t4) (h5:PS X s5 t5) (h6:PS X s6 t6):PSs X [s1,s2,s3,s4,s5,s6] (qcj t1 (qcj t2 (qcj t3 (qcj t4 (qcj t5 t6))))):=qaj h1 (qaj h2 (qaj h3 (qaj h4 (qaj h5 (qad h6)))))
theorem jB7 {s1 s2 s3 s4 s5 s6 s7:Stmt} {t1 t2 t3 t4 t5 t6 t7:TS} (h1:PS X s1 t1) (h2:PS X s2 t2) (h3:PS X s3 t3) (h4:PS X s4 t4) (h5:PS X s5 t5) (h6:PS X s6 t6) (h7:PS X s7 t7):PSs X [s1,s2,s3,s4,s5,s6,s7] (qcj t1 (qcj t2 (qcj t3 (qcj t4 (qcj t5 (qcj t6 t7)))))):=qaj h1 (qaj h2 (qaj h3 (qaj h4 (qaj h5 (qaj h6 (qad h7))))))
theorem qDi {s1 s2 s3 s4 s5 s6 s7 s8 s9 s10:Stmt} {t1 t2 t3 t4 t5 t6 t7 t8 t9 t10:TS} (h1:PS X s1 t1) (h2:PS X s2 t2) (h3:PS X s3 t3) (h4:PS X s4 t4) (h5:PS X s5 t5) (h6:PS X s6 t6) (h7:PS X s7 t7) (h8:PS X s8 t8) (h9:PS X s9 t9) (h10:PS X s10 t10):PSs X [s1,s2,s3,s4,s5,s6,s7,s8,s9,s10] (qcj t1 (qcj t2 (qcj t3 (qcj t4 (qcj t5 (qcj t6 (qcj t7 (qcj t8 (qcj t9 t10))))))))):=qaj h1 (qaj h2 (qaj h3 (qaj h4 (qaj h5 (qaj h6 (qaj h7 (qaj h8 (qaj h9 (qad h10)))))))))
theorem qDj {s1 s2 s3 s4 s5 s6 s7 s8 s9 s10 s11 s12 s13 s14 s15:Stmt} {t1 t2 t3 t4 t5 t6 t7 t8 t9 t10 t11 t12 t13 t14 t15:TS} (h1:PS X s1 t1) (h2:PS X s2 t2) (h3:PS X s3 t3) (h4:PS X s4 t4) (h5:PS X s5 t5) (h6:PS X s6 t6) (h7:PS X s7 t7) (h8:PS X s8 t8) (h9:PS X s9 t9) (h10:PS X s10 t10) (h11:PS X s11 t11) (h12:PS X s12 t12) (h13:PS X s13 t13) (h14:PS X s14 t14) (h15:PS X s15 t15):PSs X [s1,s2,s3,s4,s5,s6,s7,s8,s9,s10,s11,s12,s13,s14,s15] (qcj t1 (qcj t2 (qcj t3 (qcj t4 (qcj t5 (qcj t6 (qcj t7 (qcj t8 (qcj t9 (qcj t10 (qcj t11 (qcj t12 (qcj t13 (qcj t14 t15)))))))))))))):=qaj h1 (qaj h2 (qaj h3 (qaj h4 (qaj h5 (qaj h6 (qaj h7 (qaj h8 (qaj h9 (qaj h10 (qaj h11 (qaj h12 (qaj h13 (qaj h14 (qad h15))))))))))))))
theorem jL0 {scope:Scope} {cl:List (Str×Addr)} (h1:closureFor scope X.env=pure cl) (h2:scope.kind=.function:=by rfl) (h3:∀ y∈scope.names,y.2≠.cell:=by decide +kernel) (h4:∀ y∈scope.names,y.2=.local->scope.names.lookup y.1=some .local:=by decide +kernel) (h5:∀ p∈cl,X.env.cells.lookup p.1=some p.2:=by intro p hp;cases hp) (h6:((relabel scope X.env).names.all λy=>(y.2 != .cell && y.2 != .free) || (cl.lookup y.1).isSome)=true:=by rfl):qqp X scope cl:=qA0 h1 h2 h3 h4 h5 h6
theorem jL1 {scope:Scope} {cl:List (Str×Addr)} (h1:closureFor scope X.env=pure cl) (h2:scope.kind=.function:=by rfl) (h3:∀ y∈scope.names,y.2≠.cell:=by decide +kernel) (h4:∀ y∈scope.names,y.2=.local->scope.names.lookup y.1=some .local:=by decide +kernel) (h5:∀ p∈cl,X.env.cells.lookup p.1=some p.2:=by intro p hp;simp only[List.mem_cons,List.not_mem_nil,or_false] at hp;rcases hp with rfl<;>rfl) (h6:((relabel scope X.env).names.all λy=>(y.2 != .cell && y.2 != .free) || (cl.lookup y.1).isSome)=true:=by rfl):qqp X scope cl:=qA0 h1 h2 h3 h4 h5 h6
theorem jL2 {scope:Scope} {cl:List (Str×Addr)} (h1:closureFor scope X.env=pure cl) (h2:scope.kind=.function:=by rfl) (h3:∀ y∈scope.names,y.2≠.cell:=by decide +kernel) (h4:∀ y∈scope.names,y.2=.local->scope.names.lookup y.1=some .local:=by decide +kernel) (h5:∀ p∈cl,X.env.cells.lookup p.1=some p.2:=by intro p hp;simp only[List.mem_cons,List.not_mem_nil,or_false] at hp;rcases hp with rfl|rfl<;>rfl) (h6:((relabel scope X.env).names.all λy=>(y.2 != .cell && y.2 != .free) || (cl.lookup y.1).isSome)=true:=by rfl):qqp X scope cl:=qA0 h1 h2 h3 h4 h5 h6
theorem jL3 {scope:Scope} {cl:List (Str×Addr)} (h1:closureFor scope X.env=pure cl) (h2:scope.kind=.function:=by rfl) (h3:∀ y∈scope.names,y.2≠.cell:=by decide +kernel) (h4:∀ y∈scope.names,y.2=.local->scope.names.lookup y.1=some .local:=by decide +kernel) (h5:∀ p∈cl,X.env.cells.lookup p.1=some p.2:=by intro p hp;simp only[List.mem_cons,List.not_mem_nil,or_false] at hp;rcases hp with rfl|rfl|rfl<;>rfl) (h6:((relabel scope X.env).names.all λy=>(y.2 != .cell && y.2 != .free) || (cl.lookup y.1).isSome)=true:=by rfl):qqp X scope cl:=qA0 h1 h2 h3 h4 h5 h6
end
open PySem PyProof PyProof.Rows
section
variable {X:Cx}
end
open PySem PySem.Calls PySem.NumText PyProof.Rows
section
variable {prog:Program} {w:World} {A:Around} {E:Value->Shared->Prop} {s:Shared} {Q:Value->Shared->Prop} {x:PySem.Str} {t:Tok} {n:Int}
end
open PySem PySem.Spec PyProof.Rows PySem.Builtin PySem.Builtin.Str
def S (l:List Nat):Str:=⟨l.toArray⟩
theorem qbo (l:List Nat):(S l).length=l.length:=by show l.toArray.size=_;simp
theorem qre {a b:List Nat} (h:S a=S b):a=b:=by
 have:=congrArg (λx:Str=>x.cps.toList) h
 simpa [S] using this
theorem qi7 (a b:List Nat):S a ++ S b=S (a ++ b):=by
 show (⟨a.toArray ++ b.toArray⟩:Str)=⟨(a ++ b).toArray⟩
 simp
theorem qkc {X:Cx}:CallR X (.builtin "len") (λxs H Q=>∃ z,xs=[.str (S z)]/\z.length<=sizeLine/\Q (.int z.length) H):=by
 intro pins s σ H xs us Q I r h;obtain ⟨z,rfl,hz,q⟩:=h;exact qs1 pins s σ H _ us Q I r ⟨_,_,rfl,⟨by rw[qbo];exact hz,rfl⟩,by rw[qbo];exact q⟩
theorem qnn {X:Cx} {a b:Expr} {ta tb:TE} {pos:Pos} (ha:PE X a ta) (hb:PE X b tb) (hs:qs0 b) :
  PE X (.Subscript a b pos) (tOp (λx y H Q=>∃ z i c,x=.str (S z)/\y=.int i/\0<=i/\i<2 ^ 63/\z[i.toNat]?=some c/\Q (.str (S [c])) H) ta tb):=by
 intro pins s σ H Q I h;refine Subscript_ (qAs ha hb I h λv u s2 x y H2 I2 rx ry q=>?_);obtain ⟨z,i,c,rfl,rfl,h0,h63,hc,q⟩:=q;obtain ⟨t,rfl⟩:=rx;obtain ⟨t',rfl⟩:=ry;have hl:=(List.getElem?_eq_some_iff.mp hc).1;have e:seqIndex? i (S z).length=some i.toNat:=PySem.StrLaws.seqIndex_nonneg h0 (by rw[qbo];omega);exact tail_any (typeIs_str s2 (S z) t) PySem.F.slot_str_getitem.lookup (getItem_str (c:=c) (by
  have e1:decide (i < -(2 ^ 63:Int))=false:=decide_eq_false (by omega);have e2:decide (i ≥ 2 ^ 63)=false:=decide_eq_false (by omega);rw[e1,e2]<;>rfl) (by rw[e];simpa [S] using hc) ⟨.str (S [c]),H2,I2.tok _,⟨_,rfl⟩,q⟩) (hs _ _)
def Its (x:List Nat):It:=⟨λi _=>i<x.length,λi H v H'=>H'=H/\∃ c,x[i]?=some c/\v=.str (S [c]),λi _=>i=x.length⟩
theorem qno {P:Program} {w:World} {K:Frag} {tg:Expr} (it:Addr) (x:List Nat) (t:Tok) (ty:String) (hty:ty = "str_ascii_iterator" \/ ty = "str_iterator"):Turn P w K tg (Its x) [it] it (λi h=>h.IsStrIter it ty (S x) t i) where
 mem:=by simp
 obj:=λi h st b hb=>by
  have e:b=it:=by simpa using hb
  subst e;obtain ⟨o,e,c,d⟩:=st;exact ⟨o,e,λv z=>by rw[d] at z;cases z⟩
 keep:=λi h h' st k=>by
  obtain ⟨o,ho,r⟩:=st;exact ⟨o,k it (by simp) o ho,r⟩
 item:=by
  intro X hP hw hK hc i pins s σ H E I hf st hg;subst hP hw hK;obtain ⟨f0,f1,f2,f3,f4,f5⟩:=hf it (by simp);have W:Walks X.prog X.w X.A it [it] [it] (S x).cps.size (SignAt (S x)) (λi h=>h.IsStrIter it ty (S x) t i):=by
   rcases hty with rfl|rfl
   ·exact Walks.strAscii (I.ok.hd hc) it (S x) t
   ·exact Walks.strWide (I.ok.hd hc) it (S x) t
  refine W.item i s _ _ (by have hg':i<x.length:=hg;show i<x.toArray.size;simpa using hg') st λv h' tk hv st' kk=>?_
  obtain ⟨c,u,hx,rfl⟩:=hv;have I1:Inv X pins σ H { s with heap:=h',toks:=tk }:=I.turned (λb o hb e=>kk b o (by simpa using hb) e) f0 f1 f3 f4 f5;obtain ⟨o,e,hcl,d⟩:=id st';exact ⟨_,rfl,qpy (s:={ s with heap:=h',toks:=tk }) e hcl d (by rcases hty with rfl|rfl<;>decide) ⟨.str (S [c]),H,I1,⟨u,rfl⟩,⟨rfl,c,by simpa [S] using hx,rfl⟩,st',λb hb=>(hf b hb).1⟩⟩
 done:=by
  intro X hP hw hK hc i pins s σ H E I hf st hg;subst hP hw hK;obtain ⟨f0,f1,f2,f3,f4,f5⟩:=hf it (by simp);have W:Walks X.prog X.w X.A it [it] [it] (S x).cps.size (SignAt (S x)) (λi h=>h.IsStrIter it ty (S x) t i):=by
   rcases hty with rfl|rfl
   ·exact Walks.strAscii (I.ok.hd hc) it (S x) t
   ·exact Walks.strWide (I.ok.hd hc) it (S x) t
  have e:i=(S x).cps.size:=by
   have h2:i=x.length:=hg;rw[h2];show x.length=x.toArray.size;simp
  subst e;exact W.done s _ _ st λh' tk kk=>⟨rfl,I.turned (λb o hb e=>kk b o (by simpa using hb) e) f0 f1 f3 f4 f5⟩
 self:=λA i s Q E st h=>by
  rcases hty with rfl|rfl
  ·exact wpAny_pyIter_striter_ascii st h
  ·exact wpAny_pyIter_striter_wide st h
def qDk (tl:TE):TI:=λσ H R=>tl σ H λx H1=>∃ z,x=.str (S z)/\R (Its z) H1
theorem qu3 {X:Cx} {tg l:Expr} {tl:TE} (hl:PE X l tl):PI X tg l (qDk tl):=by
 intro pins s σ H R I h;refine thn (hl pins s σ H _ I h) λv s1 hq__=>?_
 obtain ⟨x,H1,I1,r1,q1⟩:=hq__;obtain ⟨z,e,q⟩:=q1;subst e;obtain ⟨t,rfl⟩:=r1;have fin:∀ b∈[s1.heap.objs.size],qhu X pins H1 b:=λb hb=>by
  have e:b=s1.heap.objs.size:=by simpa using hb
  subst e;exact I1.fpOk (Nat.le_refl _) (I1.hok.fresh (Nat.le_refl _))
 cases ha:(S z).cps.all (· < 128)
 ·exact wpAny_pyIter_wide ha ⟨s1.heap.objs.size,[s1.heap.objs.size],_,_,H1,rfl,I1.kept (t':=s1.toks) λb o e=>Heap.get?_push_of_some _ e,qno _ z t "str_iterator" (.inr rfl),⟨_,Heap.get?_push_size _ rfl,rfl,rfl⟩,fin,q⟩
 ·exact wpAny_pyIter_ascii ha ⟨s1.heap.objs.size,[s1.heap.objs.size],_,_,H1,rfl,I1.kept (t':=s1.toks) λb o e=>Heap.get?_push_of_some _ e,qno _ z t "str_ascii_iterator" (.inl rfl),⟨_,Heap.get?_push_size _ rfl,rfl,rfl⟩,fin,q⟩
theorem qu4 {x:List Nat} {g:TG} {tc:TT} {te:TE} {Q:VK} {σ:St} {H:Hp} (Pv:Nat->List V->Hp->Prop) (hz:x.length<=sizeLine) (h0:Pv 0 [] H) (hl:∀ i ys H,Pv i ys H->ys.length<=i)
  (hs:∀ i c ys H,x[i]?=some c->Pv i ys H->g (.str (S [c])) σ H λσ4 H4=>tc σ4 H4 λb H5=>if b=true then te σ4 H5 λv H6=>Pv (i+1) (ys ++ [v]) H6 else Pv (i+1) ys H5)
  (hd:∀ ys H p H',Pv x.length ys H->New H H' p (.lst ys)->Q (.ref p) H'):qdx (Its x) Q g tc te σ H:=by
 refine ⟨λi m ys H=>m=x.length-i/\i<=x.length/\Pv i ys H,⟨x.length,by simp,Nat.zero_le _,h0⟩,?_⟩;rintro i m ys H2 ⟨rfl,hi,p⟩;have hy:=hl i ys H2 p
 by_cases hlt:i<x.length
 ·refine .inr ⟨hlt,by omega,Pv (i+1),λzs H' p'=>⟨x.length-(i+1),by omega,rfl,hlt,p'⟩,λv H3 y=>?_⟩
  obtain ⟨e,c,y,z⟩:=y;subst e z;exact hs i c ys _ y p
 ·have e:i=x.length:=by omega
  subst e;exact .inl ⟨rfl,by omega,λp' hp'=>hd ys H2 p' _ p (qax hp')⟩
theorem qwu (K:Frag):PySem.W.kitOne K (.type "str") (.type "str")=some true:=by rfl
theorem qzd {X:Cx}:OpR X (compareOp .In) (λx y H Q=>∃ c j,x=.str (S [c])/\y=.str j/\Q (.bl (decide (c∈j.cps.toList))) H):=by
 intro pins s σ H x y v u Q I rx ry h;obtain ⟨c,j,rfl,rfl,q⟩:=h;exact qp4 pins s σ H _ _ v u Q I rx ry ⟨_,j,rfl,rfl,by rw[show S [c]=⟨#[c]⟩ from rfl,PySem.StrLaws.found_one];exact q⟩
theorem qnp (x:List Nat) {a b:Nat} (hab:a<=b) (hb:b<=x.length) {lo hi:Option Int} (h:strSliceIndices lo hi 1 (S x).length=strSliceIndices (some (a:Int)) (some (b:Int)) 1 (S x).length):slS (S x) lo hi=S ((x.drop a).take (b-a)):=by
 have hb':b<=(S x).length:=by rw[qbo];exact hb
 have e:=PySem.StrLaws.sliced_plain (S x) hab hb';unfold slS;rw[h]
 by_cases c:((strSliceIndices (some (a:Int)) (some (b:Int)) 1 (S x).length).length == (S x).length)=true
 ·rw[if_pos c]
  have hl:b-a=x.length:=by
   have:=eq_of_beq c;rw[PySem.StrLaws.strSliceIndices_plain hab hb',qbo] at this
   simpa using this
  have h1:a=0:=by omega
  rw[h1,List.drop_zero,Nat.sub_zero,List.take_of_length_le (by omega)]
 ·rw[if_neg c,e]
  show (⟨_⟩:Str)=⟨_⟩
  simp[S]
theorem qmd (x:List Nat) {k:Nat} (h:k<=x.length):slS (S x) none (some (k:Int))=S (x.take k):=by
 have e:=qnp x (Nat.zero_le k) h (lo:=none) (hi:=some (k:Int)) (by
  unfold strSliceIndices;have:max (0:Int) (min (0:Int) ((S x).length:Int))=0:=by omega
  simp[this])
 simpa using e
theorem qrf (x:List Nat) (k:Nat):slS (S x) (some (k:Int)) none=S (x.drop k):=by
 have key:∀ k:Nat,k<=x.length->slS (S x) (some (k:Int)) none=S (x.drop k):=λk hk=>by
  have e:=qnp x hk (Nat.le_refl _) (lo:=some (k:Int)) (hi:=none) (by
   rw[qbo];unfold strSliceIndices;have h1:max (0:Int) (min (x.length:Int) (x.length:Int))=x.length:=by omega
   have h2:¬ (x.length:Int)<0:=by omega
   simp[h1,h2])
  rw[e,List.take_of_length_le (by simp)]
 by_cases hk:k<=x.length
 ·exact key k hk
 ·have h1:=key x.length (Nat.le_refl _)
  rw[List.drop_eq_nil_of_le (by omega)];rw[List.drop_eq_nil_of_le (by omega)] at h1;rw[<- h1];unfold slS;rw[indices_beyond (n:=(S x).length) (i:=(k:Int)) (by rw[qbo];omega),qbo]
def isS:Expr->Bool
 | .Constant (.str _) _ _=>true
 | _=>false
def qBv:Expr->Str
 | .Constant (.str x) _ _=>x
 | _=>⟨#[]⟩
def qwv:List Str->TA
 | []=>qm2
 | s :: ss=>qc9 (tC (.str s)) (qwv ss)
theorem qww {e:Expr} (h:isS e=true):∃ k p,e=.Constant (.str (qBv e)) k p:=by
 unfold isS at h
 split at h
 ·exact ⟨_,_,rfl⟩
 ·cases h
theorem qme {X:Cx}:∀ {es:List Expr},es.all isS=true->PA X es (qwv (es.map qBv)):=by
 intro es
 induction es with
 | nil=>intro h;exact qbn
 | cons e es ih =>
  intro h;rw[List.all_cons,Bool.and_eq_true] at h;obtain ⟨k,p,he⟩:=qww h.1;rw[List.map_cons];refine qaw (te:=tC (.str (qBv e))) ?_ (ih h.2) ?_
  ·rw[he];exact qbb
  ·rw[he];rfl
theorem qgp (ss:List Str) (σ:St) (H:Hp) (Q:List V->Hp->Prop) (h:Q (ss.map V.str) H):qwv ss σ H Q:=by
 induction ss generalizing Q with
 | nil=>exact h
 | cons s ss ih=>exact ih _ h
def isStar:Expr->Bool
 | .Starred .. => true
 | _=>false
theorem qrg {e:Expr} {es:List Expr} {env:Env} (h:isStar e=false):starEach (e :: es) env=(false,eval e env) :: starEach es env:=by
 cases e<;>first|rfl|cases h
theorem qwx {X:Cx} {e:Expr} {es:List Expr} {te:TE} {t:TA} (ha:PE X e te) (hr:PA X es t) (h:isStar e=false):PA X (e :: es) (qc9 te t):=qaw ha hr (qrg h)
open PySem PySem.Spec PyProof.Rows PySem.Builtin PySem.Builtin.Str
def qho (sep:List Nat):List (List Nat)->List Nat
 | []=>[]
 | [p]=>p
 | p :: ps=>p ++ sep ++ qho sep ps
theorem qu5 (sep:List Nat):∀ (ps:List (List Nat)) (a:List Nat),(ps.map S).foldl (λacc p=>acc ++ (S sep).cps ++ p.cps) a.toArray=(match ps with|[]=>a|_=>a ++ sep ++ qho sep ps).toArray
 | [],a=>rfl
 | [p],a=>by
  show (a.toArray ++ sep.toArray ++ p.toArray)=_
  simp[qho]
 | p :: r :: ps,a=>by
  have ih:=qu5 sep (r :: ps) (a ++ sep ++ p);rw[List.map_cons,List.foldl_cons];have e:a.toArray ++ (S sep).cps ++ (S p).cps=(a ++ sep ++ p).toArray:=by show a.toArray ++ sep.toArray ++ p.toArray=_;simp
  rw[e,ih]
  simp[qho]
theorem qze (sep:List Nat) (ps:List (List Nat)):PySem.Txt.join (S sep) (ps.map S)=S (qho sep ps):=by
 unfold PySem.Txt.join glued
 cases ps with
 | nil=>rfl
 | cons p ps =>
  show (⟨(ps.map S).foldl (λacc p=>acc ++ (S sep).cps ++ p.cps) p.toArray⟩:Str)=_
  rw[qu5]
  cases ps with
  | nil=>rfl
  | cons r ps=>simp[qho,S]
def rJoin (K:Frag) (x:V) (vs:List V) (H:Hp) (Q:VK):Prop:=∃ sep ps p,x=.str (S sep)/\vs=[.ref p]/\SqL K H p (ps.map λq=>V.str (S q))/\(ps.map List.length).sum+ps.length*sep.length<=1000000/\Q (.str (S (qho sep ps))) H
theorem qnq:∀ {ps:List (List Nat)} {us:List Value},Vals (ps.map λq=>V.str (S q)) us->StrsAre us (ps.map S)
 | [],_,.nil=>.nil
 | p :: ps,_,.cons ⟨t,e⟩ r=>by subst e;exact .cons _ _ (qnq r)
theorem qrh {X:Cx}:MtR X "str.join" (rJoin X.K):=by
 intro pins s σ H x xs v us Q I rx r h;obtain ⟨sep,ps,p,rfl,rfl,hq,hz,q⟩:=h;obtain ⟨t,rfl⟩:=rx;obtain ⟨u,rfl,ru⟩:=vals1 r
 cases (show u=Value.ref p from ru)
 obtain ⟨its,rv,pl,_⟩:=I.list hq;refine join_list (ys:=ps.map S) pl.isList (by simpa using qnq rv) ?_ λt' k=>⟨.str (S (qho sep ps)),H,I.tok _,⟨t',by rw[qze]⟩,q⟩
 have e:((ps.map S).map (·.length))=ps.map List.length:=by
  rw[List.map_map];exact List.map_congr_left λl _=>qbo l
 rw[e,List.length_map,qbo];omega
open PySem PySem.Spec PyProof.Rows
section
variable {X:Cx} {pins:List (Addr×Obj)} {σ:St} {H:Hp} {s:Shared} {scope:Scope} {cl:List (Str×Addr)} {vars frees:List Str} {fv:List Nat} {elt target iter:Expr} {ifs:List Expr} {pos:Pos}
end
section
variable {X:Cx} {σ:St} {EK:XK} {C:Addr} {k:Nat} {x:Str} {ps:List Str} {ds:List Value} {dvs:List V} {sp:Sp} {e:Expr} {es:List Expr} {t:TA} {p pos:Pos} {Nc:List Str} {scope:Scope} {cl:List (Str×Addr)} {s0:Shared} {H0:Hp} {ex:List Addr}
end
open PySem PySem.Spec PyProof.Rows
theorem qe0:∀ {ss:List Str} {us:List Value},Vals (ss.map V.str) us->StrsAre us ss
 | [],_,.nil=>.nil
 | s :: ss,_,.cons ⟨t,e⟩ r=>by subst e;exact .cons _ _ (qe0 r)
theorem qgq:∀ {ss:List Str} {us:List Value},StrsAre us ss->Vals (ss.map V.str) us
 | _,_,.nil=>.nil
 | _,_,.cons y t r=>.cons ⟨t,rfl⟩ (qgq r)
theorem qkd {X:Cx}:CallR X (.builtin "sorted") (λxs H Q=>∃ (p:Addr) (ss:List Str),xs=[.ref p]/\SqL X.K H p (ss.map V.str)/\ss.length<64/\∀ (ms:List Str) l H',ms.Perm ss->sortedS ms=true->New H H' l (.lst (ms.map V.str))->Q (.ref l) H'):=by
 intro pins s σ H xs us Q I r h;obtain ⟨p,ss,rfl,hq,h64,q⟩:=h;obtain ⟨u,rfl,ru⟩:=vals1 r
 cases (show u=Value.ref p from ru)
 obtain ⟨its,rv,pl,hz⟩:=I.list hq;have hi:StrsAre its ss:=qe0 rv;have hln:its.length=ss.length:=by have:=rv.length;simpa using this.symm
 refine sorted_strs pl.isList hi (by omega) λout ms a1 a2 a3=>?_
 obtain ⟨e,he⟩:=sortedAll_at s.heap its out;have hl:ms.length<=sizeLine:=by rw[a2.length_eq];simpa using hz
 refine ⟨.ref (s.heap.objs.size+1),upd H (s.heap.objs.size+1) (.lst (ms.map V.str)),I.laid (t':=s.toks) (λ_ _=>sortedAll_old) (Nat.le_succ _) ⟨by simpa using hl,out.toList,e,qgq a1,?_⟩,rfl,q ms _ _ a2 a3 (qax (I.hok.fresh (Nat.le_succ _)))⟩;rw[he]
open PySem PySem.Spec PyProof.Rows
theorem qi8:plainId "set.update.loop" = true:=by decide +kernel
theorem qnr:entryFor table "set.update.loop" = some Builtin.«set.update.loop» :=entryFor_of_fast (by kernel_rfl)
theorem qmf (a:Value):checkTypeCall "set" ⟨[a],[]⟩=pure ():=by kernel_rfl
theorem qoz (a:Value):checkBuiltinCall "set.__new__" ⟨[.type "set",a],[]⟩=pure ():=by kernel_rfl
section
variable {prog:Program} {w:World} {A:Around} {E:Value->Shared->Prop} {s:Shared}
theorem qtq {M:Model} {self a:Value} {Q:Unit->Shared->Prop} (hT:s.TypeIs self "set") (hQ:Q () s) :
  wpAny M A (checkBuiltinCall "set.__init__" ⟨[self,a],[]⟩) Q E s:=by
 simp only[checkBuiltinCall,kind_set_init,split_set_init,sig_set_init];refine wpAny_bind (wpAny_isInstance hT sub_set_self ?_);simp only[Bool.not_true,Bool.false_eq_true,if_false];unfold Bind.checkArgs;dsimp only;refine wpAny_bind (m:=Bind.printed "set" true _ _) (PyProof.Rows.printed_name (by decide) ?_);refine wpAny_bind (m:=Bind.printed "*" false _ _) (PyProof.Rows.printed_star (self:=self) rfl hT λshort=>?_);have hrn:(Manifest.Receiver.self == Manifest.Receiver.none)=false:=by decide
 have hn:(if (Manifest.Receiver.self == Manifest.Receiver.none)=true then [self,a].length else [self,a].length-1)=1:=by simp[hrn]
 rw[hn];simp only[List.map_nil];have hc:Bind.check ⟨.positional, "set", "*",.self,[⟨"iterable",.posOnly,false⟩]⟩ "set" short 1 []=pure ():=by
  simp[Bind.check,Bind.checkCount,Bind.isPositional]
  intro h;exact absurd h (by decide)
 rw[hc];exact wpAny_pure hQ
end
section
variable {prog:Program} {w:World} {A:Around} {R:Result->Shared->Prop} {I:Addr} {fp wr:List Addr} {n:Nat} {P:Nat->Value->Prop} {St:Nat->Heap->Prop} {K:Type} [DecidableEq K] {knd:KeyKind prog w K}
def qdb:List K->Nat
 | []=>0
 | k :: l=>if k∈l then qdb l else qdb l+1
theorem qf3 (l:List K):qdb l<=l.length:=by
 induction l with
 | nil=>exact Nat.le_refl _
 | cons k l ih=>unfold qdb;split<;>simp<;>omega
end
section
variable {prog:Program} {w:World} {A:Around} {E:Value->Shared->Prop} {s:Shared} {K:Type} [DecidableEq K] {knd:KeyKind prog w K}
theorem qri {p:Addr} {Q:Bool->Shared->Prop} (hT:s.TypeIs (.ref p) "list") (h:Q false s):wpAny (model prog w) A (Builtin.Frozenset.isAnySet (.ref p)) Q E s:=by
 have f1:=F.sub_list_set;have f2:=F.sub_list_frozenset;unfold Builtin.Frozenset.isAnySet
 wp_walk
 exact h
end
theorem qrj:∀ {ss:List Str} {us:List Value},Vals (ss.map V.str) us->ss.length=us.length/\∀ (i:Nat) v,us[i]?=some v->∃ k t,v=.str k t/\ss[i]?=some k
 | [],_,.nil=>⟨rfl,λi v h=>by simp at h⟩
 | x :: ss,_,.cons ⟨t,e⟩ r=>by
  subst e;obtain ⟨h1,h2⟩:=qrj r;refine ⟨by simp[h1],λi v h=>?_⟩
  cases i with
  | zero=>cases h;exact ⟨x,t,rfl,rfl⟩
  | succ i=>exact h2 i v h
theorem qzf:bootBuiltins "set" = some (.type "set"):=by decide +kernel
open PySem PySem.Spec PyProof.Rows
def leT (a b:List Nat):Bool:=decide (¬ b<a)
def qby (l:List (List Nat)):List (List Nat):=l.mergeSort leT
theorem qke (a b c:List Nat) (h1:leT a b=true) (h2:leT b c=true):leT a c=true:=by
 unfold leT at *
 have h1:=of_decide_eq_true h1;have h2:=of_decide_eq_true h2;exact decide_eq_true (List.le_trans h1 h2)
theorem qrk (a b:List Nat):(leT a b || leT b a)=true:=by
 unfold leT
 rcases List.le_total a b with h|h
 ·rw[show decide (¬ b<a)=true from decide_eq_true h];rfl
 ·rw[show decide (¬ a<b)=true from decide_eq_true h,Bool.or_true]
theorem qtr {a b:List Nat} (h1:leT a b=true) (h2:leT b a=true):a=b:=List.le_antisymm (of_decide_eq_true h1) (of_decide_eq_true h2)
theorem qb1 (l:List (List Nat)):(qby l).Perm l:=List.mergeSort_perm l leT
theorem qts (l:List (List Nat)):(qby l).Pairwise (λa b=>leT a b=true):=List.pairwise_mergeSort qke qrk l
theorem qzg:∀ {a b:List (List Nat)},a.Perm b->a.Pairwise (λa b=>leT a b=true)->b.Pairwise (λa b=>leT a b=true)->a=b
 | [],b,p,_,_=>p.nil_eq
 | x :: a,[],p,_,_=>absurd p.symm.nil_eq (by simp)
 | x :: a,y :: b,p,h1,h2=>by
  have h1':=List.pairwise_cons.mp h1;have h2':=List.pairwise_cons.mp h2;have e:x=y:=by
   rcases List.mem_cons.mp (p.mem_iff.mp (List.mem_cons_self (a:=x) (l:=a))) with e|e
   ·exact e
   ·rcases List.mem_cons.mp (p.symm.mem_iff.mp (List.mem_cons_self (a:=y) (l:=b))) with e'|e'
    ·exact e'.symm
    ·exact qtr (h1'.1 y e') (h2'.1 x e)
  subst e;rw[qzg (List.Perm.cons_inv p) h1'.2 h2'.2]
theorem qns {a b:List (List Nat)} (p:a.Perm b) (h:a.Pairwise (λa b=>leT a b=true)):a=qby b:=qzg (p.trans (qb1 b).symm) h (qts b)
theorem qkf:∀ (x:List Nat) (l:List (List Nat)),risingS (S x) (l.map S)=true->(x :: l).Pairwise (λa b=>leT a b=true)
 | x,[],_=>List.pairwise_singleton ..
 | x,y :: l,h=>by
  have h:(!ltCps (S y).cps.toList (S x).cps.toList && risingS (S y) (l.map S))=true:=h;rw[Bool.and_eq_true] at h;have t:=qkf y l h.2;have e:leT x y=true:=by
   have h1:=h.1;rw[ltCps_eq] at h1;unfold leT S at *
   simpa using h1
  refine List.pairwise_cons.mpr ⟨λz hz=>?_,t⟩
  rcases List.mem_cons.mp hz with rfl|hz
  ·exact e
  ·exact qke _ _ _ e ((List.pairwise_cons.mp t).1 z hz)
theorem qo0:∀ {l:List (List Nat)},sortedS (l.map S)=true->l.Pairwise (λa b=>leT a b=true)
 | [],_=>.nil
 | x :: l,h=>qkf x l h
theorem qCn (x:Str):S x.cps.toList=x:=by unfold S;simp
theorem qnt {ss:List (List Nat)} {ms:List Str} (p:ms.Perm (ss.map S)) (h:sortedS ms=true):ms=(qby ss).map S:=by
 have e:ms=(ms.map λx=>x.cps.toList).map S:=by
  rw[List.map_map]
  conv=>lhs;rw[<- List.map_id ms]
  exact List.map_congr_left λx _=>(qCn x).symm
 have e2:(ss.map S).map (λx=>x.cps.toList)=ss:=by
  rw[List.map_map]
  conv=>rhs;rw[<- List.map_id ss]
  exact List.map_congr_left λx _=>by show (S x).cps.toList=x;unfold S;simp
 rw[e] at h;have p':=p.map (λx=>x.cps.toList);rw[e2] at p';rw[e,qns p' (qo0 h)]
theorem qej {X:Cx}:CallR X (.builtin "sorted") (λxs H Q=>∃ (p:Addr) (ss:List (List Nat)),xs=[.ref p]/\SqL X.K H p (ss.map λq=>V.str (S q))/\ss.length<64/\∀ l H',New H H' l (.lst ((qby ss).map λq=>V.str (S q)))->Q (.ref l) H'):=by
 intro pins s σ H xs us Q I r h;obtain ⟨p,ss,rfl,hq,h64,q⟩:=h;refine qkd pins s σ H _ us Q I r ⟨p,ss.map S,rfl,by rw[List.map_map];exact hq,by simpa using h64,λms l H' h1 h2 n=>q l H' ?_⟩;rw[qnt h1 h2,List.map_map] at n;exact n
section
variable {X:Cx}
theorem qrl {P:Program} {w:World}:∀ {kvs:List (Key×V)} {vs:List (Key×Value)} {es:List DictEntry},KV kvs vs->PySem.Pairs (qbh P w) es vs->kvs.length=es.length/\∀ (i:Nat) k v,kvs[i]?=some (k,v)->∃ e,es[i]?=some e/\RelV (kV k) e.key/\RelV v e.val
 | _,_,_,.nil,.nil=>⟨rfl,λi k v h=>by simp at h⟩
 | _,_,_,.cons (a:=p) (b:=q) ⟨h1,h2⟩ t,.cons (e:=e) hk hv r=>by
  obtain ⟨hl,at_⟩:=qrl t r;refine ⟨by simp[hl],λi k v h=>?_⟩
  cases i with
  | zero =>
   cases h;refine ⟨e,rfl,?_,?_⟩
   ·subst h1
    rcases qa9 hk with ⟨i,t,e1,e2⟩|⟨x,t,e1,e2⟩
    ·rw[e1,e2];exact ⟨t,rfl⟩
    ·rw[e1,e2];exact ⟨t,rfl⟩
   ·rw[hv];exact h2
  | succ i=>exact at_ i k v h
theorem vals_ix:∀ {xs:List V} {us:List Value},xs.length=us.length->(∀ (i:Nat) x v,xs[i]?=some x->us[i]?=some v->RelV x v)->Vals xs us
 | [],[],_,_=>.nil
 | [],_ :: _,h,_=>by simp at h
 | _ :: _,[],h,_=>by simp at h
 | x :: xs,u :: us,h,g=>.cons (g 0 x u rfl rfl) (vals_ix (by simpa using h) λi y v hy hv=>g (i+1) y v hy hv)
theorem qhp (hc:X.calm=true):CallR X (.builtin "sorted") (λxs H Q=>∃ (a:Addr) (kvs:List (Key×V)) (ss:List (List Nat)),xs=[.ref a]/\Rd H a (.dK kvs)/\kvs.map (·.1)=ss.map (λq=>Sum.inr (S q))/\ss.length<64/\∀ l H',New H H' l (.lst ((qby ss).map λq=>V.str (S q)))->Q (.ref l) H'):=by
 intro pins s σ H xs us Q I r h;obtain ⟨a,kvs,ss,rfl,ha,ek,h64,q⟩:=h;obtain ⟨u,rfl,rx⟩:=vals1 r
 cases (show u=Value.ref a from rx)
 obtain ⟨hz,lo,vs,kt,o,es,ep,e1,e2,e3,ek',e4,_⟩:=qj7 I.hok ha;have hR:RawD s.heap a es ep:=⟨o,e1,e2,e3⟩;obtain ⟨hl,at_⟩:=qrl kt e4;have hl:kvs.length=es.size:=by simpa using hl
 have lk:kvs.length=ss.length:=by have:=congrArg List.length ek;simpa using this
 refine Calls.call_function_entry kind_sorted plain_sorted entry_sorted (args_sorted1 _) ?_;unfold Builtin.«sorted»;refine wpAny_bind (m:=checkCount "sorted" 1 1 _) (wpAny_pure ?_);refine wpAny_bind (PySem.W.kdu_collect (quy lo) (I.ok.hd hc) hR (by rw[sizeLine_eq];omega) λh' tk acc hk hacc=>?_);have hlen:acc.toList.length=ss.length:=by rw[Array.length_toList,hacc.1];omega
 have rv:Vals ((ss.map S).map V.str) acc.toList:=by
  refine vals_ix (by simpa using hlen.symm) λi x v hx hv=>?_
  obtain ⟨e,he,hve⟩:=hacc.2 i v (by rw[<- Array.getElem?_toList];exact hv);have hi:i<kvs.length:=by have:=(List.getElem?_eq_some_iff.mp hv).1;omega
  obtain ⟨e',he',hk',_⟩:=at_ i kvs[i].1 kvs[i].2 (by rw[List.getElem?_eq_getElem hi]);rw[Array.getElem?_toList,he] at he'
  cases he'
  have e5:(kvs.map (·.1))[i]?=some kvs[i].1:=by simp[hi]
  rw[ek,List.getElem?_map] at e5;rw[List.map_map,List.getElem?_map] at hx
  cases hq:ss[i]? with
  | none=>rw[hq] at hx;cases hx
  | some z =>
   rw[hq] at hx e5;cases hx;have e6:=Option.some.inj e5;rw[<- e6] at hk';rw[hve];exact hk'
 have hS:StrsAre acc.toList (ss.map S):=qe0 rv;have I':Inv X pins σ H { s with heap:=h',toks:=tk }:=I.kept hk;refine wpAny_bind (wpAny_newList ?_ (by rw[hlen,sizeLine_eq];omega));have hoL:(h'.push (seqObj "list" acc.toList.toArray 0)).get? h'.objs.size=some (seqObj "list" acc.toList.toArray 0):=Heap.get?_push_size _ rfl;refine wpAny_bind (wpAny_holding (wpAny_call_entry slot_list_sort ⟨_,hoL,rfl⟩ entry_list_sort (list_sort_treeK (s:={ s with heap:=h'.push (seqObj "list" acc.toList.toArray 0),toks:=tk }) strKind_oneLt hoL hS.keysOf (λv₁ v₂ rest e=>keyKind_strs (by rw[<- e];exact hS)) (by omega) λst' a1 a2=>⟨_,rfl,?_⟩) (args_list_sort _)));refine wpAny_pure ⟨_,rfl,?_⟩;obtain ⟨ms,m1,m2,m3⟩:=sorted_out_str hS a1 a2;have em:=qnt m2 m3;subst em;obtain ⟨c,hat⟩:∃ c,(sortedHeap (h'.push (seqObj "list" acc.toList.toArray 0)) h'.objs.size acc.toList ((arrOf st').map (·.2))).get? h'.objs.size=some (seqObj "list" ((arrOf st').map (·.2)) c):=sortedHeap_at hoL;have kp:∀ b ob,h'.get? b=some ob->(sortedHeap (h'.push (seqObj "list" acc.toList.toArray 0)) h'.objs.size acc.toList ((arrOf st').map (·.2))).get? b=some ob:=λb ob hb=>by
  have lb:=Heap.lt_size hb;rw[sortedHeap_old (Nat.ne_of_lt lb) (by rw[size_push'];exact Nat.lt_succ_of_lt lb)];exact Heap.get?_push_of_some _ hb
 have hl2:((qby ss).map S).length<=sizeLine:=by rw[List.length_map,(qb1 ss).length_eq,sizeLine_eq];omega
 have vv:=qgq m1;rw[List.map_map] at vv;exact ⟨.ref h'.objs.size,upd H h'.objs.size (.lst ((qby ss).map λq=>V.str (S q))),I'.laid (t':=tk) kp (Nat.le_refl _) ⟨by simpa using hl2,_,c,vv,by rw[hat]⟩,rfl,q _ _ (qax (I'.hok.fresh (Nat.le_refl _)))⟩
end
open PySem PySem.Spec PyProof.Rows
theorem qzh {X:Cx} {K:Frag} {o e:Expr} {es:List Expr} {to:TE} {t:TA} {name:Str} {apos cpos:Pos} {T id:String} {r:V->List V->Hp->VK->Prop} (hK:X.K=K) (pa:PlainAttrs T) (slot:Slot T name id) (hty:typeOf (.builtin id)=pure (.type "method_descriptor")) (hm:MtR X id r) (ho:PE X o to) (ha:PA X (e :: es) t)
  (hbase:attributeBase o name X.env (eval o X.env)=eval o X.env:=by rfl)
  (hfew:((backTo cpos (starEach (e :: es) X.env)).all (λx=>!x.1) && (backToKw cpos (keywordEach [] X.env)).all (λx=>x.1.isSome)
   && decide ((e :: es).length+([]:List Keyword).length+(if ([]:List Keyword).isEmpty then 0 else 1)<30))=true:=by rfl)
  (hline:(apos.endLine == cpos.line)=true:=by rfl) (hs:starEach (e :: es) X.env=(false,eval e X.env) :: starEach es X.env:=by rfl) (hplain:(backTo cpos (starEach es X.env)).any (·.1)=false:=by rfl) :
  PE X (.Call (.Attribute o name apos) (e :: es) [] cpos) (tBM K T r to t):=by
 subst hK;exact qee pa slot hty hm ho ha hbase hfew hline hs hplain
open PySem PySem.Spec PyProof.Rows
end L2
namespace L2
open PySem PySem.Spec PyProof.Rows
section
variable {P:Program} {w:World} {K:Frag} {mg:Str->Option Value} {base:Heap}
end
open PySem PySem.Spec PyProof.Rows
section
variable {X:Cx} {k:Nat} {f C:Addr} {fd:FuncData} {ps:List Str} {sp:Sp} {m:Str} {pos apos:Pos} {o:Expr} {ta:TE}
end
open PySem PySem.Spec PyProof.Rows
section
variable {prog:Program} {w:World} {A:Around} {E:Value->Shared->Prop} {s:Shared}
end
open PySem PySem.Spec PyProof.Rows
section
variable {prog:Program} {w:World} {A:Around} {E:Value->Shared->Prop} {s:Shared}
end
section
variable {X:Cx}
end
open PySem PySem.Spec PyProof.Rows
theorem qmg (t:SetTable) (n:Nat):(t.orStandIn n).led=t.led/\(t.plain=false->(t.orStandIn n).plain=false):=by
 unfold SetTable.orStandIn
 split
 ·exact ⟨rfl,λe=>e⟩
 ·exact ⟨rfl,λ_=>rfl⟩
theorem qo1 (t:SetTable) (es:Array (Int×Value)) (h:Int) (x:Value):(layNew t es h x).2.1.led=t.led/\(t.plain=false->(layNew t es h x).2.1.plain=false):=by
 unfold layNew
 split
 ·exact qmg _ _
 ·exact ⟨rfl,λ_=>rfl⟩
theorem qrm (t:SetTable) (es:Array (Int×Value)) (n:Nat):(relayAll t es n).2.1.led=t.led/\(t.plain=false->(relayAll t es n).2.1.plain=false):=by
 unfold relayAll
 split
 ·rename_i t' order e
  have e2:t'.led=t.led/\t'.plain=t.plain:=by
   unfold SetTable.relaid SetTable.laid at e
   cases hc:SetTable.layClean (SetTable.sizeAbove n-1) (Array.map (λx=>x.fst) es) with
   | none=>rw[hc] at e;cases e
   | some ow=>rw[hc] at e;cases e;exact ⟨rfl,rfl⟩
  dsimp only
  split
  ·exact ⟨e2.1,λh=>e2.2.trans h⟩
  ·exact ⟨rfl,λ_=>rfl⟩
 ·exact ⟨rfl,λ_=>rfl⟩
section
variable {prog:Program} {w:World} {K:Type} [DecidableEq K]
def qo2 (knd:KeyKind prog w K) (h:Heap) (a:Addr) (S:K->Bool) (n:Nat) (led:Bool):Prop:=
 ∃ o es ep t,h.get? a=some o/\o.ExactSet/\o.data=.set es ep t/\ElemsOf knd es.toList/\(∀ k,S k=true↔∃ e∈es.toList,knd.is k e.2=true)/\es.size<scanBound/\t.fits es.size=true/\es.size=n/\t.led=led/\(t.plain=false\/es.size=0)
variable {knd:KeyKind prog w K} {A:Around} {E:Value->Shared->Prop} {s:Shared}
theorem qnu {h:Heap} {a:Addr} {o:Obj} {es:Array (Int×Value)} {ep:Nat} {t:SetTable} (ho:h.get? a=some o) (hex:o.ExactSet) (hd:o.data=.set es ep t)
  {es':Array (Int×Value)} {t':SetTable} {S':K->Bool} {led:Bool} (hel:ElemsOf knd es'.toList) (hmem:∀ k,S' k=true↔∃ e∈es'.toList,knd.is k e.2=true) (hb:es'.size<scanBound) (hf:t'.fits es'.size=true) (hl:t'.led=led) (hp:t'.plain=false) :
  (h.update a (Obj.putSet es' t')).get? a=some { o with data:=.set es' (ep+1) t' }/\qo2 knd (h.update a (Obj.putSet es' t')) a S' es'.size led:=by
 obtain ⟨h1,_⟩:=SetOf_store (knd:=knd) ho hex hd hel hmem hb hf;exact ⟨h1,_,_,_,_,h1,hex,rfl,hel,hmem,hb,hf,rfl,hl,.inl hp⟩
theorem qrn {g:Bool->Sem Unit} (hg:∀ (b:Bool) (s₁:Shared) (Q':Unit->Shared->Prop),Q' () s₁->wpAny (model prog w) A (g b) Q' E s₁)
  {a:Addr} {o:Obj} {es:Array (Int×Value)} {ep:Nat} {t:SetTable} (ho:s.heap.get? a=some o) (hex:o.ExactSet) (hd:o.data=.set es ep t)
  {es1:Array (Int×Value)} {t2:SetTable} {S':K->Bool} {led:Bool} (hel1:ElemsOf knd es1.toList) (hmem1:∀ k',S' k'=true↔∃ e∈es1.toList,knd.is k' e.2=true)
  (hb1:es1.size<scanBound) (hf2:t2.fits es1.size=true) (hl:t2.led=led) (hp:t2.plain=false) {wasDummy:Bool} {R:Option Bool->Shared->Prop}
  (h:∀ h',Heap.SameBut a s.heap h'->qo2 knd h' a S' es1.size led->R (some true) { s with heap:=h' }) :
  wpAny (model prog w) A (do
    storeSet a es1 t2
    if (!wasDummy && t2.tooFull)=true then do
      g (relayAll t2 es1 (SetTable.grown es1.size)).2.2
      storeSet a (relayAll t2 es1 (SetTable.grown es1.size)).1 (relayAll t2 es1 (SetTable.grown es1.size)).2.1
      pure (some true)
     else pure (some true)) R E s:=by
 refine wpAny_bind (wpAny_storeSet_of ho hd ?_ (fits_of_scanBound hb1));obtain ⟨ho1,hS1⟩:=qnu (knd:=knd) ho hex hd hel1 hmem1 hb1 hf2 hl hp;have hsb:=Heap.SameBut.update s.heap a (Obj.putSet es1 t2)
 split
 ·have q1:=relayAll_perm t2 es1 (SetTable.grown es1.size)
  have q2:=relayAll_fits t2 es1 (SetTable.grown es1.size);have q3:=qrm t2 es1 (SetTable.grown es1.size)
  generalize relayAll t2 es1 (SetTable.grown es1.size)=L at q1 q2 q3 ⊢
  obtain ⟨es2,t3,g2⟩:=L;dsimp only at q1 q2 q3 ⊢;have sz:es2.size=es1.size:=by have:=q1.length_eq;simpa using this
  refine wpAny_bind (hg _ _ _ ?_);refine wpAny_bind (wpAny_storeSet_of ho1 rfl ?_ (fits_of_scanBound (by omega)));have X2:=(qnu (knd:=knd) (S':=S') ho1 hex rfl (hel1.perm q1) (λk'=>(hmem1 k').trans ⟨fun ⟨e,he,q⟩=>⟨e,q1.mem_iff.mpr he,q⟩,fun ⟨e,he,q⟩=>⟨e,q1.mem_iff.mp he,q⟩⟩) (by omega) q2 (q3.1.trans hl) (q3.2 hp)).2;rw[sz] at X2;exact wpAny_pure (h _ (hsb.trans (Heap.SameBut.update _ a _)) X2)
 ·exact wpAny_pure (h _ hsb hS1)
theorem qzi {a:Addr} {S:K->Bool} {n:Nat} {led:Bool} {k:K} {x:Value} {Q:Bool->Shared->Prop} (hkey:knd.is k x=true) (hsc:x.scannable=true) (hpk:plainKind x=false) (hS:qo2 knd s.heap a S n led) (hr0:n+1<scanBound)
  (h:∀ (b:Bool) h',Heap.SameBut a s.heap h'->qo2 knd h' a (λk'=>S k' || decide (k'=k)) (if S k=true then n else n+1) led->Q b { s with heap:=h' }) :
  wpAny (model prog w) A (setAddHashed a x (knd.hash k)) Q E s:=by
 obtain ⟨o,es,ep,t,ho,hex,hd,hel,hmem,hb,hf,hn,hl,hpl⟩:=hS;have hb1:es.size+1<scanBound:=by omega
 unfold setAddHashed setAddHashedIn;refine wpAny_holding (wpAny_bind (wpAny_setState_of ho hd hf ?_));dsimp only;rw[byScan_of hsc hb hel];simp only[↓reduceIte];unfold setAddByScan;refine wpAny_bind ?_;refine wpAny_bind (wpAny_rule ?_);refine wpAny_bind (wpAny_setScan_of hkey ho hd hf hel ?_)
 cases hr:List.findIdx? (λe=>knd.is k e.2) es.toList with
 | some j =>
  dsimp only;obtain ⟨hj,hpj,_⟩:=List.findIdx?_eq_some_iff_getElem.mp hr;have hSk:S k=true:=(hmem k).mpr ⟨es.toList[j],List.getElem_mem hj,hpj⟩;refine wpAny_pure (wpAny_pure ?_);have e:s={ s with heap:=s.heap }:=by cases s;rfl
  rw[e];refine h _ s.heap (Heap.SameBut.refl a s.heap) ⟨o,es,ep,t,ho,hex,hd,hel,λk'=>?_,hb,hf,by rw[if_pos hSk];exact hn,hl,hpl⟩;rw[Bool.or_eq_true,decide_eq_true_eq,<- hmem k'];exact ⟨λhk=>hk.elim id (λe=>e ▸ hSk),.inl⟩
 | none =>
  dsimp only;have hSk:¬ S k=true:=λhk=>by
   obtain ⟨e,he,hp⟩:=(hmem k).mp hk;have:=List.findIdx?_eq_none_iff.mp hr e he;rw[hp] at this;cases this
  have hgw:∀ (b:Bool) {s₁:Shared} {Q':Unit->Shared->Prop},Q' () s₁->wpAny (model prog w) A (match b with|true=>rule "set.scan.the-table-gave-way" | false=>pure ()) Q' E s₁:=
   λb s₁ Q' hq=>by cases b<;>first|exact wpAny_pure hq|exact wpAny_rule hq
  have q1:=layNew_perm t es (knd.hash k) x;have q2:=layNew_fits t es (knd.hash k) x;have q3:=qo1 t es (knd.hash k) x
  generalize layNew t es (knd.hash k) x=L at q1 q2 q3 ⊢
  obtain ⟨es1,t1,wd,gv⟩:=L;dsimp only at q1 q2 q3 ⊢;rw[Array.toList_push] at q1;have sz:es1.size=n+1:=by have:=q1.length_eq;rw[List.length_append] at this;simp at this;omega
  refine wpAny_bind (hgw _ ?_);have fin:∀ h',Heap.SameBut a s.heap h'->qo2 knd h' a (λk'=>S k' || decide (k'=k)) es1.size led->Q true { s with heap:=h' }:=λh' hs hX=>by
   refine h true h' hs ?_;rw[if_neg hSk,<- sz];exact hX
  split
  ·refine wpAny_bind ?_
   rw[hashByValue_scannable 8 hsc,hpk];refine wpAny_pure ?_;simp only[Bool.false_eq_true,↓reduceIte];refine qrn ?_ ho hex hd (hel.push hkey hsc |>.perm q1) (mem_push_iff hkey hmem q1) (by omega) (SetTable.fits_plain_off q2) (led:=led) (q3.1.trans hl) rfl λh' hs hX=>wpAny_pure (fin h' hs hX)
   intro b s₁ Q' hq;cases b<;>first|exact wpAny_pure hq|exact wpAny_rule hq
  ·rename_i hp1
   refine wpAny_bind (wpAny_pure ?_);simp only[↓reduceIte];refine qrn ?_ ho hex hd (hel.push hkey hsc |>.perm q1) (mem_push_iff hkey hmem q1) (by omega) q2 (led:=led) (q3.1.trans hl) (by simpa using hp1) λh' hs hX=>wpAny_pure (fin h' hs hX)
   intro b s₁ Q' hq;cases b<;>first|exact wpAny_pure hq|exact wpAny_rule hq
end
section
variable {prog:Program} {w:World} {A:Around} {E:Value->Shared->Prop} {s:Shared}
theorem qzj (a:Value) {Q₁:Value->Shared->Prop}
  (h:Q₁ (.ref s.heap.objs.size) { s with heap:=s.heap.push { cls:=.type "set",dict:=none,data:=.set #[] 0 (.fresh 0 0 (!w.params.followText "set-order")) } }) :
  codeAny (model prog w) A (.call (.builtin "set.__new__") ⟨[.type "set",a],[]⟩) (wants Q₁ E) s:=by
 refine codeAny_of_tree ?_
 show wpAny _ A.in1 (do checkBuiltinCall "set.__new__" ⟨[.type "set",a],[]⟩;again (.builtin "set.__new__" ⟨[.type "set",a],[]⟩)) _ _ s
 refine wpAny_bind (wpAny_of_eq (qoz a) (wpAny_pure ⟨plainId_quiet F.plain_set_new _,codeAny_builtin F.entry_set_new ?_⟩));rw[Around.under_plainId F.plain_set_new _];unfold Builtin.«set.__new__» Builtin.Frozenset.newClass;have hsub:=sub_set_self;obtain ⟨hp,g,d,tk,os⟩:=s;dsimp only
 wp_walk
 refine wpAny_askSetting (wpAny_pure ?_);dsimp only;simp only[newObj];refine wpAny_bind (wpAny_alloc (wpAny_pure ?_));exact wpAny_pure h
end
section
variable {prog:Program} {w:World} {A:Around} {R:Result->Shared->Prop} {I:Addr} {fp wr:List Addr} {n:Nat} {P:Nat->Value->Prop} {St:Nat->Heap->Prop} {K:Type} [DecidableEq K] {knd:KeyKind prog w K}
theorem qwy (W:Walks prog w A.in1 I fp wr n P St) (D:Addr) (hDf:D ∉ fp) (rs:List K) {led:Bool} (hn:n<=1000)
  (hP:∀ i v,P i v->∃ k,knd.is k v=true/\v.scannable=true/\plainKind v=false/\rs[i]?=some k) (hl:rs.length=n) :
  ∀ (k i:Nat) (s:Shared) (m:Nat),n-i=k->i<=n->St i s.heap->qo2 knd s.heap D (λq=>decide (q∈(rs.take i).reverse)) m led->m=qdb (rs.take i).reverse ->
  (∀ h' tk,qo2 knd h' D (λq=>decide (q∈rs.reverse)) (qdb rs.reverse) led->(∀ b o,b ∉ wr->b≠D->s.heap.get? b=some o->h'.get? b=some o)->R (.ok (.ret .none)) { s with heap:=h',toks:=tk }) ->
  codeAny (model prog w) A (.builtin "set.update.loop" ⟨[.ref D,.ref I],[]⟩) R s:=by
 have hDw:D ∉ wr:=λh=>hDf (W.sub _ h)
 intro k
 induction k with
 | zero =>
  intro i s m hk hi hst hd hm hR;have hin:i=n:=by omega
  subst hin;rw[<- hl,List.take_length] at hd hm;refine codeAny_builtin qnr ?_;rw[Around.under_plainId qi8 _]
  show wpAny _ A.in1 (pyNext (.ref I) >>= _) _ _ s
  refine wpAny_bind (W.done s _ _ hst λh' tk hm'=>?_);refine wpAny_pure (hR h' tk ?_ λb o hb _ e=>hm' b o hb e);obtain ⟨o,es,ep,t,ho,r⟩:=hd;exact ⟨o,es,ep,t,hm' D o hDw ho,hm ▸ r⟩
 | succ k ih =>
  intro i s m hk hi hst hd hm hR;have hlt:i<n:=by omega
  refine codeAny_builtin qnr ?_;rw[Around.under_plainId qi8 _]
  show wpAny _ A.in1 (pyNext (.ref I) >>= _) _ _ s
  refine wpAny_bind (W.item i s _ _ hlt hst λv h' tk hp hst' hmk=>?_);obtain ⟨kk,hkey,hsc,hpk,hrs⟩:=hP i v hp;obtain ⟨o1,es,ep,t,ho1,rr⟩:=hd;have hd':qo2 knd h' D (λq=>decide (q∈(rs.take i).reverse)) m led:=⟨o1,es,ep,t,hmk D o1 hDw ho1,rr⟩;have ml:m<=1000:=by
   have:=qf3 (rs.take i).reverse;rw[List.length_reverse,List.length_take] at this;omega
  show wpAny _ A.in1 (holding [v] _ >>= _) _ _ _
  refine wpAny_bind (wpAny_holding ?_);unfold setAdd;refine wpAny_holding (wpAny_bind (knd.pyHash hkey ?_));refine qzi (s:={ s with heap:=h',toks:=_ }) hkey hsc hpk hd' (by unfold scanBound;omega) λ_ h2 hs2 hd2=>?_
  have et:rs.take (i+1)=rs.take i ++ [kk]:=by rw[List.take_succ,hrs];rfl
  refine wpAny_pure ⟨plainId_quiet qi8 _,ih (i+1) _ _ (by omega) hlt (W.frame _ _ _ hst' λb hb o e=>?_) ?_ rfl λh3 tk3 hd3 hk3=>?_⟩
  ·exact (hs2.2 b (λh:b=D=>hDf (by rw[<- h];exact hb))).trans e
  ·rw[et]
   have e1:(λq=>decide (q∈(rs.take i ++ [kk]).reverse))=(λk'=>decide (k'∈(rs.take i).reverse) || decide (k'=kk)):=by
    funext q
    simp[Bool.or_comm]
   have e2:qdb (rs.take i ++ [kk]).reverse=(if decide (kk∈(rs.take i).reverse)=true then m else m+1):=by
    rw[List.reverse_append,hm]
    show qdb (kk :: (rs.take i).reverse)=_
    unfold qdb
    by_cases e:kk∈(rs.take i).reverse
    ·rw[if_pos e,if_pos (decide_eq_true e)]
     cases hq:(rs.take i).reverse<;>rfl
    ·rw[if_neg e,if_neg (by simpa using e)]
     cases hq:(rs.take i).reverse<;>rfl
   rw[e1,e2];exact hd2
  ·exact hR h3 tk3 hd3 λb o hb hbD e=>hk3 b o hb hbD ((hs2.2 b hbD).trans (hmk b o hb e))
end
section
variable {prog:Program} {w:World} {A:Around} {E:Value->Shared->Prop} {s:Shared} {K:Type} [DecidableEq K] {knd:KeyKind prog w K}
theorem qwz {id:String} {D p:Addr} {its:List Value} {rs:List K} {led:Bool} {Q:Unit->Shared->Prop} (hl:PlainL s.heap p its.toArray) (hpD:p≠D) (hA:A.handled=none) (hn:its.length<=1000) (hlen:rs.length=its.length)
  (hP:∀ (i:Nat) v,its[i]?=some v->∃ k,knd.is k v=true/\v.scannable=true/\plainKind v=false/\rs[i]?=some k) (hD:qo2 knd s.heap D (λ_=>false) 0 led)
  (h:∀ h' tk,qo2 knd h' D (λq=>decide (q∈rs.reverse)) (qdb rs.reverse) led->(∀ b o,b≠D->s.heap.get? b=some o->h'.get? b=some o)->Q () { s with heap:=h',toks:=tk }) :
  wpAny (model prog w) A (Builtin.Frozenset.updateFrom id D (.ref p)) Q E s:=by
 obtain ⟨ol,nl,e1,e2,e3,e4⟩:=hl;have hpl:p<s.heap.objs.size:=Heap.lt_size e1;have hT:s.TypeIs (.ref p) "list" :=⟨ol,e1,e2⟩;have hDl:D<s.heap.objs.size:=by obtain ⟨o,_,_,_,ho,_⟩:=hD;exact Heap.lt_size ho
 unfold Builtin.Frozenset.updateFrom;refine wpAny_bind (qri hT ?_);rw[if_neg (by decide)];refine wpAny_bind (wpAny_typeOf hT ?_);rw[if_neg (by decide)];refine wpAny_bind (wpAny_pyIter_list (PlainL.isList ⟨ol,nl,e1,e2,e3,e4⟩) ?_);have W:=Walks.list (prog:=prog) (w:=w) (A:=A.in1) hA s.heap.objs.size p (Nat.ne_of_lt hpl) its.toArray;have keep:∀ b o,s.heap.get? b=some o->(s.heap.push { cls:=Value.type "list_iterator",data:=Data.fields #[Value.ref p,Value.int 0 0] }).get? b=some o:=λb o q=>Heap.get?_push_of_some _ q
 refine wpAny_bind (wpAny_runValue (qwy (A:=A) (knd:=knd) (led:=led) W D ?_ rs (by simpa using hn) (λi v q=>?_) (by simpa using hlen) _ 0 _ 0 rfl (Nat.zero_le _) ⟨⟨_,Heap.get?_push_size _ rfl,rfl,rfl⟩,?_⟩ ?_ rfl λh' tk hd' hk=>wpAny_pure ?_))
 ·intro hm
  simp only[List.mem_cons,List.not_mem_nil,or_false] at hm
  rcases hm with e|e
  ·exact absurd e (Nat.ne_of_lt hDl)
  ·exact absurd e.symm hpD
 ·exact hP i v (by simpa using q)
 ·exact PlainL.isList ⟨ol,nl,keep _ _ e1,e2,e3,e4⟩
 ·obtain ⟨o,es,ep,t,ho,r⟩:=hD
  exact ⟨o,es,ep,t,keep _ _ ho,r⟩
 ·refine h h' tk hd' λb o hb q=>?_
  have lt:=Heap.lt_size q;exact hk b o (λhm=>absurd (List.mem_singleton.mp hm) (Nat.ne_of_lt lt)) hb (keep b o q)
theorem qw0 {p:Addr} {its:List Value} {rs:List K} {Q:Value->Shared->Prop} (hl:PlainL s.heap p its.toArray) (hA:A.handled=none) (hn:its.length<=1000) (hlen:rs.length=its.length)
  (hP:∀ (i:Nat) v,its[i]?=some v->∃ k,knd.is k v=true/\v.scannable=true/\plainKind v=false/\rs[i]?=some k)
  (h:∀ h' tk,qo2 knd h' s.heap.objs.size (λq=>decide (q∈rs.reverse)) (qdb rs.reverse) (!w.params.followText "set-order")->(∀ b o,s.heap.get? b=some o->h'.get? b=some o)->Q (.ref s.heap.objs.size) { s with heap:=h',toks:=tk }) :
  wpAny (model prog w) A (call (.type "set") [.ref p]) Q E s:=by
 obtain ⟨c,tl,hmro⟩:=F.called_set.mro;have hmade:=F.called_set.made;have hsub:=F.called_set.sub;refine wpAny_call (codeAny_of_tree ?_)
 show wpAny _ _ (callAny (.type "set") _) _ _ _
 refine wpAny_pure ⟨Code.quiet_builtin _ (by decide +kernel),codeAny_builtin F.entry_type_call ?_⟩;rw[Around.under_plain (weight_type_call_type "set" [.ref p] []) rfl];have h1:=F.called_set.notType;have h2:=F.called_set.canCreate;have hct:=qmf (.ref p)
 repeat (any_goals (first|assumption|wp_step))
 refine codeAny_mono (qzj (E:=E) (.ref p) (Q₁:=λobj s₁=>∃ led:Bool,led=(!w.params.followText "set-order")/\obj=.ref s.heap.objs.size/\s₁={ s with heap:=s.heap.push { cls:=.type "set",dict:=none,data:=.set #[] 0 (.fresh 0 0 led) } }) ⟨_,rfl,rfl,rfl⟩) λr s₁ hr=>?_
 cases r with
 | error e=>exact hr
 | ok fl =>
  cases fl with
  | ret obj =>
   obtain ⟨led,eled,rfl,rfl⟩:=hr;have hS:(s.heap.push { cls:=.type "set",dict:=none,data:=.set #[] 0 (.fresh 0 0 led) }).get? s.heap.objs.size=some { cls:=.type "set",dict:=none,data:=.set #[] 0 (.fresh 0 0 led) }:=Heap.get?_push_size _ rfl;have hT:Shared.TypeIs { s with heap:=s.heap.push { cls:=.type "set",dict:=none,data:=.set #[] 0 (.fresh 0 0 led) } } (.ref s.heap.objs.size) "set" :=⟨_,hS,rfl⟩;have hli:=F.called_set.init.lookup;have hbi:=F.called_set.init.bind (.ref s.heap.objs.size)
   repeat (any_goals (first|assumption|wp_step))
   refine codeAny_mono (codeAny_call_builtin (R:=wants (λr s₂=>r=.none/\Q (.ref s.heap.objs.size) s₂) E) F.called_set.init.plain F.entry_set_init (qtq hT ?_)) λr₂ s₂ hr₂=>?_
   ·unfold Builtin.«set.__init__» noKeywords
    have hl':PlainL (s.heap.push { cls:=.type "set",dict:=none,data:=.set #[] 0 (.fresh 0 0 led) }) p its.toArray:=by
     obtain ⟨ol,nl,e1,e2,e3,e4⟩:=hl;exact ⟨ol,nl,Heap.get?_push_of_some _ e1,e2,e3,e4⟩
    have hpD:p≠s.heap.objs.size:=by
     obtain ⟨ol,nl,e1,e2,e3,e4⟩:=hl;exact Nat.ne_of_lt (Heap.lt_size e1)
    have hnew:qo2 knd (s.heap.push { cls:=.type "set",dict:=none,data:=.set #[] 0 (.fresh 0 0 led) }) s.heap.objs.size (λ_=>false) 0 (!w.params.followText "set-order"):=by
     obtain ⟨o,es,ep,t,ho,h3,h4,h5,h6,h7,h8,h9⟩:=(setObjOf_fresh (knd:=knd) led).setOf hS (by decide);rw[hS] at ho;cases ho;cases h4;exact ⟨_,_,_,_,hS,h3,rfl,h5,h6,h7,h8,h9,eled,.inr rfl⟩
    repeat (any_goals (first|(refine qwz hl' hpD hA hn hlen hP hnew (λh' tk hd hk=>?_))|assumption|wp_step))
    exact ⟨rfl,h h' tk hd λb o q=>hk b o (Nat.ne_of_lt (Heap.lt_size q)) (Heap.get?_push_of_some _ q)⟩
   ·cases r₂ with
    | error e=>exact hr₂
    | ok fl₂ =>
     cases fl₂ with
     | ret r =>
      obtain ⟨rfl,hq⟩:=hr₂
      repeat (any_goals (first|assumption|wp_step))
     | _=>exact hr₂.elim
  | _=>exact hr.elim
end
open PySem PySem.Spec PyProof.Rows
section
variable {prog:Program} {w:World} {A:Around} {E:Value->Shared->Prop} {s:Shared}
end
open PySem PySem.Spec PyProof.Rows
section
variable {prog:Program} {w:World} {A:Around} {E:Value->Shared->Prop} {s:Shared} {I r T:Addr} {o:Obj} {es:Array (Int×Value)} {ep:Nat} {t:SetTable} {pl:List Nat} {md i:Nat} {first v:Value}
end
open PySem PySem.Spec PyProof.Rows
section
variable {prog:Program} {w:World} {A:Around} {E:Value->Shared->Prop} {s:Shared} {I r T:Addr} {o:Obj} {es:Array (Int×Value)} {ep:Nat} {t:SetTable} {pl:List Nat} {md i:Nat} {first v:Value}
end
open PySem PySem.Spec PyProof.Rows
def qBw (P:Program) (w:World) (a:Addr) (ss:List Str):HO:=.ext λh=>qo2 (PySem.strKind P w) h a (λq=>decide (q∈ss.reverse)) (qdb ss.reverse) (!w.params.followText "set-order")
theorem qro {X:Cx} (hc:X.calm=true):CallR X (.type "set") (λxs H Q=>∃ (p:Addr) (ss:List Str),xs=[.ref p]/\SqL X.K H p (ss.map V.str)/\ss.length<=1000/\∀ a H',New H H' a (qBw X.prog X.w a ss)->Q (.ref a) H'):=by
 intro pins s σ H xs us Q I r h;obtain ⟨p,ss,rfl,hq,hz,q⟩:=h;obtain ⟨u,rfl,ru⟩:=vals1 r
 cases (show u=Value.ref p from ru)
 obtain ⟨its,rv,pl,_⟩:=I.list hq;obtain ⟨hl,hP⟩:=qrj rv;refine qw0 (knd:=PySem.strKind X.prog X.w) pl (I.ok.hd hc) (by omega) hl (λi v e=>?_) λh' tk hd hk'=>?_
 ·obtain ⟨k,t,rfl,e'⟩:=hP i v e
  exact ⟨k,by simp[PySem.strKind,Value.isStrOf],rfl,rfl,e'⟩
 ·refine ⟨.ref s.heap.objs.size,_,I.laid (a:=s.heap.objs.size) (o:=qBw X.prog X.w s.heap.objs.size ss) (h':=h') (t':=tk) hk' (Nat.le_refl _) ?_,rfl,q _ _ (qax (I.hok.fresh (Nat.le_refl _)))⟩
  refine ⟨hd,let ⟨o,_,_,_,ho,_⟩:=hd;⟨o,ho⟩,λh1 h2 x y=>?_⟩;obtain ⟨o,es,ep,t,ho,r⟩:=x;exact ⟨o,es,ep,t,y _ ho,r⟩
section
variable {α:Type} [DecidableEq α]
end
open PySem PySem.Spec PyProof.Rows
section
variable {X:Cx}
end
open PySem PySem.Spec PyProof.Rows
theorem qrp {X:Cx}:CallR X (.builtin "len") (λxs H Q=>∃ (a:Addr) (ss:List Str),xs=[.ref a]/\H a=some (qBw X.prog X.w a ss)/\ss.length<=1000/\Q (.int (qdb ss.reverse:Nat)) H):=by
 intro pins s σ H xs us Q I r h;obtain ⟨a,ss,rfl,ha,hz,q⟩:=h;obtain ⟨u,rfl,ru⟩:=vals1 r
 cases (show u=Value.ref a from ru)
 obtain ⟨⟨o,es,ep,t,ho,hex,hdt,_,_,_,hf,hn,_⟩,_⟩:=I.hok a _ ha;have:=qf3 ss.reverse;rw[List.length_reverse] at this;refine call_len_set ho hex hdt hf (by omega) ?_;exact ⟨.int (qdb ss.reverse:Nat),H,I.tok (s.toks+1+1),⟨_,by rw[hn]⟩,q⟩
open PySem PySem.Spec PyProof.Rows
theorem qi9:entryFor table "proto.unchain" = some Builtin.«proto.unchain» :=entryFor_of_tree (by kernel_rfl)
inductive Chx (h:Heap) (ex:Addr):Value->Prop
 | nil:Chx h ex .none
 | cons {a:Addr} {o:Obj} {ws:Array Value} {c:Value}:a≠ex->h.get? a=some o->o.data=.fields ws->ws[2]?=some c->Chx h ex c->Chx h ex (.ref a)
inductive Rch (h:Heap):Value->Value->Prop
 | refl {x:Value}:Rch h x x
 | step {a:Addr} {o:Obj} {ws:Array Value} {c y:Value}:h.get? a=some o->o.data=.fields ws->ws[2]?=some c->Rch h c y->Rch h (.ref a) y
def qBx (h:Heap) (x y:Value):Prop:=∃ a o ws c,x=.ref a/\h.get? a=some o/\o.data=.fields ws/\ws[2]?=some c/\Rch h c y
theorem Rch.snoc {h:Heap} {x:Value} {a:Addr} {o:Obj} {ws:Array Value} {c:Value} (r:Rch h x (.ref a)) (h1:h.get? a=some o) (h2:o.data=.fields ws) (h3:ws[2]?=some c):Rch h x c:=by
 generalize hy:Value.ref a=y at r
 induction r with
 | refl=>subst hy;exact .step h1 h2 h3 .refl
 | step g1 g2 g3 _ ih=>exact .step g1 g2 g3 (ih hy)
theorem Rch.strict {h:Heap} {x:Value} {a:Addr} {o:Obj} {ws:Array Value} {c:Value} (r:Rch h x (.ref a)) (h1:h.get? a=some o) (h2:o.data=.fields ws) (h3:ws[2]?=some c):qBx h x c:=by
 cases r with
 | refl=>exact ⟨a,o,ws,c,rfl,h1,h2,h3,.refl⟩
 | step g1 g2 g3 r=>exact ⟨_,_,_,_,rfl,g1,g2,g3,r.snoc h1 h2 h3⟩
theorem qo3 {prog:Program} {w:World} {A:Around} {R:Result->Shared->Prop} {s:Shared} {ex:Addr} (hR:R (.ok (.ret .none)) s):∀ {o:Value},Chx s.heap ex o->o≠.none->∀ (slow:Value) (tg:Bool),(if tg=true then qBx s.heap slow o else Rch s.heap slow o) ->
  codeAny (model prog w) A (.builtin "proto.unchain" ⟨[.ref ex,o,slow,.bool tg],[]⟩) R s:=by
 intro o ch
 induction ch with
 | nil=>intro h;exact absurd rfl h
 | @cons a ob ws c ha h1 h2 h3 ch ih =>
  intro _ slow tg hs;refine codeAny_builtin qi9 ?_
  show wpAny _ _ (field (.ref a) 2 >>= _) _ _ s
  refine wpAny_bind (wpAny_field h1 h2 h3 ?_)
  cases ch with
  | nil=>exact wpAny_pure hR
  | @cons a2 ob2 ws2 c2 hb g1 g2 g3 ch2 =>
   have e1:(Value.ref a2 == Value.none)=false:=by simp
   have e2:(Value.ref a2 == Value.ref ex)=false:=by simpa using hb
   simp only[e1,e2]
   by_cases z:(Value.ref a2 == slow)=true
   ·simp only[z]
    exact wpAny_bind (wpAny_rule (wpAny_pure hR))
   ·have z':(Value.ref a2 == slow)=false:=by simpa using z
    simp only[z']
    cases tg with
    | false =>
     have hs:Rch s.heap slow (.ref a):=hs;have st:=hs.strict h1 h2 h3;refine wpAny_bind (wpAny_pure (wpAny_pure ⟨plainId_quiet (by decide +kernel) _,?_⟩));exact ih (by simp) slow true st
    | true =>
     have hs:qBx s.heap slow (.ref a):=hs;obtain ⟨b,ob',wb,cb,rfl,k1,k2,k3,r⟩:=hs;refine wpAny_bind (wpAny_field k1 k2 k3 (wpAny_pure ⟨plainId_quiet (by decide +kernel) _,?_⟩));exact ih (by simp) cb false (r.snoc h1 h2 h3)
theorem qja {α:Type} {prog:Program} {w:World} {A:Around} {E:Value->Shared->Prop} {s:Shared} {ex e0:Addr} {oe:Obj} {vs:Array Value} {Q:α->Shared->Prop} (hh:A.handled=some (.ref e0)) (ne:e0≠ex) (ch:Chx s.heap ex (.ref e0)) (he:s.heap.get? ex=some oe) (hd:oe.data=.fields vs) (hz:2<vs.size)
  (hE:E (.ref ex) { s with heap:=s.heap.update ex (Obj.mapFields (·.setIfInBounds 2 (.ref e0))) }):wpAny (model prog w) A (raiseNew (.ref ex):Sem α) Q E s:=by
 unfold raiseNew;refine wpAny_bind (wpAny_handled ?_);rw[hh];have e1:(Value.ref e0 != Value.ref ex)=true:=by simpa using ne
 dsimp only;rw[if_pos e1];refine wpAny_bind (wpAny_holding (wpAny_runValue (qo3 ?_ ch (by simp) (.ref e0) false .refl)));refine wpAny_bind (wpAny_setField (s:=s) he hd (by omega) (wpAny_throw hE))
open PySem PySem.Spec PyProof.Rows
end L2
namespace L2
open PySem PySem.Spec PyProof.Rows
theorem qkg {prog:Program} {w:World} {A:Around} {E:Value->Shared->Prop} {s:Shared} {it l e0:Addr} {i:Nat} {items} {Q:Option Value->Shared->Prop} {oe:Obj} {vs:Array Value} (hh:A.handled=some (.ref e0)) (h0:s.heap.get? e0=some oe) (hv:oe.data=.fields vs) (h2:vs[2]?=some .none) (n0:e0≠it)
  (hit:s.heap.IsListIter it l i) (hl:s.heap.IsList l items) (hx:items[i]?=none)
  (hQ:∀ h',Heap.ExtBut it s.heap h'->Q none { s with heap:=h' }):wpAny (model prog w) A (pyNext (.ref it)) Q E s:=by
 obtain ⟨o,ho,hc,hd⟩:=id hit;obtain ⟨ol,hol,_,nl,hdl⟩:=hl;unfold pyNext;refine wpAny_bind (wpAny_attempt (wpAny_callSpecial?_slot (name:=Str.ofString "__next__") hit.typeIs slot_listiter_next
  (wpAny_call_entry slot_listiter_next hit.typeIs entry_listiter_next ?_ (args_listiter_next _))))
 show wpAny _ _ (field (.ref it) 0 >>= _) _ _ s
 refine wpAny_bind (wpAny_field ho hd (x:=.ref l) rfl ?_)
 show wpAny _ _ (if (Value.ref l == Value.none)=true then _ else _) _ _ s
 rw[if_neg (show ¬ ((Value.ref l == Value.none)=true) from Bool.false_ne_true)]
 show wpAny _ _ (field (.ref it) 1 >>= _) _ _ s
 refine wpAny_bind (wpAny_field ho hd (x:=.int i 0) rfl ?_)
 show wpAny _ _ (seqItems? (.ref l) >>= _) _ _ s
 refine wpAny_bind (wpAny_seqItems hol hdl ?_);simp only[Int.toNat_natCast,hx];refine wpAny_bind (wpAny_rule (wpAny_bind (wpAny_setField ho hd (by simp) ?_)))
 show wpAny _ _ (newExc (.type "StopIteration") [] >>= _) _ _ _
 refine wpAny_bind ?_;simp only[newExc,newTuple];refine wpAny_bind (wpAny_newObj_type ?_ (by size_fits));refine wpAny_bind (m:=firstArgMember _ _) (wpAny_of_eq (a:=Value.none) (by first|rfl|(simp only[firstArgMember];rfl)) ?_);refine wpAny_newObj_type ?_ (by size_fits)
 generalize hg1:s.heap.update it (Obj.mapFields (·.setIfInBounds 0 .none))=g1
 have xb:Heap.ExtBut it s.heap g1:=by rw[<- hg1];exact (Heap.SameBut.update ..).extBut
 dsimp only
 generalize hT:g1.push { cls:=.type "tuple",data:=.seq #[] }=g2
 have x1:∀ b ob,b≠it->s.heap.get? b=some ob->g2.get? b=some ob:=λb ob n e=>by rw[<- hT];exact Heap.get?_push_of_some _ (xb b ob n e)
 have n1:e0≠g2.objs.size:=Nat.ne_of_lt (Heap.lt_size (x1 _ _ n0 h0));refine qja (A:=A.in1) hh n1 (.cons n1 (Heap.get?_push_of_some _ (x1 _ _ n0 h0)) hv h2 .nil) (Heap.get?_push_size _ rfl) rfl (by simp;omega) ?_;refine wpAny_bind (wpAny_isInstance (T:= "StopIteration") (b:=true) ⟨_,Heap.get?_update_self _ (Heap.get?_push_size _ rfl) rfl,rfl⟩ isSubtype_stop ?_);exact wpAny_pure (hQ _ λb ob n e=>(Heap.get?_update_other _ _ (Nat.ne_of_gt (Heap.lt_size (x1 b ob n e)))).trans (Heap.get?_push_of_some _ (x1 b ob n e)))
section
variable {X:Cx}
structure qtt (e0:Addr) (P:Program) (w:World) (K:Frag) (tg:Expr) (J:It) (fp:List Addr) (it:Addr) (tn:Nat->Heap->Prop):Prop where
 obj:∀ i h,tn i h->∀ b∈fp,∃ o,h.get? b=some o/\∀ v,o.data≠.cell v
 keep:∀ i h h',tn i h->(∀ b∈fp,∀ o,h.get? b=some o->h'.get? b=some o)->tn i h'
 item:∀ (X:Cx),X.prog=P->X.w=w->X.K=K->∀ (i:Nat) (pins:List (Addr×Obj)) (s:Shared) (σ:St) (H:Hp) (E:Value->Shared->Prop),Inv X pins σ H s->(∀ b∈fp,qhu X pins H b)->tn i s.heap->J.go i H ->
  wpAny (model P w) X.A (pyNext (.ref it)) (λr s1=>∃ u,r=some u /\
   wpAny (model P w) X.A (letOwnedTupleGo tg (.ref it) u) (λ_ s2=>∃ x H',Inv X pins σ H' s2/\RelV x u/\J.yld i H x H'/\tn (i+1) s2.heap/\∀ b∈fp,H' b=none) E s1) E s
 done:∀ (X:Cx),X.prog=P->X.w=w->X.K=K->X.A.handled=some (.ref e0)->∀ (i:Nat) (pins:List (Addr×Obj)) (s:Shared) (σ:St) (H:Hp) (E:Value->Shared->Prop),Inv X pins σ H s->(∀ b∈fp,qhu X pins H b)->tn i s.heap->J.stop i H->(∃ cls,H e0=some (qnf e0 cls none)) ->
  wpAny (model P w) X.A (pyNext (.ref it)) (λr s1=>r=none/\Inv X pins σ H s1) E s
 self:∀ (A:Around) (i:Nat) (s:Shared) (Q:Value->Shared->Prop) (E:Value->Shared->Prop),tn i s.heap->Q (.ref it) s->wpAny (model P w) A (pyIter (.ref it)) Q E s
theorem qo4 {e0:Addr} {P:Program} {w:World} {K:Frag} {tg:Expr} (a it:Addr):qtt e0 P w K tg (Itl K a) [it] it (λi h=>h.IsListIter it a i) where
 obj:=λi h st b hb=>by
  have e:b=it:=by simpa using hb
  subst e;obtain ⟨o,e,c,d⟩:=st;exact ⟨o,e,λv z=>by rw[d] at z;cases z⟩
 keep:=λi h h' st k=>st.at λo e=>k it (by simp) o e
 item:=by
  intro X hP hw hK i pins s σ H E I hf st hg;subst hP hw hK;obtain ⟨xs,x,hq,hx⟩:=hg;obtain ⟨its,rv,p,hz⟩:=I.list hq;obtain ⟨u,hu,ru⟩:=rv.get hx;obtain ⟨f0,f1,f2,f3,f4,f5⟩:=hf it (by simp);refine wpAny_pyNext_list_item st p.isList (x:=u) (by simpa using hu) λh' st' sb=>?_
  have I1:Inv X pins σ H { s with heap:=h' }:=I.turned (t':=s.toks) (λb o hb e=>(sb.2 b hb).trans e) f0 f1 f3 f4 f5;obtain ⟨o,e,c,d⟩:=id st';exact ⟨u,rfl,qpy (s:={ s with heap:=h' }) e c d (by decide) ⟨x,H,I1,ru,⟨rfl,λys hy=>by rw[I.list_inj hy hq];exact hx⟩,st',λb hb=>(hf b hb).1⟩⟩
 done:=by
  intro X hP hw hK hh i pins s σ H E I hf st hg hxc;subst hP hw hK;obtain ⟨xs,hq,hx⟩:=hg;obtain ⟨cls,he⟩:=hxc;obtain ⟨its,rv,p,hz⟩:=I.list hq;obtain ⟨f0,f1,f2,f3,f4,f5⟩:=hf it (by simp);have hl:=rv.length;obtain ⟨⟨oe,vs,h1,_,_,hd,cn⟩,_⟩:=(show ObjOk X.prog X.w H s.heap e0 (qnf e0 cls none) from I.hok e0 _ he);have c2:vs[2]?=some .none:=cn.resolve_right λz=>z rfl
  exact qkg hh h1 hd c2 (λz=>by rw[z,f0] at he;cases he) st p.isList (by simp;omega) λh' eb=>⟨rfl,I.turned (t':=s.toks) (λb o hb e=>eb b o hb e) f0 f1 f3 f4 f5⟩
 self:=λ_ _ _ _ _ st h=>wpAny_pyIter_listiter st h
def qDl (e0:Addr) (X:Cx) (pins:List (Addr×Obj)) (σ:St) (tg:Expr) (R:It->Hp->Prop) (itv:Value) (s2:Shared):Prop:=
 ∃ (it:Addr) (fp:List Addr) (tn:Nat->Heap->Prop) (J:It) (H':Hp),itv=.ref it/\Inv X pins σ H' s2/\qtt e0 X.prog X.w X.K tg J fp it tn/\tn 0 s2.heap/\(∀ b∈fp,qhu X pins H' b)/\R J H'
def PIH (e0:Addr) (X:Cx) (tg iter:Expr) (wi:TI):Prop:=
 ∀ (pins:List (Addr×Obj)) (s:Shared) (σ:St) (H:Hp) (R:It->Hp->Prop),Inv X pins σ H s->wi σ H R ->
  wpAny (model X.prog X.w) X.A (eval iter X.env) (λv s1=>wpAny (model X.prog X.w) X.A (pyIter v) (qDl e0 X pins σ tg R) X.xe s1) X.xe s
theorem qtu {e0:Addr} {tg l:Expr} {tl:TE} (hl:PE X l tl):PIH e0 X tg l (qsy X.K tl):=by
 intro pins s σ H R I h;refine thn (hl pins s σ H _ I h) λv s1 hq__=>?_
 obtain ⟨x,H1,I1,r1,q1⟩:=hq__;obtain ⟨a,e,⟨xs,hq⟩,q⟩:=q1;subst e;cases r1;obtain ⟨its,rv,p,hz⟩:=I1.list hq;refine wpAny_pyIter_list p.isList ?_;refine ⟨s1.heap.objs.size,[s1.heap.objs.size],_,_,H1,rfl,I1.kept (t':=s1.toks) λb o e=>Heap.get?_push_of_some _ e,qo4 a _,⟨_,Heap.get?_push_size _ rfl,rfl,rfl⟩,λb hb=>?_,q⟩;have e:b=s1.heap.objs.size:=by simpa using hb
 subst e;exact I1.fpOk (Nat.le_refl _) (I1.hok.fresh (Nat.le_refl _))
end
def qrq (e0:Addr) (J:It) (Q:VK) (g:TG) (tc:TT) (te:TE) (σc:St) (H1:Hp):Prop:=∃ W:Nat->Nat->List V->Hp->Prop,(∃ m,W 0 m [] H1)/\∀ i m ys H2,W i m ys H2 ->
 (J.stop i H2/\(∃ cls,H2 e0=some (qnf e0 cls none))/\ys.length<=sizeLine/\∀ p,H2 p=none->Q (.ref p) (upd H2 p (.lst ys))) \/
 (J.go i H2/\ys.length<sizeLine/\∃ N:List V->Hp->Prop,(∀ zs H',N zs H'->∃ m',m'<m/\W (i+1) m' zs H')/\∀ x H3,J.yld i H2 x H3->g x σc H3 λσ4 H4=>tc σ4 H4 λb H5=>if b=true then te σ4 H5 λv H6=>N (ys ++ [v]) H6 else N ys H5)
def qDm (e0:Addr) (nv:Nat) (fv:List Nat) (wi:TI) (g:TG) (tc:TT) (te:TE):TE:=λσ H Q=>wi σ H λJ H1=>qrq e0 J Q g tc te (lcσ nv fv σ) H1
theorem qf4 {e0:Addr} {K:Frag} {a:Addr} {xs:List V} {g:TG} {tc:TT} {te:TE} {Q:VK} {σ:St} {H:Hp} (Pv:Nat->List V->Hp->Prop) (hz:xs.length<=sizeLine) (h0:Pv 0 [] H) (hl:∀ i ys H,Pv i ys H->SqL K H a xs/\ys.length<=i) (hxc:∀ ys H,Pv xs.length ys H->∃ cls,H e0=some (qnf e0 cls none))
  (hs:∀ i x ys H,xs[i]?=some x->Pv i ys H->g x σ H λσ4 H4=>tc σ4 H4 λb H5=>if b=true then te σ4 H5 λv H6=>Pv (i+1) (ys ++ [v]) H6 else Pv (i+1) ys H5)
  (hd:∀ ys H p,Pv xs.length ys H->H p=none->Q (.ref p) (upd H p (.lst ys))) :
  qrq e0 (Itl K a) Q g tc te σ H:=by
 refine ⟨λi m ys H=>m=xs.length-i/\i<=xs.length/\Pv i ys H,⟨xs.length,by simp,Nat.zero_le _,h0⟩,?_⟩;rintro i m ys H2 ⟨rfl,hi,p⟩;obtain ⟨q,hy⟩:=hl i ys H2 p
 by_cases hlt:i<xs.length
 ·refine .inr ⟨⟨xs,xs[i],q,by simp[hlt]⟩,by omega,Pv (i+1),λzs H' p'=>⟨xs.length-(i+1),by omega,rfl,hlt,p'⟩,λx H3 y=>?_⟩
  obtain ⟨e,y⟩:=y;subst e;exact hs i x ys _ (y xs q) p
 ·have e:i=xs.length:=by omega
  subst e;exact .inl ⟨⟨xs,q,Nat.le_refl _⟩,hxc ys H2 p,by omega,λp' hp'=>hd ys H2 p' p hp'⟩
theorem qtv {e0:Addr} {Y:Cx} {D it:Addr} {J:It} {fp:List Addr} {tn:Nat->Heap->Prop} {g:TG} {tc:TT} {te:TE} {Q:VK} {W:Nat->Nat->List V->Hp->Prop} {nv n0 m0:Nat} {σc:St} {H:Hp} {s:Shared}
  {elt target iter:Expr} {ifs:List Expr} {scope:Scope} {pos:Pos} {R:Result->Shared->Prop} (hx:Y.xe=λ_ _=>False)
  (hh:Y.A.handled=some (.ref e0)) (hg:PG Y target g) (hk:qgi nv g) (hi:qtg Y ifs tc) (he:PE Y elt te) (T:qtt e0 Y.prog Y.w Y.K target J fp it tn)
  (hnv:∀ i,i<nv->∀ v,σc[i]?≠some (some v))
  (d1:D≠Y.env.locals) (d2:D∈Y.ex) (d3:D ∉ Y.fs) (d4:∀ x c,Y.env.cells.lookup x=some c->c≠D) (d5:D ∉ fp) (d6:Y.pn=[])
  (hf:∀ b∈fp,b≠Y.env.locals/\b ∉ Y.fs/\(b∈Y.ex\/Y.s₀.heap.objs.size<=b)/\(∀ x c,Y.env.cells.lookup x=some c->c≠b))
  (I0:Inv Y [(D,lobj [] n0)] σc H s) (st:tn 0 s.heap) (fr:∀ b∈fp,H b=none) (w0:W 0 m0 [] H)
  (turn:∀ i m ys H2,W i m ys H2->(J.stop i H2/\(∃ cls,H2 e0=some (qnf e0 cls none))/\ys.length<=sizeLine/\∀ p,H2 p=none->Q (.ref p) (upd H2 p (.lst ys))) \/
   (J.go i H2/\ys.length<sizeLine/\∃ N:List V->Hp->Prop,(∀ zs H',N zs H'->∃ m',m'<m/\W (i+1) m' zs H')/\∀ x H3,J.yld i H2 x H3->g x σc H3 λσ4 H4=>tc σ4 H4 λb H5=>if b=true then te σ4 H5 λv H6=>N (ys ++ [v]) H6 else N ys H5))
  (hend:∀ ys us n H' s',Inv Y [(D,lobj us n)] σc H' s'->Vals ys us->ys.length<=sizeLine->(∀ p,H' p=none->Q (.ref p) (upd H' p (.lst ys)))->R (.ok .next) s') :
  codeAny (model Y.prog Y.w) Y.A (.compLoop (.ListComp elt [⟨target,iter,ifs,0⟩] scope pos) 0 (.ref it) (.ref D) Y.env) R s:=by
 have fpok:∀ {H':Hp} {o:Obj},(∀ b∈fp,H' b=none)->∀ b∈fp,qhu Y [(D,o)] H' b:=fun {H' o} hn b hb=>by
  obtain ⟨f1,f2,f3,f4⟩:=hf b hb;refine ⟨hn b hb,f1,f2,f3,f4,λp hp=>?_⟩;rw[d6] at hp;have e:p=(D,o):=by simpa using hp
  rw[e];exact λz=>d5 (by rw[show D=b from z];exact hb)
 refine qhz (λn s'=>∃ i ys us k H',Inv Y [(D,lobj us k)] σc H' s'/\Vals ys us/\tn i s'.heap/\(∀ b∈fp,H' b=none)/\W i n ys H') ?_ m0 ⟨0,[],[],n0,H,I0,.nil,st,fr,w0⟩;rintro n s3 ⟨i,ys,us,k,H3,I3,rv,st3,fr3,w3⟩;have ex0:∀ {E':Value->Shared->Prop} {e:Value} {s':Shared},Y.xe e s'->E' e s':=fun {E' e s'} z=>by rw[hx] at z;exact z.elim
 rcases turn i n ys H3 w3 with ⟨stop,hxc,hz,q⟩|⟨go,hz,N,hN,step⟩
 ·refine thn (T.done Y rfl rfl rfl hh i _ s3 σc H3 _ I3 (fpok fr3) st3 stop hxc) λr s4 hq__=>?_
  obtain ⟨hr,I4⟩:=hq__;subst hr;exact hend ys us k H3 s4 I4 rv hz q
 ·refine thn (T.item Y rfl rfl rfl i _ s3 σc H3 _ I3 (fpok fr3) st3 go) λr s4 hq__=>?_
  obtain ⟨u,hr,h4⟩:=hq__;subst hr;refine thn h4 λ_ s5 hq__=>?_
  obtain ⟨x,H5,I5,r5,y5,st5,fr5⟩:=hq__;have I5':=I5.pinned (fpok fr5) (T.obj _ _ st5);refine wpAny_mono (hg _ s5 σc H5 x u _ I5' r5 (hk x σc H5 _ (step x H5 y5))) (λ_ s6 hq__=>?_) λ_ _ z=>ex0 z
  obtain ⟨σ6,H6,I6,q6,l6,e6⟩:=hq__;have wk:∀ (i:Nat) v,σc[i]?=some (some v)->σ6[i]?=some (some v):=λi v e=>by
   by_cases h:nv<=i
   ·rw[e6 i h];exact e
   ·exact absurd e (hnv i (by omega) v)
  have back:∀ {o:Obj} {H':Hp} {s':Shared},Inv Y ([(D,o)] ++ qhv fp s5.heap) σ6 H' s'->Inv Y [(D,o)] σc H' s'/\tn (i+1) s'.heap/\∀ b∈fp,H' b=none:=fun {o H' s'} I'=>by
   refine ⟨(I'.unpinned).weak (by rw[<- l6]) wk,T.keep _ _ _ st5 λb hb o e=>(I'.pin (b,o) (List.mem_append_right _ (List.mem_append_right _ (qcb hb e)))).1,λb hb=>?_⟩;obtain ⟨o,e,_⟩:=T.obj _ _ st5 b hb;exact (I'.pin (b,o) (List.mem_append_right _ (List.mem_append_right _ (qcb hb e)))).2.1
  refine wpAny_mono (hi _ s6 σ6 H6 _ I6 q6) (λb s7 hq__=>?_) λ_ _ z=>ex0 z
  obtain ⟨H7,I7,q7⟩:=hq__
  cases b with
  | false =>
   obtain ⟨m',hm,w7⟩:=hN ys H7 q7;obtain ⟨I8,st8,fr8⟩:=back I7;exact ⟨m',hm,i+1,ys,us,k,H7,I8,rv,st8,fr8,w7⟩
  | true =>
   refine wpAny_mono (he _ s7 σ6 H7 _ I7 q7) (λu2 s8 hq__=>?_) λ_ _ z=>ex0 z
   obtain ⟨v,H8,I8,r8,n8⟩:=hq__;obtain ⟨m',hm,w8⟩:=hN _ H8 n8;obtain ⟨I9,st9,fr9⟩:=back I8;obtain ⟨eD,nD,_,_,_⟩:=I9.pin (D,lobj us k) (by simp);have hlen:=rv.length;refine call_meets F.slot_list_append ⟨_,eD,rfl⟩ F.entry_list_append (F.args_list_append_2 _ _) (PySem.list_append D us.toArray k u2 (by rw[List.size_toArray];omega)) ⟨eD,?_⟩;have q:=PySem.IsL.update eD (λx_1=>x_1.push u2);have eq:us.toArray.push u2=(us ++ [u2]).toArray:=by simp
   rw[eq] at q;obtain ⟨n',q⟩:∃ n',(s8.heap.update D (Obj.mapSeq λx_1=>x_1.push u2)).get? D=some (lobj (us ++ [u2]) n'):=⟨_,q⟩;have I10:Inv Y [] σc H8 s8:=I9.pins_of λp hp=>by cases hp
   have I11:Inv Y [] σc H8 { s8 with heap:=s8.heap.update D (Obj.mapSeq λx_1=>x_1.push u2),toks:=s8.toks }:=
    I10.turned (it:=D) (λb o hb e=>(Heap.get?_update_other s8.heap (Obj.mapSeq _) (Ne.symm hb)).trans e) nD d1 (.inl d2) d4 (λp hp=>by rw[d6] at hp;cases hp)
   refine ⟨m',hm,i+1,ys ++ [v],us ++ [u2],n',H8,I11.pins_of (λp hp=>?_),rv.append (.cons r8 .nil),?_,fr9,w8⟩
   ·have e:p=(D,lobj (us ++ [u2]) n'):=by simpa using hp
    subst e;exact ⟨q,nD,d1,d3,λv z=>by have z':Data.seq _ _=Data.cell v:=z;cases z'⟩
   ·refine T.keep _ _ _ st9 λb hb o e=>?_
    exact (Heap.get?_update_other s8.heap (Obj.mapSeq _) (λz=>d5 (by rw[z];exact hb))).trans e
section
variable {X:Cx} {pins:List (Addr×Obj)} {σ:St} {H:Hp} {s:Shared} {scope:Scope} {cl:List (Str×Addr)} {vars frees:List Str} {fv:List Nat} {fp:List Addr}
theorem qtw {e0:Addr} {J:It} {fp:List Addr} {it:Addr} {tn:Nat->Heap->Prop} {g:TG} {tc:TT} {te:TE} {Q:VK} {W:Nat->Nat->List V->Hp->Prop} {m0:Nat} {E:Value->Shared->Prop} {E2:Value->Addr->Value->Shared->Prop}
  (hh:X.A.handled=some (.ref e0)) (L:qqp X scope cl) (fo:FvOk X scope cl frees fv) (hk:qgi vars.length g)
  (hg:∀ C s H ex,PG (blk X (vars ++ frees) scope cl C s H ex) target g) (hi:∀ C s H ex,qtg (blk X (vars ++ frees) scope cl C s H ex) ifs tc) (he:∀ C s H ex,PE (blk X (vars ++ frees) scope cl C s H ex) elt te)
  (I:Inv X pins σ H s) (T:qtt e0 X.prog X.w X.K target J fp it tn) (st:tn 0 s.heap) (hf:∀ b∈fp,qhu X pins H b) (w0:W 0 m0 [] H)
  (turn:∀ i m ys H2,W i m ys H2->(J.stop i H2/\(∃ cls,H2 e0=some (qnf e0 cls none))/\ys.length<=sizeLine/\∀ p,H2 p=none->Q (.ref p) (upd H2 p (.lst ys))) \/
   (J.go i H2/\ys.length<sizeLine/\∃ N:List V->Hp->Prop,(∀ zs H',N zs H'->∃ m',m'<m/\W (i+1) m' zs H')/\∀ x H3,J.yld i H2 x H3->g x (lcσ vars.length fv σ) H3 λσ4 H4=>tc σ4 H4 λb H5=>if b=true then te σ4 H5 λv H6=>N (ys ++ [v]) H6 else N ys H5)) :
  wpAny (model X.prog X.w) X.A (newList []) (λacc s₃=>wpAny (model X.prog X.w) X.A (newFunctionEnv scope X.env.globals cl [] X.env.qual none .none (some X.env)) (λcenv s₄ =>
   codeAny (model X.prog X.w) X.A (.compStart (.ListComp elt [⟨target,iter,ifs,0⟩] scope pos) 0 (.ref it) acc { cenv with scope:=relabel scope X.env })
    (λr s'=>match r with|.ok _=>∃ D,acc=.ref D/\qth X pins σ Q D cenv.locals s'|.error x=>E2 acc cenv.locals x s') s₄) E s₃) E s:=by
 have hoo:∀ b∈fp,∃ o,s.heap.get? b=some o:=λb hb=>let ⟨o,e,_⟩:=T.obj 0 _ st b hb;⟨o,e⟩
 refine wpAny_newObj_type (wpAny_newFunctionEnv L.nocell (by intro y hy;simp at hy) (λh₁ hns hsb=>?_) L.kind);dsimp only at hns hsb ⊢;have hC:(s.heap.push qaf).objs.size=s.heap.objs.size+1:=Heap.size_push ..;have keep1:∀ b o,b≠(s.heap.push qaf).objs.size->(s.heap.push qaf).get? b=some o->h₁.get? b=some o:=λb o hb e=>hsb.extBut b o hb (Heap.get?_push_of_some _ e)
 have I0:Inv (blk X (vars ++ frees) scope cl (s.heap.push qaf).objs.size { s with heap:=s.heap.push qaf } H (s.heap.objs.size :: fp)) [(s.heap.objs.size,qaf)] (lcσ vars.length fv σ) H { s with heap:=h₁,toks:=s.toks+([]:List (Str×Value)).length }:=
  qqq I L fo hf hoo (by simpa using hns) keep1
 have st1:tn 0 h₁:=T.keep 0 _ _ st λb hb o e=>keep1 b o (ltS e) (Heap.get?_push_of_some _ e)
 have loop:codeAny (model X.prog X.w) X.A (.compLoop (.ListComp elt [⟨target,iter,ifs,0⟩] scope pos) 0 (.ref it) (.ref s.heap.objs.size) (compEnvC scope cl (s.heap.push qaf).objs.size X.env))
   (λr s'=>match r with|.ok _=>∃ D,Value.ref s.heap.objs.size=.ref D/\qth X pins σ Q D (s.heap.push qaf).objs.size s'|.error x=>E2 (.ref s.heap.objs.size) (s.heap.push qaf).objs.size x s') { s with heap:=h₁,toks:=s.toks+([]:List (Str×Value)).length }:=by
  refine qtv (Y:=blk X (vars ++ frees) scope cl (s.heap.push qaf).objs.size { s with heap:=s.heap.push qaf } H (s.heap.objs.size :: fp)) (nv:=vars.length) (n0:=0) rfl hh (hg _ _ _ _) hk (hi _ _ _ _) (he _ _ _ _) T (λi hi v e=>?_)
   neS (by show s.heap.objs.size∈s.heap.objs.size :: fp;simp) ?_ (λx c e=>?_) (λz=>?_) rfl (λb hb=>?_) I0 st1 (λb hb=>(hf b hb).1) w0 turn ?_
  ·rw[show lcσ vars.length fv σ=List.replicate vars.length none ++ fv.map λj=>(σ[j]?).join from rfl,List.getElem?_append_left (by simpa using hi),List.getElem?_replicate_of_lt (by simpa using hi)] at e
   cases e
  ·exact (I0.pin (s.heap.objs.size,qaf) (by simp)).2.2.2.1
  ·obtain ⟨v,q⟩:=I.cell x c (L.sub x c e)
   exact Nat.ne_of_lt q.lt
  ·obtain ⟨o,e⟩:=hoo _ z
   exact absurd (Heap.lt_size e) (Nat.lt_irrefl _)
  ·exact ⟨(I0.ok.exf b (List.mem_cons_of_mem _ hb)).1,I0.ok.exfs b (List.mem_cons_of_mem _ hb),.inl (List.mem_cons_of_mem _ hb),(I0.ok.exf b (List.mem_cons_of_mem _ hb)).2⟩
  ·intro ys us n H' s' I' rv hz q
   obtain ⟨eD,nD,_,fD,_⟩:=I'.pin (s.heap.objs.size,lobj us n) (by simp);obtain ⟨mC,hnC,_⟩:=I'.loc;obtain ⟨oC,es,ep,eC,dC,r1,r2⟩:=id hnC;have nC:H' (s.heap.push qaf).objs.size=none:=I'.free;have neDC:(s.heap.push qaf).objs.size≠s.heap.objs.size:=neS.symm;have lt:∀ {b:Addr} {o:Obj},s.heap.get? b=some o->b≠s.heap.objs.size/\b≠(s.heap.push qaf).objs.size:=λe=>⟨neZ e,ltS e⟩
   have nex:∀ {b:Addr} {o:Obj},s.heap.get? b=some o->b ∉ fp->b ∉ s.heap.objs.size :: fp:=λe hb z=>by
    rcases List.mem_cons.mp z with z|z
    ·exact (lt e).1 z
    ·exact hb z
   have upn:∀ {b:Addr} {u:HO},H' b=some u->upd H' s.heap.objs.size (.lst ys) b=some u:=λe=>by rw[qao (qal e nD)];exact e
   have un:Un (frs X.stack) fp H (upd H' s.heap.objs.size (.lst ys)) s.heap s'.heap:=
    {keep:=λb o e n hb hx=>I'.base.keep b o (Heap.get?_push_of_some _ e) n hb (nex e hx)
     slot:=λb o e n hb hx=>I'.base.slot b o (Heap.get?_push_of_some _ e) n hb (nex e hx)
     free:=λb o e n hx=>by rw[qao (lt e).1];exact I'.base.free b o (Heap.get?_push_of_some _ e) n (nex e hx)
     there:=λb o e hx=>I'.base.there b o (Heap.get?_push_of_some _ e) (nex e hx)
     tups:=λb xs e=>upn (I'.base.tups b xs e)
     frzs:=λb o u e=>upn (I'.base.frzs b o u e)
     tbls:=λb ps e=>let ⟨more,z⟩:=I'.base.tbls b ps e;⟨more,upn z⟩ }
   have hok:HOk X.prog X.w (upd H' s.heap.objs.size (.lst ys)) s'.heap:=λb u e=>by
    by_cases hb:b=s.heap.objs.size
    ·subst hb;rw[qau] at e;cases e
     exact ⟨hz,us,n,rv,eD⟩
    ·rw[qao hb] at e
     exact (I'.hok b u e).stay (λc v _ z=>z) (λc z=>upn z) λc xs z=>upn z
   have J1:Inv X pins σ (upd H' s.heap.objs.size (.lst ys)) s':=I.call' (ch:=fp) I'.os un hok I'.bare λb hb=>⟨(hf b hb).2.2.2.1,(hf b hb).2.1,(hf b hb).2.2.2.2.1,(hf b hb).2.2.2.2.2⟩
   have fC:qhu X pins (upd H' s.heap.objs.size (.lst ys)) (s.heap.push qaf).objs.size:=I.fpOk leS (by rw[qao neDC];exact nC);refine ⟨_,rfl,ys,H',oC,mC,J1.pins_of (λp hp=>?_),hnC,fC,q _ nD⟩
   rcases List.mem_append.mp hp with z|z
   ·exact J1.pin p (List.mem_append_right _ z)
   ·have e:p=((s.heap.push qaf).objs.size,oC):=by simpa using z
    subst e;exact ⟨eC,fC.1,fC.2.1,fC.2.2.1,λv z=>by rw[dC] at z;cases z⟩
 exact codeAny_compStart_list loop (T.self _ 0 _ _ _ st1 loop)
theorem qzk {e0:Addr} {wi:TI} {g:TG} {tc:TT} {te:TE} (hh:X.A.handled=some (.ref e0)) (L:qqp X scope cl) (fo:FvOk X scope cl frees fv) (hit:PIH e0 X target iter wi) (hk:qgi vars.length g)
  (hg:∀ C s H ex,PG (blk X (vars ++ frees) scope cl C s H ex) target g) (hi:∀ C s H ex,qtg (blk X (vars ++ frees) scope cl C s H ex) ifs tc) (he:∀ C s H ex,PE (blk X (vars ++ frees) scope cl C s H ex) elt te)
  (hs:∀ x,foldedSetIterable iter X.env x=pure x:=by intro _;rfl):PE X (.ListComp elt [⟨target,iter,ifs,0⟩] scope pos) (qDm e0 vars.length fv wi g tc te):=by
 intro pins s σ H Q I h;rw[eval_ListComp];refine wpAny_comprehension_free (use:=none) rfl hs L.clos L.kind L.names (thn (hit pins s σ H _ I h) λv s1 h1=>thn h1 λitv s2 h2=>?_);obtain ⟨it,fp,tn,J,H2,e,I2,T,st2,f2,W,⟨m0,w0⟩,turn⟩:=h2;subst e;refine wpAny_mono (qtw (E:=X.xe) (E2:=λacc C x s'=>compPost (model X.prog X.w) X.A X.xe none (EP X pins σ Q) acc C (.error x) s') hh L fo hk hg hi he I2 T st2 f2 w0 turn) (λacc s3 h3=>thn h3 λcenv s4 h4=>codeAny_mono h4 λr s' h5=>?_) λ_ _ z=>z
 cases r with
 | error x=>exact h5
 | ok f =>
  obtain ⟨D,rfl,ys,H',oC,m,J1,hn,fC,q⟩:=h5;refine ⟨m,hn,λh' sb=>⟨.ref D,_,?_,rfl,q⟩⟩;exact J1.unpinned.turned (t':=s'.toks) (it:=cenv.locals) (λb o hb e=>(sb.2 b hb).trans e) fC.1 fC.2.1 fC.2.2.2.1 fC.2.2.2.2.1 fC.2.2.2.2.2
end
open PySem PySem.Spec PyProof.Rows
theorem qmh {prog:Program} {w:World} {A:Around} {e0 I ax:Addr} {oe:Obj} {vs:Array Value} (hh:A.handled=some (.ref e0)) (hv:oe.data=.fields vs) (h2:vs[2]?=some .none) (n0:e0≠I) (hne:ax≠I) (items:Array Value) :
  Walks prog w A I [I,ax,e0] [I] items.size (λi v=>items[i]?=some v) (λi h=>h.IsListIter I ax i/\h.IsList ax items/\h.get? e0=some oe) where
 sub:=λb hb=>by simp at hb;simp[hb]
 frame:=λ_ _ _ st hk=>⟨st.1.at λo e=>hk I (by simp) o e,st.2.1.at λo e=>hk ax (by simp) o e,hk e0 (by simp) _ st.2.2⟩
 item:=λi s Q E hi st hQ=>by
  refine wpAny_pyNext_list_item st.1 st.2.1 (x:=items[i]) (by simp[hi]) λh' hit' hs'=>?_
  exact hQ _ h' s.toks (by simp[hi]) ⟨hit',st.2.1.extBut hs'.extBut hne,hs'.extBut _ _ n0 st.2.2⟩ λb o hb e=>hs'.extBut b o (λh=>hb (by simp[h])) e
 done:=λs Q E st hQ=>qkg hh st.2.2 hv h2 n0 st.1 st.2.1 (by simp) λh' he'=>hQ h' s.toks λb o hb e=>he' b o (λh=>hb (by simp[h])) e
 self:=λ_ _ _ _ st hQ=>wpAny_pyIter_listiter st.1 hQ
section
variable {X:Cx}
theorem qrr {e0:Addr} (hh:X.A.handled=some (.ref e0)):CallR X (.builtin "sum") (λxs H Q=>∃ (p:Addr) (ns:List Int) (cls:Value),xs=[.ref p]/\SqL X.K H p (ns.map V.int)/\H e0=some (qnf e0 cls none)/\Q (.int ns.sum) H):=by
 intro pins s σ H xs us Q I r h;obtain ⟨p,ns,cls,rfl,hq,he,q⟩:=h;obtain ⟨u,rfl,ru⟩:=vals1 r
 cases (show u=Value.ref p from ru)
 obtain ⟨its,rv,pl,hz⟩:=I.list hq;have hi:IntsAre its ns:=L2.intsAre_of rv;have hn:=hi.numsOf;obtain ⟨ys,e⟩:=hi.allInts.items;have hl:=pl.isList;rw[e] at hl;obtain ⟨⟨oe,vs,h1,_,_,hd,cn⟩,_⟩:=(show ObjOk X.prog X.w H s.heap e0 (qnf e0 cls none) from I.hok e0 _ he);have c2:vs[2]?=some .none:=cn.resolve_right λz=>z rfl
 refine call_sum_walkG (iter_intList hl λs₂ e2 st hfp hlI=>?_);subst e2;have up:(s.heap.push { cls:=.type "list_iterator",data:=.fields #[.ref p,.int 0 0] }).get? e0=some oe:=Heap.get?_push_of_some _ h1;refine ⟨_,_,_,_,_,_,numAt ys,rfl,qmh (A:=X.A.in1) hh hd c2 (Nat.ne_of_lt (Heap.lt_size h1)) hlI (intItems ys),⟨st.1,st.2,up⟩,λb hb=>?_,(λ_ _=>intItems_at),λh' tk t' hk=>?_⟩
 ·simp only[List.mem_cons,List.not_mem_nil,or_false] at hb
  rcases hb with rfl|rfl|rfl
  ·exact hfp _ (by simp)
  ·exact hfp _ (by simp)
  ·exact Heap.lt_size up
 ·refine ⟨.int ns.sum,H,I.kept (old_kept hk),⟨t',?_⟩,q⟩
  have e3:its=(intItems ys).toList:=by rw[<- e]
  rw[e3,nums_intItems] at hn;rw[preSum_eq,List.take_of_length_le (by simp[intItems]),hn]
theorem qrs {e0:Addr} {K:Frag} (hK:X.K=K) (hh:X.A.handled=some (.ref e0)):CallR X (.builtin "sum") (λxs H Q=>∃ (p:Addr) (ns:List Int) (cls:Value),xs=[.ref p]/\SqL K H p (ns.map V.int)/\H e0=some (qnf e0 cls none)/\Q (.int ns.sum) H):=hK ▸ qrr hh
theorem qtx {e0:Addr} {K:Frag} {tg l:Expr} {tl:TE} (hK:X.K=K) (hl:PE X l tl):PIH e0 X tg l (qsy K tl):=hK ▸ qtu hl
def qw1:V->List V->Hp->VK->Prop:=λx vs H Q=>∃ (l:Addr) (bs:List Bool) (j:Nat),x=.ref l/\vs=[.bl true]/\H l=some (.lst (bs.map V.bl))/\bs[j]?=some true/\(∀ m,m<j->bs[m]?=some false)/\bs.length<=1000/\Q (.int j) H
theorem qrt:MtM X "list.index" qw1:=by
 intro pins s σ H x vs v us Q I rx rv h;obtain ⟨l,bs,j,rfl,rfl,hH,hj,hm,hz,q⟩:=h;cases rx;obtain ⟨u1,rfl,r1⟩:=vals1 rv
 cases (show u1=Value.bool true from r1)
 obtain ⟨z,its,n,r,hl,e⟩:=I.lstM hH;have hb:∀ i b,bs[i]?=some b->its[i]?=some (Value.bool b):=λi b hi=>by
  obtain ⟨u,hu,ru⟩:=r.get (show (bs.map V.bl)[i]?=some (.bl b) by rw[List.getElem?_map,hi];rfl);rw[hu,show u=Value.bool b from ru]
 have lb:its.length=bs.length:=by rw[<- hl,List.length_map]
 have jl:=(List.getElem?_eq_some_iff.mp hj).1;have ej:its.toArray[j]'(by rw[List.size_toArray,lb];exact jl)=Value.bool true:=by
  have:=hb j true hj;rw[List.getElem?_eq_some_iff] at this;obtain ⟨_,this⟩:=this
  simpa using this
 refine call_meets PySem.F.slot_list_index ⟨_,e,rfl⟩ PySem.F.entry_list_index (PySem.F.args_list_index_2 _ _) (PySem.SeqAt.list_indexAt l its.toArray n none #[] (.bool true) (λy=>y == .bool true) j (by rw[List.size_toArray,lb];exact jl) (by omega) (by rw[ej];rfl) λm hm1 hm2=>?_) ⟨e,λy hy=>?_,?_⟩
 ·have:=hb m false (hm m hm2)
  rw[List.getElem?_eq_some_iff] at this;obtain ⟨_,this⟩:=this
  simp[this]
 ·obtain ⟨i,hi,rfl⟩:=List.getElem_of_mem (List.mem_toArray.mp hy)
  have hbi:bs[i]?=some bs[i]:=by simp[lb ▸ hi]
  have:=hb i _ hbi;rw[List.getElem?_eq_some_iff] at this;obtain ⟨_,this⟩:=this;rw[this];have ee:(Value.bool bs[i] == Value.bool true)=(bs[i] == true):=by cases bs[i]<;>rfl
  rw[ee];exact SeqAt.EqAt.bool_bool _ _
 ·exact ⟨.int j,H,I.tok _,⟨_,rfl⟩,q⟩
end
open PySem PySem.Spec PyProof.Rows
def hWE (K:Frag) (C:Addr) (th:Addr->TS) (j:Nat) (D:Ends):XW:=λcls dd σ H=>qCm K C cls/\∀ e H',New H H' e (qnf e cls dd)->th e (qy3 D j) (σ.set j (some (.ref e))) H'
def qBy (K:Frag) (C:Addr) (tb:XW->TS) (th:Addr->TS) (j:Nat):TS:=λD σ H=>tb (hWE K C th j D) D σ H
theorem qw2 {X:Cx} {C:Addr} {x n:Str} {j:Nat} {np hpos pos:Pos} {body suite:List Stmt} {b₀:Stmt} {tb:XW->TS} {th:Addr->TS} (hs:qey X) (hN:X.N.Nodup) (hj:X.N[j]?=some n) (hl:X.env.kindOf n=some .local) (hx:X.env.scope.names.lookup n=some .local)
  (hg:Gl X x) (hm:X.mg x=some (.ref C)) (hC:PySem.W.ktsIn X.K C "BaseException" = true)
  (hb:∀ pn W,PSs ((pnd X pn).wish (XE (pnd X pn) W)) body (tb W)) (hh:∀ pn e,PSs (hnd (pnd X pn) e) (b₀ :: suite) (th e)) (hdb:(x == ("__debug__" : Str))=false:=by decide) :
  PS X (.Try body [.ExceptHandler (some (.Name x np)) (some n) (b₀ :: suite) hpos] [] [] pos) (qBy X.K C tb th j):=by
 intro pins s σ H D I h;have I0:Inv (pnd X (X.pn ++ pins)) [] σ H s:=I.pnd;refine wpAny_Try_except (wpAny_mono (hb (X.pn ++ pins) _ [] s σ H D (I0.wish _) h) (λf s1 q=>?_) λev s1 q=>?_)
 ·cases f with
  | next=>exact wpAny_execs_nil q.unpnd
  | brk=>exact q.unpnd
  | cont=>exact q.unpnd
  | ret u=>exact q.unpnd
 ·obtain ⟨e,cls,dd,σ1,H1,rfl,I1,F1,⟨DC,rfl,hD,hDC⟩,w1⟩:=q
  have hs':qey (pnd X (X.pn ++ pins)):=hs;refine qma (X:=pnd X (X.pn ++ pins)) hs' I1.ok.frames I1 F1 λh2 T I2 hT F2=>?_
  refine qeh none I2 hT F2 λh3 I3 F3=>?_
  obtain ⟨oe,vs,oT,ts,he,hc,_⟩:=id F3;refine wpAny_handleBy_cons (codeAny_handlers_test (qeu (X:=hnd (pnd X (X.pn ++ pins)) e) (I3.hnd e) hg hm ?_ hdb)) (by intro q;cases q);refine qhn (s:={ s1 with heap:=h3 }) I3.kIn he hc hC hD hDC (codeAny_handlers_suite_as ?_);refine qeh none I3 hT F3 λh4 I4 F4=>?_
  obtain ⟨oe,vs,oT,ts,he,hc,hdd,hd,_,_,_,_,_,cn⟩:=id F4;have I5:Inv (pnd X (X.pn ++ pins)) [] σ1 (upd H1 e (qnf e (.ref DC) dd)) { s1 with heap:=h4 }:=I4.track F1.1 ⟨⟨oe,vs,he,hc,hdd,hd,cn⟩,⟨oe,he⟩,λg1 g2 ⟨o',v',q1,q2,q3,q4⟩ k=>⟨o',v',k _ q1,q2,q3,q4⟩⟩;refine qis (X:=pnd X (X.pn ++ pins)) (v:=.ref e) I5 hN hj (.inl hx) rfl (λs6 I6=>?_) (.inr hx);have w2:=w1 e _ (qax F1.1.1);refine wpAny_mono (hh (X.pn ++ pins) e [] s6 _ _ _ (I6.hnd e) w2) (λf s7 q=>?_) λ_ _ z=>False.elim z
  have go:∀ {σ7 H7},Inv (hnd (pnd X (X.pn ++ pins)) e) [] σ7 H7 s7->∀ {Q:Unit->Shared->Prop},(∀ s',Inv X pins (σ7.set j none) H7 s'->Q () s')->wpAny (model X.prog X.w) X.A (do bindName X.env n .none;unbindBehindTheSuite X.env n hpos) Q X.xe s7:=fun {σ7 H7} J {Q} k =>
   qwj (Inv.unpnd (Inv.unhnd I.ok.hd J)) hN hj hl k
  cases f with
  | next=>obtain ⟨σ7,H7,J,q7⟩:=q;exact go J λs' J'=>⟨_,_,J',q7⟩
  | brk=>obtain ⟨σ7,H7,J,q7⟩:=q;exact go J λs' J'=>⟨_,_,J',q7⟩
  | cont=>obtain ⟨σ7,H7,J,q7⟩:=q;exact go J λs' J'=>⟨_,_,J',q7⟩
  | ret u=>obtain ⟨v,σ7,H7,J,r,q7⟩:=q;exact go J λs' J'=>⟨v,_,_,J',r,q7⟩
open PySem PySem.Spec PyProof.Rows PySem.W
def qty (k l:List Nat):Bool:=decide (k<l)
def ltN (ks:List (List Nat)) (i j:Nat):Bool:=qty (ks.getD i []) (ks.getD j [])
theorem qw3 {k l:List Nat} (h:qty k l=true):qty l k=false:=decide_eq_false (List.lt_asymm (of_decide_eq_true h))
theorem qDn (ks:List (List Nat)) (nd:ks.Nodup):qBt ks.length (ltN ks) where
 tot:=λi j hi hj hij h=>by
  refine decide_eq_true ?_;have h':¬ ks.getD i []<ks.getD j []:=of_decide_eq_false h
  by_cases z:ks.getD i []=ks.getD j []
  ·exact absurd ((List.getElem?_inj hi nd).mp (by rw[List.getD_eq_getElem?_getD,List.getD_eq_getElem?_getD,List.getElem?_eq_getElem hi,List.getElem?_eq_getElem hj] at z;rw[List.getElem?_eq_getElem hi,List.getElem?_eq_getElem hj];exact congrArg some z)) hij
  ·exact Decidable.byContradiction λz2=>z (List.le_antisymm (List.not_lt.mp z2) (List.not_lt.mp h'))
 tr:=λi j k _ _ _ h1 h2=>decide_eq_true (List.lt_trans (of_decide_eq_true h1) (of_decide_eq_true h2))
theorem qBz (ks:List (List Nat)):OrdW ks.length (ltN ks):=⟨λ_ _ _ _ h=>qw3 h,λ_ _ _ _ _ _ h1 h2=>decide_eq_false λz=>by
 have h1':=of_decide_eq_false h1;have h2':=of_decide_eq_false h2;exact List.le_trans (List.not_lt.mp h1') (List.not_lt.mp h2') z⟩
def qu6 (h:Heap) (v:Value) (k:List Nat):Prop:=∃ b o xs e t r,v=.ref b/\h.get? b=some o/\o.cls=.type "tuple" /\ o.data=.seq xs e/\xs.toList=Value.str (S k) t :: r
section
variable {prog:Program} {w:World} {A:Around} {E:Value->Shared->Prop} {s:Shared}
theorem qtz {b:Bool} {Q:Bool->Shared->Prop} (q:Q false s):∀ (us:List Value) (i:Nat),KatLex prog w A b false Q (us.zip us) i s:=by
 intro us
 induction us with
 | nil=>intro i;exact kat_nil q
 | cons u us ih=>intro i;rw[List.zip_cons_cons];exact kat_cons (SeqAt.EqAt.same u prog w _ _ (kat_yes (ih (i+1))))
theorem qzl {b:Bool} {Q:Bool->Shared->Prop} {x y:Value} {k l:List Nat} (hx:qu6 s.heap x k) (hy:qu6 s.heap y l) (hk:k≠l\/x=y) (q:Q (qty k l) s):wpAny (model prog w) A (keyLt' (tuples' b) x y) Q E s:=by
 obtain ⟨a,o,xs,e,t,r,rfl,h1,h2,h3,h4⟩:=hx;obtain ⟨a',o',xs',e',t',r',rfl,h1',h2',h3',h4'⟩:=hy;refine kat_lt h1 h3 h1' h3' ?_
 by_cases z:k=l
 ·subst z
  have hk:=hk.resolve_left λz=>z rfl
  cases hk;rw[h1] at h1'
  cases h1'
  rw[h3] at h3'
  cases h3'
  have:qty k k=false:=decide_eq_false (List.lt_irrefl _);rw[this] at q;rw[show decide (xs.size<xs.size)=false by simp];exact qtz q _ _
 ·rw[h4,h4',List.zip_cons_cons]
  refine kat_cons (wpAny_eqBool_str ?_);rw[decide_eq_false λw=>z (qre w)];refine kat_no ?_;have q':Q (decide ((S k).cps.toList<(S l).cps.toList)) s:=by
   rw[show qty k l=decide ((S k).cps.toList<(S l).cps.toList) from decide_eq_decide.mpr (by simp[S])] at q;exact q
  cases (b && (0:Nat) == 0) with
  | true=>exact oneLt_str q'
  | false=>exact kat_one _ _ (lt_str q')
theorem qw4 {h:Heap}:∀ {vs:List Value} {ks:List (List Nat)},vs.length=ks.length->(∀ (i:Nat) v k,vs[i]?=some v->ks[i]?=some k->qu6 h v k/\k≠[])->∃ fs,KatTups h vs fs/\fs.length=vs.length/\∀ v∈fs,∃ i t,v=Value.str i t:=by
 intro vs
 induction vs with
 | nil=>intro ks _ _;exact ⟨[],.nil,rfl,λv hv=>by cases hv⟩
 | cons v vs ih =>
  intro ks hl H
  cases ks with
  | nil=>cases hl
  | cons k ks =>
   obtain ⟨fs,f1,f2,f3⟩:=ih (ks:=ks) (by simpa using hl) (λi v k e1 e2=>H (i+1) v k (by simpa using e1) (by simpa using e2));obtain ⟨⟨b,o,xs,e,t,r,rfl,h1,h2,h3,h4⟩,_⟩:=H 0 v k rfl rfl;refine ⟨Value.str (S k) t :: fs,.cons h1 h2 h3 (by rw[<- Array.getElem?_toList,h4];rfl) f1,by simp[f2],λv hv=>?_⟩
   rcases List.mem_cons.mp hv with h|h
   ·exact ⟨_,t,h⟩
   ·exact f3 v h
theorem qru {a:Addr} {vs:List Value} {n:Nat} {P:Fin->Shared->Prop} {ks:List (List Nat)} (ho:s.heap.get? a=some (seqObj "list" vs.toArray n)) (h2:2<=vs.length) (h64:vs.length<64) (hl:vs.length=ks.length) (nd:ks.Nodup)
  (hT:∀ (i:Nat) v k,vs[i]?=some v->ks[i]?=some k->qu6 s.heap v k/\k≠[])
  (h:∀ p:Array Nat,PermA ks.length p->Asc (ltN ks) p ks.length->P (.done (.ret .none)) { s with heap:=sortedHeap s.heap a vs (p.map λi=>vs.getD i .none) }):wpAny (model prog w) A (Builtin.«list.sort» ⟨[.ref a],[]⟩) P E s:=by
 rw[list_sort_plain];have la:a<s.heap.objs.size:=Heap.lt_size ho;refine wpAny_bind (listItems_at ho rfl ?_);refine wpAny_bind (listUpdate_at ho rfl ?_);obtain ⟨e1,h1⟩:∃ e1,(s.heap.update a (Obj.mapSeq λ_=>#[])).get? a=some (seqObj "list" #[] e1):=⟨_,get?_update_seq ho (λ_=>#[])⟩;refine wpAny_bind (seqEpoch_at h1 rfl ?_);refine wpAny_bind (wpAny_newTuple ?_ (by simp only[List.toList_toArray];rw[sizeLine_eq];omega));refine wpAny_bind (wpAny_newList ?_);refine wpAny_holding ?_;have h6:(((s.heap.update a (Obj.mapSeq λ_=>#[])).push (seqObj "tuple" vs.toArray 0)).push (seqObj "list" #[] 0)).get? a=some (seqObj "list" #[] e1):=by
  rw[Heap.get?_push_ne _ _ _ (by rw[size_push',Heap.size_update];exact Nat.ne_of_lt (Nat.lt_succ_of_lt la)),Heap.get?_push_ne _ _ _ (by rw[Heap.size_update];exact Nat.ne_of_lt la)];exact h1
 show wpAny (model prog w) A _ P E { s with heap:=((s.heap.update a (Obj.mapSeq λ_=>#[])).push (seqObj "tuple" vs.toArray 0)).push (seqObj "list" #[] 0) }
 obtain ⟨s3,es3⟩:∃ s3:Shared,s3={ s with heap:=((s.heap.update a (Obj.mapSeq λ_=>#[])).push (seqObj "tuple" vs.toArray 0)).push (seqObj "list" #[] 0) }:=⟨_,rfl⟩;have hT3:∀ (i:Nat) v k,vs[i]?=some v->ks[i]?=some k->qu6 s3.heap v k/\k≠[]:=λi v k q1 q2=>by
  obtain ⟨⟨b,o,xs,e,t,r,rfl,g1,g2,g3,g4⟩,hne⟩:=hT i v k q1 q2;refine ⟨⟨b,o,xs,e,t,r,rfl,?_,g2,g3,g4⟩,hne⟩;have hba:b≠a:=λz=>by
   subst z;rw[ho] at g1;cases g1;have g2':(Value.type "list" : Value)=Value.type "tuple" :=g2;injection g2' with e'
   exact absurd e' (by decide)
  rw[es3];exact Heap.get?_push_of_some _ (Heap.get?_push_of_some _ ((Heap.SameBut.update s.heap a _).extBut b o hba g1))
 obtain ⟨fs,f1,f2,f3⟩:=qw4 hl hT3;have z2:¬ vs.toArray.size<2:=by simpa using by omega
 dsimp only;rw[if_neg z2,if_neg z2,<- es3];refine wpAny_bind (kat_kind (T:=.type "str") f1 (by omega) (λv hv=>?_) (by decide) ?_)
 ·obtain ⟨i,t,rfl⟩:=f3 v hv
  exact Looks.of_pure rfl
 have hrun:=kas_runs (prog:=prog) (w:=w) (A:=A) (E:=E) (κ:=tuples' true) (it:=pairsOf vs) (n:=ks.length) (s:=s3) (G:=λp s'=>s'=s3/\PermA ks.length p/\Asc (ltN ks) p ks.length)
  (Q:=λ_ st' s'=>s'=s3/\failedOf st'=none/\∃ p,arrOf st'=p.map (kas_item (pairsOf vs))/\PermA ks.length p/\Asc (ltN ks) p ks.length) (by omega) (by omega)
  (λp st' s' hz ha hf hG=>⟨hG.1,hf,p,ha,hG.2⟩)
  (KW.run (λi j C hi hj hC=>by
   unfold kas_cmp;rw[kas_item_eq,kas_item_eq];have q1:vs[i]?=some (vs.getD i .none):=by rw[List.getD_eq_getElem?_getD,List.getElem?_eq_getElem (by omega)];rfl
   have q2:vs[j]?=some (vs.getD j .none):=by rw[List.getD_eq_getElem?_getD,List.getElem?_eq_getElem (by omega)];rfl
   have q3:ks[i]?=some (ks.getD i []):=by rw[List.getD_eq_getElem?_getD,List.getElem?_eq_getElem hi];rfl
   have q4:ks[j]?=some (ks.getD j []):=by rw[List.getD_eq_getElem?_getD,List.getElem?_eq_getElem hj];rfl
   refine qzl (hT3 i _ _ q1 q3).1 (hT3 j _ _ q2 q4).1 ?_ hC
   by_cases hij:i=j
   ·exact .inr (by rw[hij])
   ·refine .inl λz=>hij ?_
    rw[z] at q3;exact (List.getElem?_inj hi nd).mp (q3.trans q4.symm)) (qq6 (qDn ks nd) (qBz ks) (by omega)))
 have est:kas_st (tuples' true) (pairsOf vs) (List.range ks.length).toArray=SortSt.mk' (tuples' true) (vs.toArray.zip vs.toArray) #[] 7 none:=by
  unfold kas_st;have:=kas_range (pairsOf vs);rw[pairsOf_size,hl] at this;rw[this];rfl
 rw[est] at hrun
 show wpAny (model prog w) A (sortRuns'.run (SortSt.mk' (tuples' true) (vs.toArray.zip vs.toArray) #[] 7 none) >>= _) P E s3
 refine wpAny_bind (wpAny_mono hrun (λr s' hq=>?_) λ_ _ z=>z);obtain ⟨rfl,hf,p,hp,hq⟩:=hq;have h6':s'.heap.get? a=some (seqObj "list" #[] e1):=by rw[es3];exact h6
 have hz:((arrOf r.2).map (·.2)).size<=sizeLine:=by rw[Array.size_map,hp,Array.size_map,hq.1.sz,sizeLine_eq];omega
 refine wpAny_bind (seqEpoch_at h6' rfl ?_);refine wpAny_bind (listUpdate_at h6' rfl ?_ (hsz2:=Nat.le_succ_of_le hz));rw[hf];simp only[bne_self_eq_false,Bool.false_eq_true,if_false];refine wpAny_pure ?_;have:=h p hq.1 hq.2;rw[es3];rw[hp,Array.map_map];have ef:((λx:Keyed=>x.2) ∘ kas_item (pairsOf vs))=λi=>vs.getD i .none:=by
  funext i
  show (kas_item (pairsOf vs) i).2=_
  rw[kas_item_eq]
 rw[ef];exact this
theorem qrv {a:Addr} {vs:List Value} {n:Nat} {P:Fin->Shared->Prop} {ks:List (List Nat)} (ho:s.heap.get? a=some (seqObj "list" vs.toArray n)) (h64:vs.length<64) (hl:vs.length=ks.length) (nd:ks.Nodup)
  (hT:∀ (i:Nat) v k,vs[i]?=some v->ks[i]?=some k->qu6 s.heap v k/\k≠[])
  (h:∀ idx:List Nat,idx.Perm (List.range ks.length)->(pick idx ks []).Pairwise (λk l=>qty k l=true)->P (.done (.ret .none)) { s with heap:=sortedHeap s.heap a vs (pick idx vs .none).toArray }):wpAny (model prog w) A (Builtin.«list.sort» ⟨[.ref a],[]⟩) P E s:=by
 by_cases h2:vs.length<2
 ·refine qh1 ho h2 ?_
  have:=h (List.range ks.length) (.refl _) (by
   rw[qcs]
   match ks,hl with
   | [],_=>exact .nil
   | [k],_=>exact List.pairwise_singleton _ _
   | _ :: _ :: _,hl=>simp at hl;omega)
  rw[<- hl,qcs] at this;rw[qq0];exact this
 ·refine qru ho (by omega) h64 hl nd hT λp hp ha=>?_
  have e:(p.map λi=>vs.getD i .none)=(pick p.toList vs .none).toArray:=by
   apply Array.ext'
   simp[pick]
  rw[e];refine h p.toList hp.perm ?_;rw[List.pairwise_iff_getElem];intro i j hi hj hij;have hs:=hp.sz;have li:i<p.size:=by simpa [pick] using hi
  have lj:j<p.size:=by simpa [pick] using hj
  have:=ha i j hij (by omega);unfold ltN at this;rw[Array.getD_eq_getD_getElem?,Array.getElem?_eq_getElem li,Array.getD_eq_getD_getElem?,Array.getElem?_eq_getElem lj] at this
  simpa [pick] using this
theorem qkh {l:Addr} {vs:List Value} {ks:List (List Nat)} {Q:Value->Shared->Prop} (hL:s.heap.IsList l vs.toArray) (h64:vs.length<64) (hl:vs.length=ks.length) (nd:ks.Nodup)
  (hT:∀ (i:Nat) v k,vs[i]?=some v->ks[i]?=some k->qu6 s.heap v k/\k≠[])
  (h:∀ idx:List Nat,idx.Perm (List.range ks.length)->(pick idx ks []).Pairwise (λk l=>qty k l=true)->Q (.ref (s.heap.objs.size+1)) { s with heap:=sortedAll s.heap vs (pick idx vs .none).toArray }):wpAny (model prog w) A (call (.builtin "sorted") [.ref l]) Q E s:=by
 refine Calls.call_function_entry kind_sorted plain_sorted entry_sorted (args_sorted1 _) ?_;unfold Builtin.«sorted»;refine wpAny_bind (m:=checkCount "sorted" 1 1 _) (wpAny_pure ?_);refine wpAny_bind (collect_list hL ?_ (by rw[sizeLine_eq];omega));refine wpAny_bind (wpAny_newList ?_ (by rw[sizeLine_eq];omega));have hsz:((s.heap.push (seqObj "list" #[] 0)).update s.heap.objs.size (Obj.mapSeq λx=>x ++ vs.toArray)).objs.size=s.heap.objs.size+1:=by rw[Heap.size_update,size_push']
 have hS:(((s.heap.push (seqObj "list" #[] 0)).update s.heap.objs.size (Obj.mapSeq λx=>x ++ vs.toArray)).push (seqObj "list" vs.toArray 0)).get? (s.heap.objs.size+1)=some (seqObj "list" vs.toArray 0):=by
  rw[<- hsz];exact Heap.get?_push_size _ rfl
 dsimp only;rw[hsz];have kp:∀ b ob,s.heap.get? b=some ob->(((s.heap.push (seqObj "list" #[] 0)).update s.heap.objs.size (Obj.mapSeq λx=>x ++ vs.toArray)).push (seqObj "list" vs.toArray 0)).get? b=some ob:=λb ob hb=>by
  refine Heap.get?_push_of_some _ ((Heap.SameBut.update _ s.heap.objs.size _).extBut b ob (Nat.ne_of_lt (Heap.lt_size hb)) (Heap.get?_push_of_some _ hb))
 refine wpAny_bind (wpAny_holding (wpAny_call_entry slot_list_sort ⟨_,hS,rfl⟩ entry_list_sort (qrv (s:={ s with heap:=((s.heap.push (seqObj "list" #[] 0)).update s.heap.objs.size (Obj.mapSeq λx=>x ++ vs.toArray)).push (seqObj "list" vs.toArray 0) }) hS h64 hl nd (λi v k q1 q2=>?_) λidx i1 i2=>⟨_,rfl,?_⟩) (args_list_sort _)))
 ·obtain ⟨⟨b,o,xs,e,t,r,e1,g1,g2⟩,hne⟩:=hT i v k q1 q2
  exact ⟨⟨b,o,xs,e,t,r,e1,kp _ _ g1,g2⟩,hne⟩
 ·exact wpAny_pure ⟨_,rfl,h idx i1 i2⟩
end
section
variable {X:Cx}
theorem qw5 {pins:List (Addr×Obj)} {σ:St} {H:Hp} {s:Shared} {a:Addr} {k:List Nat} {r:List V} (I:Inv X pins σ H s) (h:H a=some (.tup (V.str (S k) :: r))):qu6 s.heap (.ref a) k:=by
 obtain ⟨its,rv,p,_⟩:=I.tuple (SqT.of h);obtain ⟨o,h1,h2,n,h3⟩:=(show s.heap.IsTuple a its.toArray from p)
 cases rv with
 | cons r1 r2 =>
  obtain ⟨t,rfl⟩:=(show ∃ t,_=Value.str (S k) t from r1);exact ⟨a,o,_,n,t,_,rfl,h1,h2,h3,rfl⟩
def qzm (K:Frag):List V->Hp->VK->Prop:=λxs H Q=>∃ (p:Addr) (ys:List V) (ks:List (List Nat)),xs=[.ref p]/\SqL K H p ys/\ys.length=ks.length/\(∀ (i:Nat) (x:V) (k:List Nat),ys[i]?=some x->ks[i]?=some k->∃ a r,x=.ref a/\H a=some (.tup (V.str (S k) :: r)))/\ks.length<64/\ks.Nodup/\(∀ k∈ks,k≠[]) /\
 ∀ idx l H',idx.Perm (List.range ks.length)->(pick idx ks []).Pairwise (λk l=>qty k l=true)->New H H' l (.lst (pick idx ys .non))->Q (.ref l) H'
theorem qki:CallR X (.builtin "sorted") (qzm X.K):=by
 intro pins s σ H xs us Q I r h;obtain ⟨p,ys,ks,rfl,hq,hl0,hT,h64,nd,hne,q⟩:=h;obtain ⟨u,rfl,ru⟩:=vals1 r
 cases (show u=Value.ref p from ru)
 obtain ⟨its,rv,pl,hz⟩:=I.list hq;have l1:=hl0;have l2:=rv.length;refine qkh pl.isList (by omega) (ks:=ks) (by omega) nd (λi v k q1 q2=>?_) λidx i1 i2=>?_
 ·obtain ⟨x,qx⟩:∃ x,ys[i]?=some x:=⟨_,List.getElem?_eq_getElem (by have:=(List.getElem?_eq_some_iff.mp q2).1;omega)⟩
  obtain ⟨a,r,rfl,ha⟩:=hT i _ _ qx q2;have hv:v=Value.ref a:=by
   have hx:=(List.getElem?_eq_some_iff.mp qx);have hvv:=(List.getElem?_eq_some_iff.mp q1);have:=vals_pick.vals_ix rv hx.1 hvv.1;rw[hx.2,hvv.2] at this;exact this
  subst hv;exact ⟨qw5 I ha,hne k (List.mem_of_getElem? q2)⟩
 ·have hi:∀ i∈idx,i<ks.length:=λi h=>List.mem_range.mp (i1.mem_iff.mp h)
  obtain ⟨e,he⟩:=sortedAll_at s.heap its (pick idx its .none).toArray;have vp:Vals (pick idx ys .non) (pick idx its .none):=vals_pick rv (λi h=>by have:=hi i h;omega);refine ⟨.ref _,_,I.laid (t':=s.toks) (o:=.lst (pick idx ys .non)) (λ_ _=>sortedAll_old) (Nat.le_succ _) ⟨?_,pick idx its .none,e,vp,he⟩,rfl,q idx _ _ i1 i2 (qax (I.hok.fresh (Nat.le_succ _)))⟩;have:=i1.length_eq;rw[List.length_range] at this
  show (pick idx ys .non).length<=_
  unfold pick;rw[List.length_map,sizeLine_eq];omega
end
open PySem PySem.Spec PyProof.Rows
theorem qw6 {F:Frag} {nv i j l:Nat} (hi:i<nv) (hj:j<nv) (hl:l<nv):qgi nv (qsx F 2 (qcl (qsx F 2 (qcl (qcr i) (qcl (qcr j) qsw))) (qcl (qcr l) qsw))):=λx σ H K q=>by
 obtain ⟨a,xs,e,hq,hl',v,r,e1,b,ys,e',hq',hl2,v1,r1,e2,v2,r2,e3,e4,v3,r3,e5,e6,q⟩:=q;exact ⟨a,xs,e,hq,hl',v,r,e1,b,ys,e',hq',hl2,v1,r1,e2,v2,r2,e3,e4,v3,r3,e5,e6,q,by simp,λk hk=>by rw[List.getElem?_set_ne (by omega),List.getElem?_set_ne (by omega),List.getElem?_set_ne (by omega)]⟩
section
variable {X:Cx}
def qB0:V->List V->Hp->VK->Prop:=λx vs H Q=>∃ (l:Addr) (ys:List V) (y:V),x=.ref l/\vs=[]/\H l=some (.lst (ys ++ [y]))/\∀ H',But l H H'->H' l=some (.lst ys)->Q y H'
theorem qw7:MtM X "list.pop" qB0:=mt_pop.imp λx vs H Q h=>by
 obtain ⟨l,ys,y,rfl,rfl,hl,q⟩:=h;exact ⟨l,ys ++ [y],y,rfl,rfl,hl,by simp,by rw[List.dropLast_concat];exact q _ but_upd qau⟩
end
end L2
namespace TB
structure Good (ps:List (Int×Int)):Prop where
 lo:1<=ps.length
 hi:ps.length<=5
 each:∀ (i:Nat) p,ps[i]?=some p->0<=p.1/\1<=p.2
 next:∀ (i:Nat) p q,ps[i]?=some p->ps[i+1]?=some q->p.1<=q.1/\q.2 % p.2=0
def qrw (g:Option Int) (last:Int):Prop:=∀ z,g=some z->last<=z
end TB
namespace TB
def cut (d a w:Int):Int:=(d-a) / w*w
def Bd (x:Int):Prop:=-(10 ^ 45)<x/\x<10 ^ 45
def qrx (ps:List (Int×Int)):Prop:=∀ (i:Nat) p,ps[i]?=some p->0<=p.1/\p.1<10 ^ 45/\1<=p.2/\p.2<10 ^ 45
theorem qt0 {x w B:Int} (hw:1<=w) (hB:0<=B) (h1:-B<=x) (h2:x<B):-B<=x / w/\x / w<B:=by
 have hBw:B*1<=B*w:=Int.mul_le_mul_of_nonneg_left hw hB
 constructor
 ·refine Int.le_ediv_of_mul_le (by omega) ?_
  have:-B*w = -(B*w):=Int.neg_mul _ _;omega
 ·exact Int.ediv_lt_of_lt_mul (by omega) (by omega)
theorem qzn {d a w:Int} (hw:1<=w):cut d a w<=d-a:=by
 have h:=Int.emod_add_mul_ediv (d-a) w;have h1:=Int.emod_nonneg (d-a) (show w≠0 by omega);unfold cut;rw[Int.mul_comm] at h;omega
theorem qzo {d a w:Int} (hw:1<=w):d-a<cut d a w+w:=by
 have h:=Int.emod_add_mul_ediv (d-a) w;have h1:=Int.emod_lt_of_pos (d-a) (show 0<w by omega);unfold cut;rw[Int.mul_comm] at h;omega
theorem qu7 {d a w:Int} (hd:Bd d) (ha:0<=a) (ha':a<10 ^ 45) (hw:1<=w) (hw':w<10 ^ 45):-(4*10 ^ 45)<cut d a w/\cut d a w<4*10 ^ 45:=by
 have h1:=qzn (d:=d) (a:=a) hw;have h2:=qzo (d:=d) (a:=a) hw;unfold Bd at hd;omega
theorem qt1 {ps:List (Int×Int)} {p:Int×Int} (h:ps[ps.length-1]?=some p):ps.getLast?.getD (0,1)=p:=by
 rw[List.getLast?_eq_getElem?,h];rfl
end TB
namespace TB
open PySem L2
def PairAt (H:Hp) (v:V) (p:Int×Int):Prop:=∃ a,v=.ref a/\H a=some (.tup [.int p.1,.int p.2])
def Pairs (H:Hp) (xs:List V) (ps:List (Int×Int)):Prop:=Paired (PairAt H) xs ps
theorem PairAt.same {H H':Hp} (s:Same H H') {v:V} {p:Int×Int}:PairAt H v p->PairAt H' v p:=fun ⟨a,e,h⟩=>⟨a,e,s _ _ h⟩
def TupS (H H':Hp):Prop:=∀ b xs,H b=some (.tup xs)->H' b=some (.tup xs)
theorem Same.tup {H H':Hp} (s:Same H H'):TupS H H':=λb xs h=>s b _ h
theorem PairAt.tupS {H H':Hp} (s:TupS H H') {v:V} {p:Int×Int}:PairAt H v p->PairAt H' v p:=fun ⟨a,e,h⟩=>⟨a,e,s _ _ h⟩
theorem Pairs.tupS {H H':Hp} (s:TupS H H'):∀ {xs:List V} {ps:List (Int×Int)},Pairs H xs ps->Pairs H' xs ps
 | _,_,.nil=>.nil
 | _,_,.cons r t=>.cons (r.tupS s) (Pairs.tupS s t)
theorem Pairs.same {H H':Hp} (s:Same H H') {xs:List V} {ps:List (Int×Int)} (h:Pairs H xs ps):Pairs H' xs ps:=Pairs.tupS (Same.tup s) h
theorem Pairs.length {H:Hp}:∀ {xs:List V} {ps:List (Int×Int)},Pairs H xs ps->xs.length=ps.length
 | _,_,.nil=>rfl
 | _,_,.cons _ t=>by simp[Pairs.length t]
theorem Pairs.get {H:Hp}:∀ {xs:List V} {ps:List (Int×Int)} {i:Nat} {x:V},Pairs H xs ps->xs[i]?=some x->∃ p,ps[i]?=some p/\PairAt H x p
 | _,_,_,_,.nil,e=>by simp at e
 | _,_,0,_,.cons r _,e=>by simp at e;subst e;exact ⟨_,rfl,r⟩
 | _,_,i+1,x,.cons _ t,e=>by
  obtain ⟨u,h1,h2⟩:=Pairs.get (i:=i) (x:=x) t (by simpa using e);exact ⟨u,by simpa using h1,h2⟩
theorem Pairs.get' {H:Hp}:∀ {xs:List V} {ps:List (Int×Int)} {i:Nat} {p:Int×Int},Pairs H xs ps->ps[i]?=some p->∃ x,xs[i]?=some x/\PairAt H x p
 | _,_,_,_,.nil,e=>by simp at e
 | _,_,0,_,.cons r _,e=>by simp at e;subst e;exact ⟨_,rfl,r⟩
 | _,_,i+1,x,.cons _ t,e=>by
  obtain ⟨u,h1,h2⟩:=Pairs.get' (i:=i) (p:=x) t (by simpa using e);exact ⟨u,by simpa using h1,h2⟩
theorem Pairs.snoc {H:Hp} {v:V} {p:Int×Int} (r:PairAt H v p):∀ {xs:List V} {ps:List (Int×Int)},Pairs H xs ps->Pairs H (xs ++ [v]) (ps ++ [p])
 | _,_,.nil=>.cons r .nil
 | _,_,.cons q t=>.cons q (Pairs.snoc r t)
theorem qkj {K:Frag} {H:Hp}:∀ ns:List Int,qov K H (ns.map V.int) (ns.map PyData.int)
 | []=>.nil
 | n :: r=>.cons (.int n) (qkj r)
theorem qkk:∀ ns:List Int,PyData.canLayAll0 (ns.map PyData.int)=true
 | []=>rfl
 | n :: r=>by simp[PyData.canLayAll0,PyData.canLay0,qkk r]
theorem qkl:∀ ns:List Int,PyData.depthAll (ns.map PyData.int)=0
 | []=>rfl
 | n :: r=>by simp[PyData.depthAll,PyData.depth,qkl r]
def gv:Option Int->V
 | none=>.non
 | some i=>.int i
theorem qB1:¬ (("kept_steps" : Str) = "gone_age"):=by decide +kernel
def rf (l:Addr) (g:V):List (Str×V):=qeb "gone_age" g (qeb "kept_steps" (.ref l) [])
theorem qry (l:Addr) (g:V):(rf l g).lookup ("kept_steps" : Str)=some (.ref l):=by
 unfold rf;rw[qac,if_neg qB1,qac,if_pos rfl]
theorem qB2 (l:Addr) (g:V):(rf l g).lookup ("gone_age" : Str)=some g:=by
 unfold rf;rw[qac,if_pos rfl]
theorem qt2 (l:Addr) (g:V) {m:Str} (h1:¬ m = "gone_age") (h2:¬ m = "kept_steps"):(rf l g).lookup m=none:=by
 unfold rf;rw[qac,if_neg h1,qac,if_neg h2]
 rfl
structure RuleAt (C:Addr) (H:Hp) (r l:Addr) (ps:List (Int×Int)) (g:Option Int):Prop where
 ob:∃ dx,H r=some (.ins C dx (rf l (gv g)))
 ls:∃ xs,H l=some (.lst xs)/\Pairs H xs ps
theorem RuleAt.same {C:Addr} {H H':Hp} {r l:Addr} {ps:List (Int×Int)} {g:Option Int} (s:Same H H') (h:RuleAt C H r l ps g):RuleAt C H' r l ps g:=
 ⟨let ⟨dx,e⟩:=h.ob;⟨dx,s _ _ e⟩,let ⟨xs,e,p⟩:=h.ls;⟨xs,s _ _ e,p.same s⟩⟩
theorem qnv {xs:List V} {v:V} (h:xs[xs.length-1]?=some v):atI xs (-1)=some v:=by
 have hl:xs.length-1<xs.length:=(List.getElem?_eq_some_iff.mp h).1;have e:ixN xs.length (-1)=some (xs.length-1):=by
  unfold ixN;rw[if_neg (by decide),if_pos (by omega)]
  congr 1;omega
 unfold atI;rw[e];exact h
theorem qDo (xs:List V):qj2 xs (some 1) none=xs.drop 1:=by
 unfold qj2;rw[HT.sIx_none,show (some (1:Int))=some ((1:Nat):Int) from rfl,HT.sIx_nat]
 by_cases h:1<=xs.length
 ·rw[Nat.min_eq_left h]
  exact List.take_of_length_le (by simp)
 ·have e:xs=[]:=by cases xs with|nil=>rfl|cons _ _=>simp at h
  subst e;rfl
def qmi:Sp:=λvs H Q _=>∃ x,vs=[x]/\((∃ i,x=.int i/\Q (.bl true) H))
def qo5:Sp:=λvs H Q _=>∃ x p,vs=[x]/\PairAt H x p/\Q (.bl true) H
def qe1:Sp:=λvs H Q _=>∃ x p,vs=[x]/\PairAt H x p/\0<=p.1/\1<=p.2/\Q .non H
inductive qcm (vs:List V) (H:Hp) (Q:VK) (E_:XK):Prop
 | mk:∀ x y p q,vs=[x,y]->PairAt H x p->PairAt H y q->1<=p.2->p.1<=q.1->q.2 % p.2=0->Q .non H->qcm vs H Q E_
inductive qdy (vs:List V) (H:Hp) (Q:VK) (E_:XK):Prop
 | mk:∀ l xs ps,vs=[.ref l]->H l=some (.lst xs)->Pairs H xs ps->Good ps->(∀ H',Same H H'->Q .non H')->qdy vs H Q E_
def qjb:Sp:=λvs H Q _=>∃ g last,vs=[gv g,.int last]/\qrw g last/\Q .non H
inductive qrz (C:Addr) (vs:List V) (H:Hp) (Q:VK) (E_:XK):Prop
 | mk:∀ r l ps g,vs=[.ref r]->RuleAt C H r l ps g->Q (gv g) H->qrz C vs H Q E_
def qu8 (K:Frag):Sp:=λvs H Q _=>∃ (a:Addr) (ns:List Int),vs=[.ref a]/\SqL K H a (ns.map V.int)/\ns.length<=63/\∀ H',Q (.bl true) H'
open PySem L2
theorem New.after {H H1 H2:Hp} {p:Addr} {o:HO} (s:Same H H1) (n:New H1 H2 p o):New H H2 p o:=⟨s.trans n.same,s.free n.fresh,n.at_⟩
def lw (ps:List (Int×Int)):Int:=(ps.getLast?.getD (0,1)).2
def eV (ps:List (Int×Int)) (g:Option Int) (d:Int):List V:=(ps.map λp=>V.int (cut d p.1 p.2)) ++ [gv (g.map λz=>cut d z (lw ps))]
def GBd (g:Option Int):Prop:=∀ z,g=some z->0<=z/\z<10 ^ 45
structure Pr (ps:List (Int×Int)) (g:Option Int):Prop where
 good:Good ps
 size:qrx ps
 gone:∀ p,ps[ps.length-1]?=some p->qrw g p.1
 gb:GBd g
theorem Pr.last {ps:List (Int×Int)} {g:Option Int} (P:Pr ps g):∃ p,ps[ps.length-1]?=some p/\lw ps=p.2:=by
 have hl:=P.good.lo;refine ⟨ps[ps.length-1]'(by omega),List.getElem?_eq_getElem _,?_⟩;unfold lw;rw[qt1 (List.getElem?_eq_getElem _)]
theorem Pairs.but {H H':Hp} {m:Addr} {o:HO} {xs:List V} {ps:List (Int×Int)} (h:Pairs H xs ps) (b:But m H H') (hm:H m=some o) (nt:∀ xs,o≠.tup xs):Pairs H' xs ps:=h.tupS (b.tup hm nt)
theorem qr0 {xs:List V}:∀ ys,(HO.lst xs)≠.tup ys:=λ_ z=>by cases z
theorem qcn {C dx:Addr} {fs:List (Str×V)}:∀ ys,(HO.ins C dx fs)≠.tup ys:=λ_ z=>by cases z
inductive qjc (C:Addr) (vs:List V) (H:Hp) (Q:VK) (E_:XK):Prop
 | mk:∀ r dx l xs ps g,vs=[.ref r,.ref l,gv g]->H r=some (.ins C dx [])->H l=some (.lst xs)->Pairs H xs ps->Good ps->(∀ p,ps[ps.length-1]?=some p->qrw g p.1)->(∀ l' H',H l'=none->RuleAt C H' r l' ps g->But r H H'->Q .non H')->qjc C vs H Q E_
inductive qkm (C:Addr) (vs:List V) (H:Hp) (Q:VK) (E_:XK):Prop
 | mk:∀ r l ps g xs,vs=[.ref r]->RuleAt C H r l ps g->H l=some (.lst xs)->(∀ p H',New H H' p (.lst xs)->Q (.ref p) H')->qkm C vs H Q E_
def qo6:Sp:=λvs H Q _=>∃ n w,vs=[.int n,.int w]/\1<=w/\w<10 ^ 45 /\ -(10 ^ 46)<=n/\n<10 ^ 46/\Q (.int (n / w*w)) H
inductive qgr (C:Addr) (vs:List V) (H:Hp) (Q:VK) (E_:XK):Prop
 | mk:∀ r l ps g d,vs=[.ref r,.int d]->RuleAt C H r l ps g->Pr ps g->Bd d->(∀ H',Same H H'->Q (gv (g.map λz=>cut d z (lw ps))) H')->qgr C vs H Q E_
inductive qgs (C:Addr) (vs:List V) (H:Hp) (Q:VK) (E_:XK):Prop
 | mk:∀ r l ps g d,vs=[.ref r,.int d]->RuleAt C H r l ps g->Pr ps g->Bd d->(∀ p H',New H H' p (.lst (eV ps g d))->Q (.ref p) H')->qgs C vs H Q E_
def dV:V->PyData
 | .int i=>.int i
 | _=>.none
def Ed (v:V):Prop:=v=.non\/∃ i,v=.int i
theorem qgt {K:Frag} {H:Hp}:∀ {vs:List V},(∀ v∈vs,Ed v)->qov K H vs (vs.map dV)
 | [],_=>.nil
 | v :: r,h=>by
  refine .cons ?_ (qgt λu hu=>h u (List.mem_cons_of_mem _ hu))
  rcases h v List.mem_cons_self with e|⟨i,e⟩
  ·subst e;exact .non
  ·subst e;exact .int i
theorem qu9:∀ vs:List V,PyData.canLayAll0 (vs.map dV)=true
 | []=>rfl
 | v :: r=>by
  have:(dV v).canLay0=true:=by cases v<;>rfl
  simp[PyData.canLayAll0,this,qu9 r]
theorem ed_lay' (vs:List V):(PyData.list (vs.map dV)).canLay0=true:=by simp[PyData.canLay0,qu9]
theorem qA1 {α β:Type} (f:α->β) (xs:List α) (i:Nat) (x:α) (h:xs[i]?=some x):(xs.take (i+1)).map f=(xs.take i).map f ++ [f x]:=by
 rw[List.take_succ,h]
 simp
open PySem L2
end TB
namespace TB
def mc (p e:Int×Int):Int:=(e.1-p.1+e.2-1) / p.2
open PySem L2
theorem qan {i:Nat} {v:V} {σ:St} {H:Hp} {K:St->Hp->Prop} (h:K (σ.set i (some v)) H):qcr i v σ H K:=h
theorem qw8 {K:Frag} {a b:Addr} {xs ys:List V} {g:TG} {tc:TT} {te:TE} {Q:VK} {σ:St} {H:Hp} (Pv:Nat->List V->Hp->Prop) (hz:xs.length<=sizeLine) (h0:Pv 0 [] H) (hl:∀ i zs H,Pv i zs H->SqL K H a xs/\SqL K H b ys/\zs.length<=i)
  (hs:∀ i x y zs H p H',xs[i]?=some x->ys[i]?=some y->New H H' p (.tup [x,y])->Pv i zs H->g (.ref p) σ H' λσ4 H4=>tc σ4 H4 λb H5=>if b=true then te σ4 H5 λv H6=>Pv (i+1) (zs ++ [v]) H6 else Pv (i+1) zs H5)
  (hd:∀ i zs H p H',i=min xs.length ys.length->Pv i zs H->New H H' p (.lst zs)->Q (.ref p) H'):qdx (Itz K a b) Q g tc te σ H:=
 qut Pv hz h0 hl (λi x y zs H p e1 e2 hn p'=>hs i x y zs H p _ e1 e2 (qax hn) p') λi zs H p e p' hp=>hd i zs H p _ e p' (qax hp)
theorem qek {lo:Int} {n:Nat} {g:TG} {tc:TT} {te:TE} {Q:VK} {σ:St} {H:Hp} (Pv:Nat->List V->Hp->Prop) (hz:n<=sizeLine) (h0:Pv 0 [] H) (hl:∀ i ys H,Pv i ys H->ys.length<=i)
  (hs:∀ i ys H,i<n->Pv i ys H->g (.int (lo+i)) σ H λσ4 H4=>tc σ4 H4 λb H5=>if b=true then te σ4 H5 λv H6=>Pv (i+1) (ys ++ [v]) H6 else Pv (i+1) ys H5)
  (hd:∀ ys H p H',Pv n ys H->New H H' p (.lst ys)->Q (.ref p) H'):qdx (Itr lo n) Q g tc te σ H:=
 qti Pv hz h0 hl hs λys H p p' hp=>hd ys H p _ p' (qax hp)
open PySem L2
end TB
namespace TB
open PySem L2
theorem qDp {c A B:Prop} [Decidable c] (hc:¬ c) (h:A):if (!decide c)=true then A else B:=by rw[decide_eq_false hc];exact qck h
def gE:V->V->V
 | .non,y=>y
 | .int i,.int j=>.int (if j>i then j else i)
 | x,_=>x
theorem zip_get {xs ys:List V} {i:Nat} {x y:V} (h1:xs[i]?=some x) (h2:ys[i]?=some y):(List.zipWith gE xs ys)[i]?=some (gE x y):=by
 rw[List.getElem?_zipWith,h1,h2]
theorem qjd {α:Type} (xs:List α) (i:Nat) (x:α) (h:xs[i]?=some x):xs.take (i+1)=xs.take i ++ [x]:=by
 rw[List.take_succ,h];rfl
def qgu:Sp:=λvs H Q _=>∃ x y,vs=[x,y]/\Ed x/\Ed y/\Q (gE x y) H
inductive qh3 (C:Addr) (vs:List V) (H:Hp) (Q:VK) (E:XK):Prop
 | mk:∀ a b xs ys,vs=[.ref a,.ref b]->H a=some (.lst xs)->H b=some (.lst ys)->(∀ v∈xs,Ed v)->(∀ v∈ys,Ed v)->xs.length<=1000->(xs.length=ys.length->∀ p H',New H H' p (.lst (List.zipWith gE xs ys))->Q (.ref p) H')->(xs.length≠ys.length->E (.ref C) none H)->qh3 C vs H Q E
theorem qB3 (g:Option Int):Ed (gv g):=by cases g with
 | none=>exact .inl rfl
 | some z=>exact .inr ⟨z,rfl⟩
def qCo (v:V):Bool:=!decide (v=V.non)
open PySem L2
def EB (x:Int):Prop:=-(4*10 ^ 45)<x/\x<4*10 ^ 45
structure EdS (EV:List V) (es:List Int) (ge:Option Int):Prop where
 eq:EV=es.map V.int ++ [gv ge]
 bd:∀ x∈es,EB x
 gb:∀ z,ge=some z->EB z
theorem EdS.ed {EV:List V} {es:List Int} {ge:Option Int} (h:EdS EV es ge):∀ v∈EV,Ed v:=by
 intro v hv;rw[h.eq] at hv
 rcases List.mem_append.mp hv with z|z
 ·obtain ⟨i,_,e⟩:=List.mem_map.mp z;exact .inr ⟨i,e.symm⟩
 ·rw[List.mem_singleton.mp z];exact qB3 ge
theorem EdS.of {ps:List (Int×Int)} {g:Option Int} {d:Int} (P:Pr ps g) (hd:Bd d):EdS (eV ps g d) (ps.map λp=>cut d p.1 p.2) (g.map λz=>cut d z (lw ps)):=by
 refine ⟨by unfold eV;rw[List.map_map];rfl,λx hx=>?_,λz hz=>?_⟩
 ·obtain ⟨p,hp,rfl⟩:=List.mem_map.mp hx
  obtain ⟨i,hi,e⟩:=List.getElem_of_mem hp;have hs:=P.size i p (by rw[<- e];exact List.getElem?_eq_getElem hi);exact qu7 hd hs.1 hs.2.1 hs.2.2.1 hs.2.2.2
 ·cases g with
  | none=>cases hz
  | some y =>
   cases hz;obtain ⟨p,hp,ep⟩:=P.last;have hs:=P.size _ p hp;have hg:=P.gb y rfl;rw[ep];exact qu7 hd hg.1 hg.2 hs.2.2.1 hs.2.2.2
def qw9:Option Int->Option Int->Option Int
 | none,y=>y
 | some i,some j=>some (if j>i then j else i)
 | x,none=>x
theorem qB4 (x y:Option Int):gE (gv x) (gv y)=gv (qw9 x y):=by cases x<;>cases y<;>rfl
theorem EdS.max {E1 E2:List V} {a b:List Int} {g1 g2:Option Int} (h1:EdS E1 a g1) (h2:EdS E2 b g2) (hl:a.length=b.length):EdS (List.zipWith gE E1 E2) (List.zipWith (λi j=>if j>i then j else i) a b) (qw9 g1 g2):=by
 refine ⟨?_,λx hx=>?_,λz hz=>?_⟩
 ·rw[h1.eq,h2.eq,List.zipWith_append (by simpa using hl)]
  congr 1
  ·rw[List.zipWith_map_left,List.zipWith_map_right,List.map_zipWith];rfl
  ·show [gE (gv g1) (gv g2)]=_
   rw[qB4]
 ·obtain ⟨i,hi,e⟩:=List.getElem_of_mem hx
  have hi':=hi;rw[List.length_zipWith] at hi';have hia:i<a.length:=by omega
  have hib:i<b.length:=by omega
  rw[List.getElem_zipWith] at e;have e1:=h1.bd a[i] (List.getElem_mem _);have e2:=h2.bd b[i] (List.getElem_mem _);rw[<- e]
  split
  ·exact e2
  ·exact e1
 ·cases g1 with
  | none=>exact h2.gb z hz
  | some i =>
   cases g2 with
   | none=>exact h1.gb z hz
   | some j =>
    have e1:=h1.gb i rfl;have e2:=h2.gb j rfl;simp only[qw9,Option.some.injEq] at hz;rw[<- hz]
    split
    ·exact e2
    ·exact e1
def wl (ws es:List Int) (t:Int):List Int:=((ws.zip es).filter λx=>decide (t<x.2)).map (·.1)
def qel (ge:Option Int) (t:Int):Prop:=∃ z,ge=some z/\t<z
def CellOf (ws es:List Int) (ge:Option Int) (t:Int) (o:Option (Int×Int)):Prop:=
 (∀ e0,es[0]?=some e0->(e0<=t->o=some (t,0))/\(t<e0->(qel ge t->o=none)/\(¬ qel ge t->∃ w,(wl ws es t)[(wl ws es t).length-1]?=some w/\o=some (t / w*w,w))))
theorem qzp {ws es:List Int} {t w0 e0:Int} (h1:ws[0]?=some w0) (h2:es[0]?=some e0) (h:t<e0):1<=(wl ws es t).length:=by
 cases ws with
 | nil=>simp at h1
 | cons w r =>
  cases es with
  | nil=>simp at h2
  | cons e s =>
   simp at h2
   subst h2;unfold wl;rw[List.zip_cons_cons,List.filter_cons_of_pos (by simpa using h)]
   simp
theorem qr1 {ws es:List Int} {t w:Int} (h:w∈wl ws es t):w∈ws:=by
 unfold wl at h;obtain ⟨x,hx,rfl⟩:=List.mem_map.mp h;exact (List.of_mem_zip (List.mem_filter.mp hx).1).1
theorem qCp {ws es:List Int} {t:Int} {i:Nat} {w e:Int} (h1:ws[i]?=some w) (h2:es[i]?=some e) (h:t<e):((((ws.zip es).take (i+1)).filter λx=>decide (t<x.2)).map (·.1))=((((ws.zip es).take i).filter λx=>decide (t<x.2)).map (·.1)) ++ [w]:=by
 have hz:(ws.zip es)[i]?=some (w,e):=by rw[List.getElem?_zip_eq_some];exact ⟨h1,h2⟩
 rw[qjd _ i _ hz,List.filter_append,List.map_append]
 simp[h]
theorem qCq {ws es:List Int} {t:Int} {i:Nat} {w e:Int} (h1:ws[i]?=some w) (h2:es[i]?=some e) (h:¬ t<e):((((ws.zip es).take (i+1)).filter λx=>decide (t<x.2)).map (·.1))=((((ws.zip es).take i).filter λx=>decide (t<x.2)).map (·.1)):=by
 have hz:(ws.zip es)[i]?=some (w,e):=by rw[List.getElem?_zip_eq_some];exact ⟨h1,h2⟩
 rw[qjd _ i _ hz,List.filter_append,List.map_append]
 simp[h]
theorem qva {ws es:List Int} {t:Int} {i:Nat} (h:(ws.zip es).length<=i):((((ws.zip es).take i).filter λx=>decide (t<x.2)).map (·.1))=wl ws es t:=by
 rw[List.take_of_length_le h];rfl
theorem qvb (ws es:List Int) (t:Int) (i:Nat):((((ws.zip es).take i).filter λx=>decide (t<x.2)).map (·.1)).length<=i:=by
 rw[List.length_map];exact Nat.le_trans (List.length_filter_le _ _) (by rw[List.length_take];omega)
def qvc (H:Hp) (v:V) (o:Option (Int×Int)):Prop:=match o with
 | none=>v=.non
 | some p=>PairAt H v p
theorem CellOf.uniq {ws es:List Int} {ge:Option Int} {t:Int} {o o':Option (Int×Int)} {e0:Int} (h0:es[0]?=some e0) (h:CellOf ws es ge t o) (h':CellOf ws es ge t o'):o=o':=by
 obtain ⟨a1,a2⟩:=h e0 h0;obtain ⟨b1,b2⟩:=h' e0 h0
 by_cases hc:e0<=t
 ·rw[a1 hc,b1 hc]
 ·have hlt:t<e0:=by omega
  by_cases hg:qel ge t
  ·rw[(a2 hlt).1 hg,(b2 hlt).1 hg]
  ·obtain ⟨w,hw,rfl⟩:=(a2 hlt).2 hg
   obtain ⟨w',hw',rfl⟩:=(b2 hlt).2 hg;rw[hw] at hw'
   cases hw'
   rfl
inductive qh4 (vs:List V) (H:Hp) (Q:VK) (E_:XK):Prop
 | mk:∀ (e:Addr) (es:List Int) (ge:Option Int) (t:Int),vs=[.ref e,.int t]->H e=some (.lst (es.map V.int ++ [gv ge]))->(qel ge t->Q (.bl true) H)->(¬ qel ge t->Q (.bl false) H)->qh4 vs H Q E_
inductive qgv (C:Addr) (vs:List V) (H:Hp) (Q:VK) (E_:XK):Prop
 | mk:∀ (r l:Addr) (ps:List (Int×Int)) (g:Option Int) (e:Addr) (es:List Int) (ge:Option Int) (t e0:Int),vs=[.ref r,.ref e,.int t]->RuleAt C H r l ps g->H e=some (.lst (es.map V.int ++ [gv ge]))->es.length=ps.length->1<=ps.length->ps.length<=5->es[0]?=some e0->t<e0->(∀ w H',(wl (ps.map (·.2)) es t)[(wl (ps.map (·.2)) es t).length-1]?=some w->Same H H'->Q (.int w) H')->qgv C vs H Q E_
def qje (t:Int):Prop:=-(10 ^ 46)<=t/\t<10 ^ 46
inductive qh5 (C:Addr) (vs:List V) (H:Hp) (Q:VK) (E_:XK):Prop
 | mk:∀ (r l:Addr) (ps:List (Int×Int)) (g:Option Int) (e:Addr) (es:List Int) (ge:Option Int) (t:Int),vs=[.ref r,.ref e,.int t]->RuleAt C H r l ps g->H e=some (.lst (es.map V.int ++ [gv ge]))->es.length=ps.length->1<=ps.length->ps.length<=5->qrx ps->qje t->(∀ v o H',CellOf (ps.map (·.2)) es ge t o->qvc H' v o->Same H H'->Q v H')->qh5 C vs H Q E_
inductive qr2 (vs:List V) (H:Hp) (Q:VK) (E_:XK):Prop
 | mk:∀ (l:Addr) (xs:List V) (ps:List (Int×Int)) (g:Option Int) (d:Int),vs=[.ref l,gv g,.int d]->H l=some (.lst xs)->Pairs H xs ps->Pr ps g->Bd d->(∀ p H',New H H' p (.lst (eV ps g d))->Q (.ref p) H')->qr2 vs H Q E_
inductive qgw (vs:List V) (H:Hp) (Q:VK) (E_:XK):Prop
 | mk:∀ (a b:Addr) (xs ys:List V),vs=[.ref a,.ref b]->H a=some (.lst xs)->H b=some (.lst ys)->(∀ v∈xs,Ed v)->(∀ v∈ys,Ed v)->xs.length=ys.length->xs.length<=1000->(∀ p H',New H H' p (.lst (List.zipWith gE xs ys))->Q (.ref p) H')->qgw vs H Q E_
theorem CellOf.a {ws es:List Int} {ge:Option Int} {t e0:Int} (h0:es[0]?=some e0) (h:e0<=t):CellOf ws es ge t (some (t,0)):=λx hx=>by
 rw[h0] at hx;cases hx;exact ⟨λ_=>rfl,λh'=>absurd h (by omega)⟩
theorem CellOf.b {ws es:List Int} {ge:Option Int} {t e0:Int} (h0:es[0]?=some e0) (h:t<e0) (hg:qel ge t):CellOf ws es ge t none:=λx hx=>by
 rw[h0] at hx;cases hx;exact ⟨λh'=>absurd h (by omega),λ_=>⟨λ_=>rfl,λn=>absurd hg n⟩⟩
theorem CellOf.c {ws es:List Int} {ge:Option Int} {t e0 w:Int} (h0:es[0]?=some e0) (h:t<e0) (hg:¬ qel ge t) (hw:(wl ws es t)[(wl ws es t).length-1]?=some w):CellOf ws es ge t (some (t / w*w,w)):=λx hx=>by
 rw[h0] at hx;cases hx;exact ⟨λh'=>absurd h (by omega),λ_=>⟨λn=>absurd n hg,λ_=>⟨w,hw,rfl⟩⟩⟩
theorem qgx {K:Frag} {H H':Hp} {a:Addr} {xs:List V} (s:Same H H') (h:SqL K H a xs):SqL K H' a xs:=by
 rcases h with (h|⟨o,h⟩)|h
 ·exact .inl (.inl (s _ _ h))
 ·exact .inl (.inr ⟨o,s _ _ h⟩)
 ·exact .inr h
theorem qkn:∀ es:List Int,(es.map V.int).filter qCo=es.map V.int
 | []=>rfl
 | e :: r=>by rw[List.map_cons,List.filter_cons_of_pos (by rfl),qkn r]
theorem known (es:List Int) (ge:Option Int):(es.map V.int ++ [gv ge]).filter qCo=(es ++ ge.toList).map V.int:=by
 rw[List.filter_append,qkn,List.map_append]
 cases ge<;>rfl
theorem qca {K:Frag} {a:Addr} {xs:List V} {g:TG} {tc:TT} {te:TE} {Q:VK} {σ:St} {H:Hp} (Pv:Nat->List V->Hp->Prop) (hz:xs.length<=sizeLine) (h0:Pv 0 [] H) (hl:∀ i ys H,Pv i ys H->SqL K H a xs/\ys.length<=i)
  (hs:∀ i x ys H,xs[i]?=some x->Pv i ys H->g x σ H λσ4 H4=>tc σ4 H4 λb H5=>if b=true then te σ4 H5 λv H6=>Pv (i+1) (ys ++ [v]) H6 else Pv (i+1) ys H5)
  (hd:∀ ys H p H',Pv xs.length ys H->New H H' p (.lst ys)->Q (.ref p) H'):qdx (Itl K a) Q g tc te σ H:=
 qqs Pv hz h0 hl hs λys H p p' hp=>hd ys H p _ p' (qax hp)
open PySem L2
def qm5 (rs:List (Int×Int)):List Int:=rs.map λp=>p.1
def qB5 (rs:List (Int×Int)):List Int:=rs.map λp=>p.2
def qB6 (rs:List (Int×Int)):List Int:=rs.map λp=>p.1*p.2
def rN (rs:List (Int×Int)):Int:=(qB5 rs).sum
def rT (rs:List (Int×Int)):Int:=(qB6 rs).sum
structure qko (rs:List (Int×Int)) (vm vt vl vg:Int):Prop where
 m:vm=rN rs
 t:vt=rT rs
 lo:vl∈qm5 rs
 lo':∀ a∈qm5 rs,vl<=a
 hi:vg∈qm5 rs
 hi':∀ a∈qm5 rs,a<=vg
def dTup (ns:List Int):PyData:=.tuple (ns.map PyData.int)
theorem qxa (ns:List Int):(dTup ns).canLay0=true:=by simp[dTup,PyData.canLay0,qkk]
theorem qxb {K:Frag} {H:Hp} {a:Addr} {ns:List Int} (h:H a=some (.tup (ns.map V.int))):Rep K H (.ref a) (dTup ns):=.tup (SqT.of h) (qkj ns)
theorem qB7 (xs:List V) (k:Nat) (h:k<=xs.length):qj2 xs none (some (k:Int))=xs.take k:=by
 unfold qj2;rw[HT.sIx_none,HT.sIx_nat,Nat.min_eq_left h]
 simp
theorem qxc (xs:List V) (k:Nat) (h:k<=xs.length):qj2 xs (some (k:Int)) none=xs.drop k:=by
 unfold qj2;rw[HT.sIx_none,HT.sIx_nat,Nat.min_eq_left h];exact List.take_of_length_le (by simp)
theorem mapN' (f:Int×Int->Int) (rs:List (Int×Int)) {i:Nat} {p:Int×Int} (h:rs[i]?=some p):((rs.take (i+1)).map f).map V.int=((rs.take i).map f).map V.int ++ [V.int (f p)]:=by
 rw[List.take_succ,h]
 simp
theorem qjf {K:Frag} {l:Addr} {xs:List V} {rs:List (Int×Int)} {te:TE} {Q:VK} {σ:St} {H:Hp} (f:Int×Int->Int) (hl:H l=some (.lst xs)) (hp:Pairs H xs rs) (hz:rs.length<=200)
  (hs:∀ p∈rs,∀ Q':VK,Q' (.int (f p)) H->te ((σ.set 0 (some (.int p.1))).set 1 (some (.int p.2))) H Q')
  (hd:∀ a H',New H H' a (.lst ((rs.map f).map V.int))->Q (.ref a) H'):qdx (Itl K l) Q (qsx K 2 (qcl (qcr 0) (qcl (qcr 1) qsw))) qBl te σ H:=by
 have hlen:=hp.length;refine qca (xs:=xs) (λi ys H2=>H2=H/\ys=((rs.take i).map f).map V.int) (Nat.le_of_lt (qam (by omega))) ⟨rfl,rfl⟩ (λi ys H2 h2=>⟨SqL.of (by rw[h2.1];exact hl),by rw[h2.2];simp;omega⟩) ?_ ?_
 ·rintro i x ys H2 hi ⟨rfl,rfl⟩
  obtain ⟨p,hpi,a,rfl,ha⟩:=hp.get hi;refine ⟨a,_,rfl,SqT.of ha,rfl,_,_,rfl,_,_,rfl,rfl,qhy (qck ?_)⟩;refine hs p (List.mem_of_getElem? hpi) _ ⟨rfl,?_⟩;rw[mapN' f rs hpi]
 ·rintro ys H2 a H' ⟨rfl,rfl⟩ n
  rw[hlen,List.take_length] at n;exact hd a H' n
inductive qkp (vs:List V) (H:Hp) (Q:VK) (E_:XK):Prop
 | mk:∀ a b m t lo hi m' t' lo' hi',vs=[.ref a,.ref b]->H a=some (.tup [.int m,.int t,.int lo,.int hi])->H b=some (.tup [.int m',.int t',.int lo',.int hi'])->(∀ p H',New H H' p (.tup [.int (m+m'),.int (t+t'),.int (if lo'<lo then lo' else lo),.int (if hi'>hi then hi' else hi)])->Q (.ref p) H')->qkp vs H Q E_
open PySem L2
def rof (ru:Addr) (day:Int) (le dy dh:Addr):List (Str×V):=qeb "cell_heaps" (.ref dh) (qeb "whole_ones" (.ref dy) (qeb "kept_edges" (.ref le) (qeb "kept_day" (.int day) (qeb "kept_rule" (.ref ru) []))))
section
variable (ru:Addr) (day:Int) (le dy dh:Addr)
theorem qzq:(rof ru day le dy dh).lookup ("kept_rule" : Str)=some (.ref ru):=by
 unfold rof;rw[qac,if_neg (by decide +kernel),qac,if_neg (by decide +kernel),qac,if_neg (by decide +kernel),qac,if_neg (by decide +kernel),qac,if_pos rfl]
theorem qvd:(rof ru day le dy dh).lookup ("kept_edges" : Str)=some (.ref le):=by
 unfold rof;rw[qac,if_neg (by decide +kernel),qac,if_neg (by decide +kernel),qac,if_pos rfl]
theorem qnw:(rof ru day le dy dh).lookup ("whole_ones" : Str)=some (.ref dy):=by
 unfold rof;rw[qac,if_neg (by decide +kernel),qac,if_pos rfl]
theorem qh6:(rof ru day le dy dh).lookup ("cell_heaps" : Str)=some (.ref dh):=by
 unfold rof;rw[qac,if_pos rfl]
theorem qnx {m:Str} (h1:¬ m = "cell_heaps") (h2:¬ m = "whole_ones") (h3:¬ m = "kept_edges") (h4:¬ m = "kept_day") (h5:¬ m = "kept_rule"):(rof ru day le dy dh).lookup m=none:=by
 unfold rof;rw[qac,if_neg h1,qac,if_neg h2,qac,if_neg h3,qac,if_neg h4,qac,if_neg h5];rfl
theorem qxd:(rof ru day le dy dh).lookup ("put" : Str)=none:=qnx _ _ _ _ _ (by decide +kernel) (by decide +kernel) (by decide +kernel) (by decide +kernel) (by decide +kernel)
theorem qt3:(rof ru day le dy dh).lookup ("pour_into_cell" : Str)=none:=qnx _ _ _ _ _ (by decide +kernel) (by decide +kernel) (by decide +kernel) (by decide +kernel) (by decide +kernel)
theorem qr3:(rof ru day le dy dh).lookup ("young" : Str)=none:=qnx _ _ _ _ _ (by decide +kernel) (by decide +kernel) (by decide +kernel) (by decide +kernel) (by decide +kernel)
theorem qr4:(rof ru day le dy dh).lookup ("heaps" : Str)=none:=qnx _ _ _ _ _ (by decide +kernel) (by decide +kernel) (by decide +kernel) (by decide +kernel) (by decide +kernel)
end
abbrev KV:=List (List Key×V)
structure qa2 where
 ru:Addr
 rl:Addr
 le:Addr
 dy:Addr
 dh:Addr
 ps:List (Int×Int)
 g:Option Int
 day:Int
 es:List Int
 ge:Option Int
 Y:KV
 Z:KV
structure RollAt (C R:Addr) (H:Hp) (ro:Addr) (D:qa2):Prop where
 ob:∃ dx,H ro=some (.ins C dx (rof D.ru D.day D.le D.dy D.dh))
 rule:RuleAt R H D.ru D.rl D.ps D.g
 ed:H D.le=some (.lst (D.es.map V.int ++ [gv D.ge]))
 yo:H D.dy=some (.dT D.Y)
 he:H D.dh=some (.dT D.Z)
 ne:D.dy≠D.dh
theorem RollAt.same {C R:Addr} {H H':Hp} {ro:Addr} {D:qa2} (s:Same H H') (h:RollAt C R H ro D):RollAt C R H' ro D:=
 ⟨let ⟨dx,e⟩:=h.ob;⟨dx,s _ _ e⟩,h.rule.same s,s _ _ h.ed,s _ _ h.yo,s _ _ h.he,h.ne⟩
theorem qzr {kvs:KV}:∀ xs,HO.dT kvs≠.tup xs:=λ_ z=>by cases z
theorem RuleAt.but2 {C:Addr} {H H':Hp} {r l a:Addr} {ps:List (Int×Int)} {g:Option Int} {o:HO} (h:RuleAt C H r l ps g) (b:But a H H') (ha:H a=some o) (nt:∀ xs,o≠.tup xs) (nl:∀ xs,o≠.lst xs) (hr:r≠a):RuleAt C H' r l ps g:=by
 obtain ⟨dx,e⟩:=h.ob;obtain ⟨xs,e2,p⟩:=h.ls;exact ⟨⟨dx,b _ _ e hr⟩,xs,b _ _ e2 (qav e2 ha (λz=>nl xs z.symm)),p.but b ha nt⟩
theorem RollAt.putY {C R:Addr} {H H':Hp} {ro:Addr} {D:qa2} {Y':KV} (A:RollAt C R H ro D) (b:But D.dy H H') (h:H' D.dy=some (.dT Y')):RollAt C R H' ro { D with Y:=Y' }:=by
 obtain ⟨dx,e⟩:=A.ob;obtain ⟨dx2,e2⟩:=A.rule.ob;exact ⟨⟨dx,b _ _ e (qav e A.yo (by intro z;cases z))⟩,A.rule.but2 b A.yo qzr (by intro xs z;cases z) (qav e2 A.yo (by intro z;cases z)),b _ _ A.ed (qav A.ed A.yo (by intro z;cases z)),h,b _ _ A.he A.ne.symm,A.ne⟩
theorem RollAt.putZ {C R:Addr} {H H':Hp} {ro:Addr} {D:qa2} {Z':KV} (A:RollAt C R H ro D) (b:But D.dh H H') (h:H' D.dh=some (.dT Z')):RollAt C R H' ro { D with Z:=Z' }:=by
 obtain ⟨dx,e⟩:=A.ob;obtain ⟨dx2,e2⟩:=A.rule.ob;exact ⟨⟨dx,b _ _ e (qav e A.he (by intro z;cases z))⟩,A.rule.but2 b A.he qzr (by intro xs z;cases z) (qav e2 A.he (by intro z;cases z)),b _ _ A.ed (qav A.ed A.he (by intro z;cases z)),b _ _ A.yo A.ne,h,A.ne⟩
def But2 (a b:Addr) (H H':Hp):Prop:=∀ c o,H c=some o->c≠a->c≠b->H' c=some o
structure qh7 (D:qa2):Prop where
 pr:Pr D.ps D.g
 es:D.es.length=D.ps.length
def qCr (ru rl le dy dh:Addr) (ps:List (Int×Int)) (g:Option Int) (day:Int):qa2:=⟨ru,rl,le,dy,dh,ps,g,day,ps.map (λp=>cut day p.1 p.2),g.map (λz=>cut day z (lw ps)),[],[]⟩
def YOk (Y:KV):Prop:=∀ k x,qbu Y k=some x->∃ n,x=V.int n
def ZOk (H:Hp) (Z:KV):Prop:=∀ k x,qbu Z k=some x->∃ (h:Addr) (m t lo hi:Int),x=.ref h/\H h=some (.tup [.int m,.int t,.int lo,.int hi])
theorem ZOk.same {H H':Hp} {Z:KV} (s:Same H H') (h:ZOk H Z):ZOk H' Z:=λk x e=>by
 obtain ⟨a,m,t,lo,hi,e1,e2⟩:=h k x e;exact ⟨a,m,t,lo,hi,e1,s _ _ e2⟩
def yv (Y:KV) (k:List Key):Int:=match qbu Y k with
 | some (.int n)=>n
 | _=>0
def kk (a b:Int):List Key:=[.inl a,.inl b]
theorem qve {Y:KV} (h:YOk Y) (k:List Key):(qbu Y k).getD (V.int 0)=V.int (yv Y k):=by
 unfold yv
 cases e:qbu Y k with
 | none=>rfl
 | some x =>
  obtain ⟨n,rfl⟩:=h k x e
  rfl
def qvf (H:Hp) (Z:KV) (k:List Key) (v m a b lo hi:Int):Prop:=
 (qbu Z k=none/\qko [(v,m)] a b lo hi)\/∃ (h0:Addr) (m0 t0 lo0 hi0 a' b' lo' hi':Int),qbu Z k=some (.ref h0)/\H h0=some (.tup [.int m0,.int t0,.int lo0,.int hi0])/\qko [(v,m)] a' b' lo' hi'/\a=m0+a'/\b=t0+b'/\lo=(if lo'<lo0 then lo' else lo0)/\hi=(if hi'>hi0 then hi' else hi0)
def Puts (H H':Hp) (D D':qa2) (o:Option (Int×Int)) (t v m:Int):Prop:=
 (o=none/\D'=D)\/(o=some (t,0)/\D'={ D with Y:=putK D.Y (kk t v) (.int (yv D.Y (kk t v)+m)) }) \/
 ∃ (s w:Int) (h:Addr) (a b lo hi:Int),o=some (s,w)/\1<=w/\D'={ D with Z:=putK D.Z (kk s w) (.ref h) }/\H' h=some (.tup [.int a,.int b,.int lo,.int hi])/\qvf H D.Z (kk s w) v m a b lo hi
theorem CellOf.some_ {ws es:List Int} {ge:Option Int} {t:Int} {p:Int×Int} (h:CellOf ws es ge t (some p)) (hl:1<=es.length) (hw:∀ w∈ws,1<=w):p=(t,0)\/1<=p.2:=by
 obtain ⟨h1,h2⟩:=h es[0] (List.getElem?_eq_getElem (by omega))
 by_cases c:es[0]<=t
 ·exact .inl (Option.some.inj (h1 c))
 ·obtain ⟨g1,g2⟩:=h2 (by omega)
  by_cases hg:qel ge t
  ·cases g1 hg
  ·obtain ⟨w,e1,e2⟩:=g2 hg
   cases e2;exact .inr (hw w (qr1 (List.mem_of_getElem? e1)))
theorem Pr.w1 {ps:List (Int×Int)} {g:Option Int} (P:Pr ps g) {w:Int} (h:w∈ps.map (·.2)):1<=w:=by
 obtain ⟨p,hp,rfl⟩:=List.mem_map.mp h;obtain ⟨i,hi,e⟩:=List.getElem_of_mem hp;exact (P.size i p (by rw[<- e];exact List.getElem?_eq_getElem hi)).2.2.1
def qpq (p:Int×Int):Prop:=(-(10 ^ 51)<p.1/\p.1<10 ^ 51)/\1<=p.2/\p.2<10 ^ 45
inductive qgy (vs:List V) (H:Hp) (Q:VK) (E_:XK):Prop
 | mk:∀ l xs rs,vs=[.ref l]->H l=some (.lst xs)->Pairs H xs rs->(∀ p∈rs,qpq p)->rs.length<=200->(rs=[]->Q .non H)->(rs≠[]->∀ a m t lo hi H',qko rs m t lo hi->New H H' a (.tup [.int m,.int t,.int lo,.int hi])->Q (.ref a) H')->qgy vs H Q E_
inductive qfj (C R:Addr) (vs:List V) (H:Hp) (Q:VK) (E_:XK):Prop
 | mk:∀ (ro dx ru rl:Addr) (ps:List (Int×Int)) (g:Option Int) (day:Int),vs=[.ref ro,.ref ru,.int day]->H ro=some (.ins C dx [])->RuleAt R H ru rl ps g->Pr ps g->Bd day->(∀ le dy dh H',H le=none->H dy=none->H dh=none->RollAt C R H' ro (qCr ru rl le dy dh ps g day)->But ro H H'->Q .non H')->qfj C R vs H Q E_
inductive qe2 (C R N:Addr) (vs:List V) (H:Hp) (Q:VK) (E:XK):Prop
 | mk:∀ (ro:Addr) (D:qa2) (t v m:Int),vs=[.ref ro,.int t,.int v,.int m]->RollAt C R H ro D->qh7 D->qje t->(1<=m->qpq (v,m))->YOk D.Y->ZOk H D.Z->D.Y.length<=900->D.Z.length<=900->(m<1->E (.ref N) none H)->(1<=m->∀ o,CellOf (D.ps.map (·.2)) D.es D.ge t o->∀ D' H',Puts H H' D D' o t v m->RollAt C R H' ro D'->But2 D.dy D.dh H H'->Q (.bl o.isSome) H')->qe2 C R N vs H Q E
def TupAt (H:Hp) (v:V) (r:List Int):Prop:=∃ a,v=.ref a/\H a=some (.tup (r.map V.int))
def Tups (H:Hp) (xs:List V) (rs:List (List Int)):Prop:=Paired (TupAt H) xs rs
theorem TupAt.same {H H':Hp} (s:Same H H') {v:V} {r:List Int}:TupAt H v r->TupAt H' v r:=fun ⟨a,e,h⟩=>⟨a,e,s _ _ h⟩
theorem Tups.same {H H':Hp} (s:Same H H'):∀ {xs:List V} {rs:List (List Int)},Tups H xs rs->Tups H' xs rs
 | _,_,.nil=>.nil
 | _,_,.cons r t=>.cons (r.same s) (Tups.same s t)
theorem Tups.length {H:Hp}:∀ {xs:List V} {rs:List (List Int)},Tups H xs rs->xs.length=rs.length
 | _,_,.nil=>rfl
 | _,_,.cons _ t=>by simp[Tups.length t]
theorem Tups.get {H:Hp}:∀ {xs:List V} {rs:List (List Int)} {i:Nat} {x:V},Tups H xs rs->xs[i]?=some x->∃ r,rs[i]?=some r/\TupAt H x r
 | _,_,_,_,.nil,e=>by simp at e
 | _,_,0,_,.cons r _,e=>by simp at e;subst e;exact ⟨_,rfl,r⟩
 | _,_,i+1,x,.cons _ t,e=>by
  obtain ⟨u,h1,h2⟩:=Tups.get (i:=i) (x:=x) t (by simpa using e);exact ⟨u,by simpa using h1,h2⟩
def qkq (rs:List (List Int)):PyData:=.list (rs.map dTup)
theorem qkr:∀ rs:List (List Int),PyData.canLayAll0 (rs.map dTup)=true
 | []=>rfl
 | r :: t=>by simp[PyData.canLayAll0,qxa,qkr t]
theorem qny (rs:List (List Int)):(qkq rs).canLay0=true:=by simp[qkq,PyData.canLay0,qkr]
theorem qgz:∀ rs:List (List Int),PyData.depthAll (rs.map dTup)<=1
 | []=>by simp[PyData.depthAll]
 | r :: t=>by
  have:=qgz t
  simp[PyData.depthAll,dTup,PyData.depth,qkl]
  omega
theorem Tups.reps {K:Frag} {H:Hp}:∀ {xs:List V} {rs:List (List Int)},Tups H xs rs->qov K H xs (rs.map dTup)
 | _,_,.nil=>.nil
 | _,_,.cons ⟨a,e,h⟩ t=>by
  subst e;exact .cons (qxb h) (Tups.reps t)
theorem Tups.rep {K:Frag} {H:Hp} {l:Addr} {xs:List V} {rs:List (List Int)} (h:H l=some (.lst xs)) (r:Tups H xs rs):Rep K H (.ref l) (qkq rs):=.lst (SqL.of h) r.reps
open PySem L2
abbrev HP4:=Int×Int×Int×Int
structure Abs where
 y:List Int->Option Int
 z:List Int->Option HP4
def mg4 (a b:HP4):HP4:=(a.1+b.1,a.2.1+b.2.1,(if b.2.2.1<a.2.2.1 then b.2.2.1 else a.2.2.1),(if b.2.2.2>a.2.2.2 then b.2.2.2 else a.2.2.2))
def qzs (v m:Int):HP4:=(m,v*m,v,v)
def qxe {α:Type} (f:List Int->Option α) (k:List Int) (x:α):List Int->Option α:=λj=>if j=k then some x else f j
theorem qg0 {α:Type} (f:List Int->Option α) (k:List Int) (x:α):qxe f k x k=some x:=if_pos rfl
theorem qmj {α:Type} (f:List Int->Option α) {k j:List Int} (x:α) (h:j≠k):qxe f k x j=f j:=if_neg h
def qr5 (o:Option HP4) (b:HP4):HP4:=match o with
 | none=>b
 | some a=>mg4 a b
theorem qDq {a b:HP4} (h1:a.1=b.1) (h2:a.2.1=b.2.1) (h3:a.2.2.1=b.2.2.1) (h4:a.2.2.2=b.2.2.2):a=b:=by
 obtain ⟨_,_,_,_⟩:=a;obtain ⟨_,_,_,_⟩:=b
 simp at h1 h2 h3 h4
 simp[h1,h2,h3,h4]
abbrev Rd3:=Int×Int×Int
def qx4 (cell:Int->Option (Int×Int)) (s:Abs) (r:Rd3):Abs:=match cell r.1 with
 | none=>s
 | some (a,w)=>if w=0 then { s with y:=qxe s.y [r.1,r.2.1] ((s.y [r.1,r.2.1]).getD 0+r.2.2) } else { s with z:=qxe s.z [a,w] (qr5 (s.z [a,w]) (qzs r.2.1 r.2.2)) }
def qCs:Abs:=⟨λ_=>none,λ_=>none⟩
def qdh (cell:Int->Option (Int×Int)) (rs:List Rd3):Abs:=rs.foldl (qx4 cell) qCs
theorem qh8 (cell:Int->Option (Int×Int)) (rs:List Rd3) (r:Rd3):qdh cell (rs ++ [r])=qx4 cell (qdh cell rs) r:=by
 unfold qdh;rw[List.foldl_append];rfl
structure SKeys {α:Type} (f:List Int->Option α) (ms:List (List Int)):Prop where
 srt:ms.Pairwise (λk l=>blt k l=true)
 mem:∀ k,k∈ms↔f k≠none
theorem qf5 {k l:List Int} (h1:blt k l=true) (h2:blt l k=true):False:=by
 have:=qh2 k l k h1 h2;rw[qez] at this;cases this
theorem SKeys.uniq {α:Type} {f:List Int->Option α} {ms ms':List (List Int)} (a:SKeys f ms) (b:SKeys f ms'):ms=ms':=by
 have nd:∀ {l:List (List Int)},l.Pairwise (λk l=>blt k l=true)->l.Nodup:=λh=>h.imp fun {k l} hb e=>by rw[e,qez] at hb;cases hb
 refine List.Perm.eq_of_pairwise (le:=λk l=>blt k l=true) (λk l _ _ h1 h2=>(qf5 h1 h2).elim) a.srt b.srt ?_;rw[List.perm_ext_iff_of_nodup (nd a.srt) (nd b.srt)];intro k;rw[a.mem,b.mem]
def kI (k:List Int):List Key:=k.map Sum.inl
theorem qh9 {k l:List Int} (h:kI k=kI l):k=l:=by
 induction k generalizing l with
 | nil=>cases l with
  | nil=>rfl
  | cons _ _=>cases h
 | cons a r ih=>cases l with
  | nil=>cases h
  | cons b t =>
   unfold kI at h;rw[List.map_cons,List.map_cons] at h;injection h with h1 h2
   injection h1 with h1
   rw[h1,ih h2]
theorem qt4 (k:List Int):(kI k).map kV=k.map V.int:=by
 unfold kI;rw[List.map_map];rfl
theorem qnz (kvs:KV) (k:List Key) (v:V):(k∈kvs.map (·.1)->(putK kvs k v).map (·.1)=kvs.map (·.1))/\(k ∉ kvs.map (·.1)->(putK kvs k v).map (·.1)=kvs.map (·.1) ++ [k]):=by
 unfold putK
 by_cases h:(kvs.any λkv=>decide (kv.1=k))=true
 ·have hm:k∈kvs.map (·.1):=by
   obtain ⟨x,hx,e⟩:=List.any_eq_true.mp h;exact List.mem_map.mpr ⟨x,hx,by simpa using e⟩
  refine ⟨λ_=>?_,λn=>absurd hm n⟩;rw[if_pos h,List.map_map]
  apply List.map_congr_left
  intro x hx
  show (if x.1=k then (x.1,v) else x).1=x.1
  split<;>rfl
 ·have hm:k ∉ kvs.map (·.1):=λhm=>h (by
   obtain ⟨x,hx,e⟩:=List.mem_map.mp hm;exact List.any_eq_true.mpr ⟨x,hx,by simpa using e⟩)
  refine ⟨λn=>absurd n hm,λ_=>?_⟩;rw[if_neg h,List.map_append];rfl
theorem valV_mem {kvs:KV} {k:List Key}:qbu kvs k≠none↔k∈kvs.map (·.1):=by
 unfold qbu
 constructor
 ·intro h
  cases e:kvs.find? λkv=>decide (kv.1=k) with
  | none=>rw[e] at h;exact absurd rfl h
  | some x =>
   have:=List.find?_some e;exact List.mem_map.mpr ⟨x,List.mem_of_find?_eq_some e,by simpa using this⟩
 ·intro h z
  obtain ⟨x,hx,e⟩:=List.mem_map.mp h;rw[Option.map_eq_none_iff,List.find?_eq_none] at z;exact z x hx (by simpa using e)
structure DKeys (kvs:KV) (ks:List (List Int)):Prop where
 eq:kvs.map (·.1)=ks.map kI
 nd:ks.Nodup
 ne:∀ k∈ks,k.length=2
theorem DKeys.nil:DKeys [] []:=⟨rfl,.nil,λk h=>by cases h⟩
theorem DKeys.put {kvs:KV} {ks:List (List Int)} (h:DKeys kvs ks) (k:List Int) (hk:k.length=2) (v:V):∃ ks',DKeys (putK kvs (kI k) v) ks'/\∀ j,j∈ks'↔j∈ks\/j=k:=by
 have hm:kI k∈kvs.map (·.1)↔k∈ks:=by
  rw[h.eq]
  constructor
  ·intro z
   obtain ⟨j,hj,e⟩:=List.mem_map.mp z;rw[<- qh9 e];exact hj
  ·exact λz=>List.mem_map.mpr ⟨k,z,rfl⟩
 by_cases hin:k∈ks
 ·refine ⟨ks,⟨by rw[(qnz _ _ _).1 (hm.mpr hin)];exact h.eq,h.nd,h.ne⟩,λj=>⟨.inl,λz=>z.elim id λe=>by rw[e];exact hin⟩⟩
 ·refine ⟨ks ++ [k],⟨by rw[(qnz _ _ _).2 (λz=>hin (hm.mp z)),h.eq,List.map_append];rfl,?_,?_⟩,λj=>by simp⟩
  ·rw[List.nodup_append]
   exact ⟨h.nd,List.pairwise_singleton _ _,λa ha b hb e=>by
    rw[List.mem_singleton.mp hb] at e;exact hin (by rw[<- e];exact ha)⟩
  ·intro j hj
   rcases List.mem_append.mp hj with z|z
   ·exact h.ne j z
   ·rw[List.mem_singleton.mp z];exact hk
theorem DKeys.ne' {kvs:KV} {ks:List (List Int)} (h:DKeys kvs ks):∀ k∈ks,k≠[]:=λk hk z=>by
 have:=h.ne k hk;rw[z] at this;cases this
theorem DKeys.mem {kvs:KV} {ks:List (List Int)} (h:DKeys kvs ks) (k:List Int):k∈ks↔qbu kvs (kI k)≠none:=by
 rw[valV_mem,h.eq]
 constructor
 ·exact λz=>List.mem_map.mpr ⟨k,z,rfl⟩
 ·intro z
  obtain ⟨j,hj,e⟩:=List.mem_map.mp z;rw[<- qh9 e];exact hj
def v4 (h:HP4):List V:=[.int h.1,.int h.2.1,.int h.2.2.1,.int h.2.2.2]
structure RAbs (H:Hp) (D:qa2) (s:Abs) (LY LZ:List (List Int)):Prop where
 yv:∀ k,qbu D.Y (kI k)=(s.y k).map V.int
 yk:∃ ks,DKeys D.Y ks/\ks ⊆ LY
 zn:∀ k,s.z k=none->qbu D.Z (kI k)=none
 zs:∀ k h,s.z k=some h->∃ a,qbu D.Z (kI k)=some (.ref a)/\H a=some (.tup (v4 h))
 zk:∃ ks,DKeys D.Z ks/\ks ⊆ LZ
theorem RAbs.same {H H':Hp} {D:qa2} {s:Abs} {LY LZ:List (List Int)} (e:Same H H') (h:RAbs H D s LY LZ):RAbs H' D s LY LZ:=
 ⟨h.yv,h.yk,h.zn,λk x q=>(h.zs k x q).imp λ_ z=>⟨z.1,e _ _ z.2⟩,h.zk⟩
theorem RAbs.tups {H H':Hp} {D:qa2} {s:Abs} {LY LZ:List (List Int)} (e:TupS H H') (h:RAbs H D s LY LZ):RAbs H' D s LY LZ:=
 ⟨h.yv,h.yk,h.zn,λk x q=>(h.zs k x q).imp λ_ z=>⟨z.1,e _ _ z.2⟩,h.zk⟩
theorem RAbs.mono {H:Hp} {D:qa2} {s:Abs} {LY LZ LY' LZ':List (List Int)} (h:RAbs H D s LY LZ) (a:LY ⊆ LY') (b:LZ ⊆ LZ'):RAbs H D s LY' LZ':=
 ⟨h.yv,h.yk.imp λ_ z=>⟨z.1,λ_ y=>a (z.2 y)⟩,h.zn,h.zs,h.zk.imp λ_ z=>⟨z.1,λ_ y=>b (z.2 y)⟩⟩
theorem RAbs.zero {H:Hp} {D:qa2} {LY LZ:List (List Int)} (eY:D.Y=[]) (eZ:D.Z=[]):RAbs H D qCs LY LZ where
 yv:=λk=>by rw[eY];rfl
 yk:=⟨[],by rw[eY];exact DKeys.nil,λ_ z=>by cases z⟩
 zn:=λk _=>by rw[eZ];rfl
 zs:=λk x z=>by cases z
 zk:=⟨[],by rw[eZ];exact DKeys.nil,λ_ z=>by cases z⟩
theorem RAbs.yok {H:Hp} {D:qa2} {s:Abs} {LY LZ:List (List Int)} (h:RAbs H D s LY LZ):∀ k x,qbu D.Y (kI k)=some x->∃ n,x=V.int n:=λk x e=>by
 rw[h.yv] at e
 cases e2:s.y k with
 | none=>rw[e2] at e;cases e
 | some n=>rw[e2] at e;exact ⟨n,(Option.some.inj e).symm⟩
theorem qvg {kvs:KV} {ks L:List (List Int)} (h:DKeys kvs ks) (hs:ks ⊆ L):kvs.length<=L.length:=by
 have:=congrArg List.length h.eq;rw[List.length_map,List.length_map] at this;rw[this];exact List.Nodup.length_le_of_subset h.nd hs
open PySem L2
theorem qn0 {v m a b lo hi:Int} (h:qko [(v,m)] a b lo hi):a=m/\b=v*m/\lo=v/\hi=v:=by
 refine ⟨by rw[h.m];simp[rN,qB5],by rw[h.t];simp[rT,qB6],?_,?_⟩
 ·have:=h.lo;simpa [qm5] using this
 ·have:=h.hi;simpa [qm5] using this
theorem qvh {kvs:KV} {ks:List (List Int)} (h:DKeys kvs ks) {k:List Key} {x:V} (e:qbu kvs k=some x):∃ j,k=kI j:=by
 have:k∈kvs.map (·.1):=valV_mem.mp (by rw[e];simp);rw[h.eq] at this;obtain ⟨j,_,e⟩:=List.mem_map.mp this;exact ⟨j,e.symm⟩
theorem RAbs.YOk {H:Hp} {D:qa2} {s:Abs} {LY LZ:List (List Int)} (h:RAbs H D s LY LZ):YOk D.Y:=λk x e=>by
 obtain ⟨ks,d,_⟩:=h.yk;obtain ⟨j,rfl⟩:=qvh d e;exact h.yok j x e
theorem RAbs.ZOk {H:Hp} {D:qa2} {s:Abs} {LY LZ:List (List Int)} (h:RAbs H D s LY LZ):ZOk H D.Z:=λk x e=>by
 obtain ⟨ks,d,_⟩:=h.zk;obtain ⟨j,rfl⟩:=qvh d e
 cases ez:s.z j with
 | none=>rw[h.zn j ez] at e;cases e
 | some p =>
  obtain ⟨a,e1,e2⟩:=h.zs j p ez;rw[e] at e1;cases e1;exact ⟨a,p.1,p.2.1,p.2.2.1,p.2.2.2,rfl,e2⟩
theorem RAbs.ylen {H:Hp} {D:qa2} {s:Abs} {LY LZ:List (List Int)} (h:RAbs H D s LY LZ):D.Y.length<=LY.length:=by
 obtain ⟨ks,d,e⟩:=h.yk;exact qvg d e
theorem RAbs.zlen {H:Hp} {D:qa2} {s:Abs} {LY LZ:List (List Int)} (h:RAbs H D s LY LZ):D.Z.length<=LZ.length:=by
 obtain ⟨ks,d,e⟩:=h.zk;exact qvg d e
def qCt (r:Rd3):List Int:=[r.1,r.2.1]
def qx5 (cell:Int->Option (Int×Int)) (r:Rd3):List Int:=match cell r.1 with
 | none=>[]
 | some (a,w)=>[a,w]
theorem RAbs.put {H H':Hp} {D D':qa2} {o:Option (Int×Int)} {t v m:Int} {s:Abs} {LY LZ:List (List Int)} {cell:Int->Option (Int×Int)} (h:RAbs H D s LY LZ) (hp:Puts H H' D D' o t v m) (eo:cell t=o) (ts:TupS H H')
  (hy:[t,v]∈LY) (hz:∀ a w,o=some (a,w)->[a,w]∈LZ):RAbs H' D' (qx4 cell s (t,v,m)) LY LZ:=by
 have h2:=h.tups ts;unfold qx4;dsimp only
 rcases hp with ⟨rfl,rfl⟩|⟨rfl,rfl⟩|⟨a,w,b,m1,t1,lo1,hi1,rfl,hw,rfl,hb,po⟩
 ·rw[eo];exact h2
 ·rw[eo]
  dsimp only;rw[if_pos rfl];have ey:TB.yv D.Y (kk t v)=(s.y [t,v]).getD 0:=by
   unfold TB.yv;have:=h.yv [t,v];rw[show kk t v=kI [t,v] from rfl,this]
   cases s.y [t,v]<;>rfl
  refine ⟨λk=>?_,?_,h2.zn,h2.zs,h2.zk⟩
  ·show qbu (putK D.Y (kI [t,v]) _) (kI k)=(qxe s.y [t,v] ((s.y [t,v]).getD 0+m) k).map V.int
   rw[qiy,ey]
   by_cases hk:k=[t,v]
   ·subst hk;rw[if_pos rfl,qg0];rfl
   ·rw[if_neg (λz=>hk (qh9 z)),qmj _ _ hk];exact h.yv k
  ·obtain ⟨ks,d,e⟩:=h.yk
   obtain ⟨ks',d',e'⟩:=d.put [t,v] rfl (V.int (TB.yv D.Y (kk t v)+m));exact ⟨ks',d',λj hj=>(e' j).mp hj |>.elim (λz=>e z) λz=>by rw[z];exact hy⟩
 ·rw[eo]
  dsimp only;rw[if_neg (by omega)];have ev:(m1,t1,lo1,hi1)=qr5 (s.z [a,w]) (qzs v m):=by
   rcases po with ⟨p1,p2⟩|⟨h0,m0,t0,lo0,hi0,a',b',lo',hi',p1,p2,p3,rfl,rfl,rfl,rfl⟩
   ·obtain ⟨rfl,rfl,rfl,rfl⟩:=qn0 p2
    cases ez:s.z [a,w] with
    | none=>rfl
    | some q =>
     obtain ⟨_,e1,_⟩:=h.zs _ q ez;rw[show kk a w=kI [a,w] from rfl,e1] at p1;cases p1
   ·obtain ⟨rfl,rfl,rfl,rfl⟩:=qn0 p3
    cases ez:s.z [a,w] with
    | none =>
     have:=h.zn _ ez;rw[show kk a w=kI [a,w] from rfl,this] at p1;cases p1
    | some q =>
     obtain ⟨_,e1,e2⟩:=h.zs _ q ez;rw[show kk a w=kI [a,w] from rfl,e1] at p1;cases p1;rw[p2] at e2;have e3:[V.int m0,V.int t0,V.int lo0,V.int hi0]=v4 q:=by injection e2 with e2;injection e2
     unfold v4 at e3;injection e3 with c1 e3
     injection e3 with c2 e3
     injection e3 with c3 e3
     injection e3 with c4 e3
     injection c1 with c1
     injection c2 with c2
     injection c3 with c3
     injection c4 with c4
     subst c1 c2 c3 c4
     rfl
  have hb':H' b=some (.tup (v4 (qr5 (s.z [a,w]) (qzs v m)))):=by rw[<- ev];exact hb
  refine ⟨h2.yv,h2.yk,λk hk=>?_,λk q hk=>?_,?_⟩
  ·have hk:qxe s.z [a,w] (qr5 (s.z [a,w]) (qzs v m)) k=none:=hk
   show qbu (putK D.Z (kI [a,w]) _) (kI k)=_
   rw[qiy]
   by_cases hk2:k=[a,w]
   ·subst hk2;rw[qg0] at hk;cases hk
   ·rw[if_neg (λz=>hk2 (qh9 z))]
    rw[qmj _ _ hk2] at hk;exact h.zn k hk
  ·have hk:qxe s.z [a,w] (qr5 (s.z [a,w]) (qzs v m)) k=some q:=hk
   show ∃ c,qbu (putK D.Z (kI [a,w]) (.ref b)) (kI k)=some (.ref c)/\_
   rw[qiy]
   by_cases hk2:k=[a,w]
   ·subst hk2
    rw[qg0] at hk;cases hk;exact ⟨b,if_pos rfl,hb'⟩
   ·rw[qmj _ _ hk2] at hk
    rw[if_neg (λz=>hk2 (qh9 z))];exact h2.zs k q hk
  ·obtain ⟨ks,d,e⟩:=h.zk
   obtain ⟨ks',d',e'⟩:=d.put [a,w] rfl (V.ref b);exact ⟨ks',d',λj hj=>(e' j).mp hj |>.elim (λz=>e z) λz=>by rw[z];exact hz a w rfl⟩
inductive qn1 (C R:Addr) (vs:List V) (H:Hp) (Q:VK) (E_:XK):Prop
 | mk:∀ (ro:Addr) (D:qa2) (t v m:Int),vs=[.ref ro,.int t,.int v,.int m]->RollAt C R H ro D->qh7 D->qje t->1<=m->qpq (v,m)->TB.YOk D.Y->TB.ZOk H D.Z->D.Y.length<=900->D.Z.length<=900->(∀ o,CellOf (D.ps.map (·.2)) D.es D.ge t o->∀ D' H',Puts H H' D D' o t v m->RollAt C R H' ro D'->But2 D.dy D.dh H H'->Q (.bl o.isSome) H')->qn1 C R vs H Q E_
def qo7 (s:Abs) (k:List Int):List Int:=k ++ [(s.y k).getD 0]
def i4 (h:HP4):List Int:=[h.1,h.2.1,h.2.2.1,h.2.2.2]
def qo8 (s:Abs) (k:List Int):List Int:=k ++ i4 ((s.z k).getD (0,0,0,0))
inductive qg1 (C R:Addr) (vs:List V) (H:Hp) (Q:VK) (E_:XK):Prop
 | mk:∀ (ro:Addr) (D:qa2) (s:Abs) (LY LZ:List (List Int)),vs=[.ref ro]->RollAt C R H ro D->RAbs H D s LY LZ->LY.length<64->(∀ l xs ms H',Same H H'->H l=none->H' l=some (.lst xs)->SKeys s.y ms->ms.length<64->Tups H' xs (ms.map (qo7 s))->Q (.ref l) H')->qg1 C R vs H Q E_
inductive qg2 (C R:Addr) (vs:List V) (H:Hp) (Q:VK) (E_:XK):Prop
 | mk:∀ (ro:Addr) (D:qa2) (s:Abs) (LY LZ:List (List Int)),vs=[.ref ro]->RollAt C R H ro D->RAbs H D s LY LZ->LZ.length<64->(∀ l xs ms H',Same H H'->H l=none->H' l=some (.lst xs)->SKeys s.z ms->ms.length<64->Tups H' xs (ms.map (qo8 s))->Q (.ref l) H')->qg2 C R vs H Q E_
theorem Tups.snoc {H:Hp} {v:V} {r:List Int} (h:TupAt H v r):∀ {xs:List V} {rs:List (List Int)},Tups H xs rs->Tups H (xs ++ [v]) (rs ++ [r])
 | _,_,.nil=>.cons h .nil
 | _,_,.cons q t=>.cons q (Tups.snoc h t)
theorem SKeys.ofD {kvs:KV} {ks ms:List (List Int)} {α:Type} {f:List Int->Option α} (d:DKeys kvs ks) (hf:∀ k,qbu kvs (kI k)≠none↔f k≠none) (p:ms.Perm ks) (hs:ms.Pairwise (λk l=>blt k l=true)):SKeys f ms:=
 ⟨hs,λk=>by rw[p.mem_iff,d.mem,hf]⟩
open PySem L2
def l3 (r:Rd3):List Int:=[r.1,r.2.1,r.2.2]
open Classical in
noncomputable def qct (ws es:List Int) (ge:Option Int) (t:Int):Option (Int×Int):=if h:∃ o,CellOf ws es ge t o then h.choose else none
theorem qn2 {ws es:List Int} {ge:Option Int} {t:Int} {o:Option (Int×Int)} (hl:1<=es.length) (h:CellOf ws es ge t o):qct ws es ge t=o:=by
 have hx:∃ o,CellOf ws es ge t o:=⟨o,h⟩;unfold qct;rw[dif_pos hx];exact CellOf.uniq (e0:=es[0]) (List.getElem?_eq_getElem (by omega)) hx.choose_spec h
def dd (Y Z:KV):qa2:=⟨0,0,0,0,0,[],none,0,[],none,Y,Z⟩
theorem qr6:∀ {k l:List Int} (a b:List Int),k.length=l.length->blt k l=true->blt (k ++ a) (l ++ b)=true
 | [],[],_,_,_,h=>by rw[qez] at h;cases h
 | [],_ :: _,_,_,e,_=>by simp at e
 | _ :: _,[],_,_,e,_=>by simp at e
 | x :: k,y :: l,a,b,e,h=>by
  have e':k.length=l.length:=by simpa using e
  rw[List.cons_append,List.cons_append];unfold blt at h ⊢
  by_cases h1:x=y
  ·subst h1
   rw[if_pos rfl] at h ⊢;exact qr6 a b e' h
  ·rw[if_neg h1] at h ⊢
   exact h
theorem qks {ms ks:List (List Int)} {R:List (List Int)} (f:List Int->List Int) (hf:∀ k,∃ t,f k=k ++ t) (hk:∀ k∈ms,k.length=2) (sm:ms.Pairwise λk l=>blt k l=true) (pm:ms.Perm ks) (pR:R.Perm (ks.map f)) (sR:R.Pairwise λk l=>blt k l=true):R=ms.map f:=by
 have s2:(ms.map f).Pairwise λk l=>blt k l=true:=by
  rw[List.pairwise_map];refine sm.imp_of_mem fun {k l} h1 h2 hb=>?_
  obtain ⟨t,e1⟩:=hf k;obtain ⟨u,e2⟩:=hf l;rw[e1,e2];exact qr6 _ _ ((hk k h1).trans (hk l h2).symm) hb
 exact List.Perm.eq_of_pairwise (le:=λk l=>blt k l=true) (λk l _ _ h1 h2=>(qf5 h1 h2).elim) sR s2 (pR.trans (pm.map f).symm)
open PySem L2
def RR (C R:Addr) (H:Hp) (ro:Addr) (c:qa2) (s:Abs) (LY LZ:List (List Int)):Prop:=
 ∃ Y Z,RollAt C R H ro { c with Y:=Y,Z:=Z }/\RAbs H { c with Y:=Y,Z:=Z } s LY LZ
theorem RR.same {C R:Addr} {H H':Hp} {ro:Addr} {c:qa2} {s:Abs} {LY LZ:List (List Int)} (e:Same H H') (h:RR C R H ro c s LY LZ):RR C R H' ro c s LY LZ:=
 let ⟨Y,Z,a,b⟩:=h;⟨Y,Z,a.same e,b.same e⟩
theorem But2.tups {H H':Hp} {a b:Addr} {Y Z:KV} (h:But2 a b H H') (ha:H a=some (.dT Y)) (hb:H b=some (.dT Z)):TupS H H':=λx xs e =>
 h x _ e (qav e ha (by intro z;cases z)) (qav e hb (by intro z;cases z))
theorem But2.keep {H H':Hp} {a b:Addr} {Y Z:KV} (h:But2 a b H H') (ha:H a=some (.dT Y)) (hb:H b=some (.dT Z)) {x:Addr} {o:HO} (e:H x=some o) (n:∀ K,o≠.dT K):H' x=some o:=
 h x _ e (qav e ha (n _)) (qav e hb (n _))
theorem RuleAt.keep2 {C:Addr} {H H':Hp} {r l a b:Addr} {ps:List (Int×Int)} {g:Option Int} {Y Z:KV} (h:RuleAt C H r l ps g) (e:But2 a b H H') (ha:H a=some (.dT Y)) (hb:H b=some (.dT Z)):RuleAt C H' r l ps g:=by
 obtain ⟨dx,e1⟩:=h.ob;obtain ⟨xs,e2,p⟩:=h.ls;exact ⟨⟨dx,e.keep ha hb e1 (by intro K z;cases z)⟩,xs,e.keep ha hb e2 (by intro K z;cases z),p.tupS (e.tups ha hb)⟩
theorem RR.frame {C R:Addr} {H H':Hp} {ro:Addr} {c:qa2} {s:Abs} {LY LZ:List (List Int)} {a b:Addr} {Y Z:KV} (h:RR C R H ro c s LY LZ) (e:But2 a b H H') (ha:H a=some (.dT Y)) (hb:H b=some (.dT Z))
  (n1:c.dy≠a) (n2:c.dy≠b) (n3:c.dh≠a) (n4:c.dh≠b):RR C R H' ro c s LY LZ:=by
 obtain ⟨Y',Z',A,B⟩:=h;obtain ⟨dx,e1⟩:=A.ob;exact ⟨Y',Z',⟨⟨dx,e.keep ha hb e1 (by intro K z;cases z)⟩,A.rule.keep2 e ha hb,e.keep ha hb A.ed (by intro K z;cases z),e _ _ A.yo n1 n2,e _ _ A.he n3 n4,A.ne⟩,B.tups (e.tups ha hb)⟩
theorem RR.dicts {C R:Addr} {H:Hp} {ro:Addr} {c:qa2} {s:Abs} {LY LZ:List (List Int)} (h:RR C R H ro c s LY LZ):(∃ Y,H c.dy=some (.dT Y))/\∃ Z,H c.dh=some (.dT Z):=
 let ⟨_,_,A,_⟩:=h;⟨⟨_,A.yo⟩,⟨_,A.he⟩⟩
theorem RR.obj {C R:Addr} {H:Hp} {ro:Addr} {c:qa2} {s:Abs} {LY LZ:List (List Int)} (h:RR C R H ro c s LY LZ):∃ dx,H ro=some (.ins C dx (rof c.ru c.day c.le c.dy c.dh)):=
 let ⟨_,_,A,_⟩:=h;A.ob
noncomputable abbrev cellD (c:qa2):Int->Option (Int×Int):=qct (c.ps.map (·.2)) c.es c.ge
theorem RR.put {C R:Addr} {H:Hp} {ro:Addr} {c:qa2} {s:Abs} {LY LZ:List (List Int)} {t v m:Int} {Q:VK} {E:XK} (h:RR C R H ro c s LY LZ) (ok:qh7 c) (hr:qje t) (h1:1<=m) (hb:qpq (v,m)) (ly:LY.length<64) (lz:LZ.length<64)
  (hy:[t,v]∈LY) (hz:∀ a w,cellD c t=some (a,w)->[a,w]∈LZ)
  (q:∀ H',RR C R H' ro c (qx4 (cellD c) s (t,v,m)) LY LZ->But2 c.dy c.dh H H'->Q (.bl (cellD c t).isSome) H'):qn1 C R [.ref ro,.int t,.int v,.int m] H Q E:=by
 obtain ⟨Y,Z,A,B⟩:=h;have hes:1<=c.es.length:=by rw[ok.es];exact ok.pr.good.lo
 refine ⟨ro,_,t,v,m,rfl,A,⟨ok.pr,ok.es⟩,hr,h1,hb,B.YOk,B.ZOk,Nat.le_trans B.ylen (by omega),Nat.le_trans B.zlen (by omega),λo hc D' H' pu A' b'=>?_⟩;have eo:cellD c t=o:=qn2 hes hc;rw[<- eo];have B':=B.put pu eo (b'.tups A.yo A.he) hy (λa w e=>hz a w (eo.trans e));refine q H' ?_ b'
 rcases pu with ⟨_,rfl⟩|⟨_,rfl⟩|⟨_,_,_,_,_,_,_,_,_,rfl,_,_⟩
 ·exact ⟨Y,Z,A',B'⟩
 ·exact ⟨_,Z,A',B'⟩
 ·exact ⟨Y,_,A',B'⟩
open Classical in
noncomputable def qd9 (s:Abs):List (List Int):=if h:∃ ms,SKeys s.y ms then h.choose.map (qo7 s) else []
open Classical in
noncomputable def qfw (s:Abs):List (List Int):=if h:∃ ms,SKeys s.z ms then h.choose.map (qo8 s) else []
theorem qjg {s:Abs} {ms:List (List Int)} (h:SKeys s.y ms):ms.map (qo7 s)=qd9 s:=by
 have hx:∃ ms,SKeys s.y ms:=⟨ms,h⟩;unfold qd9;rw[dif_pos hx,SKeys.uniq h hx.choose_spec]
theorem qjh {s:Abs} {ms:List (List Int)} (h:SKeys s.z ms):ms.map (qo8 s)=qfw s:=by
 have hx:∃ ms,SKeys s.z ms:=⟨ms,h⟩;unfold qfw;rw[dif_pos hx,SKeys.uniq h hx.choose_spec]
def qvi (rs:List (List Int)):Prop:=rs.length<=900/\∀ r∈rs,r.length<=10
theorem RR.young {C R:Addr} {H:Hp} {ro:Addr} {c:qa2} {s:Abs} {LY LZ:List (List Int)} {Q:VK} {E:XK} (h:RR C R H ro c s LY LZ) (ly:LY.length<64)
  (q:∀ l xs H',Same H H'->H l=none->H' l=some (.lst xs)->Tups H' xs (qd9 s)->qvi (qd9 s)->Q (.ref l) H'):qg1 C R [.ref ro] H Q E:=by
 obtain ⟨Y,Z,A,B⟩:=h;refine ⟨ro,_,s,LY,LZ,rfl,A,B,ly,λl xs ms H' e f hl sk hm tu=>?_⟩;rw[qjg sk] at tu;refine q l xs H' e f hl tu ?_;rw[<- qjg sk];obtain ⟨ks,dk,_⟩:=B.yk;refine ⟨by rw[List.length_map];omega,λr hr=>?_⟩;obtain ⟨k,hk,rfl⟩:=List.mem_map.mp hr;have:k∈ks:=(dk.mem k).mpr (by rw[B.yv];have:=(sk.mem k).mp hk;cases z:s.y k with|none=>exact absurd z this|some _=>simp);have:=dk.ne k this;unfold qo7;rw[List.length_append,this];simp
theorem RR.heaps {C R:Addr} {H:Hp} {ro:Addr} {c:qa2} {s:Abs} {LY LZ:List (List Int)} {Q:VK} {E:XK} (h:RR C R H ro c s LY LZ) (lz:LZ.length<64)
  (q:∀ l xs H',Same H H'->H l=none->H' l=some (.lst xs)->Tups H' xs (qfw s)->qvi (qfw s)->Q (.ref l) H'):qg2 C R [.ref ro] H Q E:=by
 obtain ⟨Y,Z,A,B⟩:=h;refine ⟨ro,_,s,LY,LZ,rfl,A,B,lz,λl xs ms H' e f hl sk hm tu=>?_⟩;rw[qjh sk] at tu;refine q l xs H' e f hl tu ?_;rw[<- qjh sk];obtain ⟨ks,dk,_⟩:=B.zk;refine ⟨by rw[List.length_map];omega,λr hr=>?_⟩;obtain ⟨k,hk,rfl⟩:=List.mem_map.mp hr;have:k∈ks:=(dk.mem k).mpr (by
  have:=(sk.mem k).mp hk
  cases z:s.z k with
  | none=>exact absurd z this
  | some h4=>obtain ⟨a,e1,_⟩:=B.zs k h4 z;rw[e1];simp)
 have:=dk.ne k this;unfold qo8 i4;rw[List.length_append,this];simp
theorem Tups.tupS {H H':Hp} (s:TupS H H'):∀ {xs:List V} {rs:List (List Int)},Tups H xs rs->Tups H' xs rs
 | _,_,.nil=>.nil
 | _,_,.cons ⟨a,e,h⟩ t=>.cons ⟨a,e,s _ _ h⟩ (Tups.tupS s t)
open PySem L2
def qxf (H:Hp) (Z:KV) (k:List Key) (x y:HP4):Prop:=
 (qbu Z k=none/\y=x)\/∃ (h0:Addr) (x0:HP4),qbu Z k=some (.ref h0)/\H h0=some (.tup (v4 x0))/\y=mg4 x0 x
theorem qzt {x y:HP4} (h:v4 x=v4 y):x=y:=by
 unfold v4 at h;injection h with h1 h
 injection h with h2 h
 injection h with h3 h
 injection h with h4 _
 injection h1 with h1
 injection h2 with h2
 injection h3 with h3
 injection h4 with h4
 exact qDq h1 h2 h3 h4
inductive qkt (C R:Addr) (vs:List V) (H:Hp) (Q:VK) (E_:XK):Prop
 | mk:∀ (ro:Addr) (D:qa2) (c h:Addr) (s w:Int) (x:HP4),vs=[.ref ro,.ref c,.ref h]->RollAt C R H ro D->H c=some (.tup [.int s,.int w])->H h=some (.tup (v4 x))->ZOk H D.Z->D.Z.length<=900->(∀ h2 y H',H' h2=some (.tup (v4 y))->qxf H D.Z (kk s w) x y->RollAt C R H' ro { D with Z:=putK D.Z (kk s w) (.ref h2) }->But D.dh H H'->Q .non H')->qkt C R vs H Q E_
def ApartD (c d:qa2):Prop:=c.dy≠d.dy/\c.dy≠d.dh/\c.dh≠d.dy/\c.dh≠d.dh
open PySem L2
end TB
namespace TB
open PySem L2
theorem qvj {e t w:Int} (hw:1<=w) (h:w ∣ e) (hl:e<=t):e<=t / w*w:=by
 obtain ⟨k,rfl⟩:=h;have:k<=t / w:=(Int.le_ediv_iff_mul_le (by omega)).mpr (by rw[Int.mul_comm];exact hl);rw[Int.mul_comm w k];exact Int.mul_le_mul_of_nonneg_right this (by omega)
open PySem L2
def RLt (r:Rd3):Prop:=(-(5*10 ^ 45)<=r.1/\r.1<=5*10 ^ 45)/\(-(10 ^ 51)<r.2.1/\r.2.1<10 ^ 51)/\1<=r.2.2/\r.2.2<=10 ^ 31
theorem qn3 {α:Type} {f:List Int->Option α} {ks:List (List Int)} (nd:ks.Nodup) (h:∀ k,k∈ks↔f k≠none):∃ ms,SKeys f ms/\ms.length=ks.length:=by
 have tot:∀ a b:List Int,(!blt b a || !blt a b)=true:=λa b=>by
  cases h1:blt b a<;>cases h2:blt a b<;>simp
  exact qf5 h1 h2
 have tr:∀ a b c:List Int,(!blt b a)=true->(!blt c b)=true->(!blt c a)=true:=λa b c h1 h2=>by
  simp at h1 h2 ⊢
  by_cases e1:a=b
  ·subst e1;exact h2
  ·by_cases e2:b=c
   ·subst e2;exact h1
   ·have a1:=qd8 b a (λz=>e1 z.symm) h1
    have a2:=qd8 c b (λz=>e2 z.symm) h2;have a3:=qh2 _ _ _ a1 a2
    cases h3:blt c a with
    | false=>rfl
    | true=>exact (qf5 a3 h3).elim
 have pm:=List.mergeSort_perm ks (λa b=>!blt b a);refine ⟨ks.mergeSort (λa b=>!blt b a),⟨?_,λk=>by rw[pm.mem_iff,h]⟩,pm.length_eq⟩;have srt:=List.pairwise_mergeSort tr tot ks;have nd':=pm.nodup_iff.mpr nd;rw[List.nodup_iff_pairwise_ne] at nd';refine (srt.and nd').imp fun {a b} hab=>?_
 obtain ⟨h1,h2⟩:=hab
 simp at h1
 exact qd8 b a (λz=>h2 z.symm) h1
open PySem L2
structure Fall (ws es:List Int) (ge:Option Int):Prop where
 len:ws.length=es.length
 pos:∀ (i:Nat) w,ws[i]?=some w->1<=w
 dv:∀ (i j:Nat) a b,i<=j->ws[i]?=some a->ws[j]?=some b->a ∣ b
 ml:∀ (i:Nat) w e,ws[i]?=some w->es[i]?=some e->w ∣ e
 gl:∀ (i:Nat) w z,ws[i]?=some w->ge=some z->w ∣ z
 dn:∀ (i j:Nat) a b,i<=j->es[i]?=some a->es[j]?=some b->b<=a
structure StepAt (ws es:List Int) (t:Int) (i:Nat) (w e:Int):Prop where
 gw:ws[i]?=some w
 ge:es[i]?=some e
 lt:t<e
 nx:∀ e',es[i+1]?=some e'->e'<=t
theorem qB8 {ws es:List Int} {t:Int} (h:∀ x∈es,x<=t):wl ws es t=[]:=by
 unfold wl;rw[List.filter_eq_nil_iff.mpr,List.map_nil];intro x hx;have:=h x.2 (List.of_mem_zip hx).2
 simp;omega
theorem qku:∀ {i:Nat} {ws es:List Int} {t w e:Int},(∀ (i j:Nat) a b,i<=j->es[i]?=some a->es[j]?=some b->b<=a)->StepAt ws es t i w e->(wl ws es t).getLast?=some w
 | 0,ws,es,t,w,e,F,S=>by
  cases ws with
  | nil=>have:=S.gw;simp at this
  | cons w1 wr =>
   cases es with
   | nil=>have:=S.ge;simp at this
   | cons e1 er =>
    have ew:=S.gw;have ee:=S.ge
    simp at ew ee
    subst ew;subst ee;have hr:∀ x∈er,x<=t:=λx hx=>by
     obtain ⟨k,hk,rfl⟩:=List.getElem_of_mem hx;have h0:0<er.length:=by omega
     have a:=S.nx er[0] (by simp[h0]);have b:=F 1 (k+1) er[0] er[k] (by omega) (by simp[h0]) (by simp[hk]);omega
    have e1:wl (w1 :: wr) (e1 :: er) t=w1 :: wl wr er t:=by
     unfold wl;rw[List.zip_cons_cons,List.filter_cons_of_pos (by simpa using S.lt)];rfl
    rw[e1,qB8 hr];rfl
 | i+1,ws,es,t,w,e,F,S=>by
  cases ws with
  | nil=>have:=S.gw;simp at this
  | cons w1 wr =>
   cases es with
   | nil=>have:=S.ge;simp at this
   | cons e1 er =>
    have S':StepAt wr er t i w e:=⟨by simpa using S.gw,by simpa using S.ge,S.lt,λe' h=>S.nx e' (by simpa using h)⟩;have ih:=qku (λa b x y h h1 h2=>F (a+1) (b+1) x y (by omega) (by simpa using h1) (by simpa using h2)) S';have hlt:t<e1:=by
     have:=F 0 (i+1) e1 e (by omega) (by simp) S.ge;have:=S.lt;omega
    have e2:wl (w1 :: wr) (e1 :: er) t=w1 :: wl wr er t:=by
     unfold wl;rw[List.zip_cons_cons,List.filter_cons_of_pos (by simpa using hlt)];rfl
    rw[e2,List.getLast?_cons,ih];rfl
theorem qr7:∀ {es ws:List Int} {t e0:Int},ws.length=es.length->es[0]?=some e0->t<e0->∃ i w e,StepAt ws es t i w e
 | [],ws,t,e0,_,h,_=>by simp at h
 | e1 :: er,[],t,e0,hl,_,_=>by simp at hl
 | e1 :: er,w1 :: wr,t,e0,hl,h,hlt=>by
  simp at h
  subst h
  by_cases hc:∃ e2,er[0]?=some e2/\t<e2
  ·obtain ⟨e2,he2,h2⟩:=hc
   obtain ⟨i,w,e,S⟩:=qr7 (es:=er) (ws:=wr) (by simpa using hl) he2 h2;exact ⟨i+1,w,e,by simpa using S.gw,by simpa using S.ge,S.lt,λe' h=>S.nx e' (by simpa using h)⟩
  ·refine ⟨0,w1,e1,by simp,by simp,hlt,λe' h=>?_⟩
   have h':er[0]?=some e':=by simpa using h
   by_cases z:t<e'
   ·exact absurd ⟨e',h',z⟩ hc
   ·omega
theorem qzu {w t e:Int} (hw:1<=w) (hd:w ∣ e) (h:t<e):t / w*w+w<=e:=by
 obtain ⟨k,rfl⟩:=hd;have h1:t / w<k:=Int.ediv_lt_of_lt_mul (by omega) (by rwa [Int.mul_comm] at h);have h2:=Int.mul_le_mul_of_nonneg_left (show t / w+1<=k by omega) (show 0<=w by omega);rw[Int.mul_add,Int.mul_one,Int.mul_comm w (t / w)] at h2;exact h2
theorem qxg {w:Int} (t:Int) (hw:1<=w):t / w*w<=t/\t<t / w*w+w:=by
 have a:=Int.mul_ediv_add_emod t w;have b:=Int.emod_nonneg t (show w≠0 by omega);have c:=Int.emod_lt_of_pos t (show 0<w by omega);rw[Int.mul_comm] at a;omega
theorem qn4 (t w:Int):w ∣ t / w*w:=⟨t / w,Int.mul_comm _ _⟩
theorem qB9 {w s x:Int} (hw:1<=w) (hd:w ∣ x) (h1:x<=s) (h2:s<x+w):s / w*w=x:=by
 have a:=qvj hw hd h1;have b:=qxg s hw;obtain ⟨k,rfl⟩:=hd;have c:=qzu hw (show w ∣ w*(k+1) from ⟨k+1,rfl⟩) (show s<w*(k+1) by rw[Int.mul_add,Int.mul_one];exact h2);rw[Int.mul_add,Int.mul_one] at c;omega
theorem StepAt.idx {ws es:List Int} {ge:Option Int} {t:Int} {i j:Nat} {w e w' e':Int} (F:Fall ws es ge) (S:StepAt ws es t i w e) (h:es[j]?=some e') (hlt:t<e'):j<=i:=by
 by_cases c:j<=i
 ·exact c
 ·have hl:i+1<es.length:=by have:=(List.getElem?_eq_some_iff.mp h).1;omega
  have a:=S.nx es[i+1] (List.getElem?_eq_getElem hl);have b:=F.dn (i+1) j _ e' (by omega) (List.getElem?_eq_getElem hl) h;omega
open PySem L2
theorem qxh {ws es:List Int} {ge:Option Int} {t w e e0:Int} {i:Nat} (F:Fall ws es ge) (h0:es[0]?=some e0) (S:StepAt ws es t i w e) (hg:¬ qel ge t):CellOf ws es ge t (some (t / w*w,w)):=by
 have hlt:t<e0:=by have:=F.dn 0 i e0 e (by omega) h0 S.ge;have:=S.lt;omega
 exact CellOf.c h0 hlt hg (by rw[<- List.getLast?_eq_getElem?];exact qku F.dn S)
theorem qo9 {ws es:List Int} {ge:Option Int} {t e0:Int} {o:Option (Int×Int)} (F:Fall ws es ge) (h0:es[0]?=some e0) (C:CellOf ws es ge t o) :
  (e0<=t/\o=some (t,0))\/(t<e0/\qel ge t/\o=none)\/(t<e0/\¬ qel ge t/\∃ i w e,StepAt ws es t i w e/\o=some (t / w*w,w)):=by
 by_cases hc:e0<=t
 ·exact .inl ⟨hc,C.uniq h0 (CellOf.a h0 hc)⟩
 ·have hlt:t<e0:=by omega
  by_cases hg:qel ge t
  ·exact .inr (.inl ⟨hlt,hg,C.uniq h0 (CellOf.b h0 hlt hg)⟩)
  ·obtain ⟨i,w,e,S⟩:=qr7 F.len h0 hlt
   exact .inr (.inr ⟨hlt,hg,i,w,e,S,C.uniq h0 (qxh F h0 S hg)⟩)
theorem behind {ws es:List Int} {ge:Option Int} {t w e e0:Int} {i:Nat} {o:Option (Int×Int)} (F:Fall ws es ge) (h0:es[0]?=some e0) (S:StepAt ws es t i w e) (hg:¬ qel ge t) (C:CellOf ws es ge (t / w*w+w) o):∃ p,o=some p/\p.1=t / w*w+w:=by
 have hw:=F.pos i w S.gw;have h1:=qxg t hw
 rcases qo9 F h0 C with ⟨_,rfl⟩|⟨_,⟨z,hz,h⟩,rfl⟩|⟨_,_,j,w',e',S',rfl⟩
 ·exact ⟨_,rfl,rfl⟩
 ·exact absurd ⟨z,hz,by omega⟩ hg
 ·refine ⟨_,rfl,?_⟩
  have hji:j<=i:=StepAt.idx (w':=w') (e':=e') F S S'.ge (by have:=S'.lt;omega);have hd:w' ∣ w:=F.dv j i w' w hji S'.gw S.gw;have hw':=F.pos j w' S'.gw;exact qB9 hw' (Int.dvd_add (Int.dvd_trans hd (qn4 t w)) hd) (by omega) (by omega)
structure Later (es es':List Int) (ge ge':Option Int):Prop where
 len:es'.length=es.length
 up:∀ (i:Nat) a b,es[i]?=some a->es'[i]?=some b->a<=b
 gn:∀ z,ge=some z->∃ z',ge'=some z'/\z<=z'
open PySem L2
theorem qg3 {ps:List (Int×Int)} (G:Good ps):∀ (k i:Nat) p q,ps[i]?=some p->ps[i+k]?=some q->p.1<=q.1/\p.2 ∣ q.2
 | 0,i,p,q,hp,hq=>by rw[Nat.add_zero,hp] at hq;cases hq;exact ⟨Int.le_refl _,Int.dvd_refl _⟩
 | k+1,i,p,q,hp,hq=>by
  have hl:i+k<ps.length:=by have:=(List.getElem?_eq_some_iff.mp hq).1;omega
  obtain ⟨a,b⟩:=qg3 G k i p ps[i+k] hp (List.getElem?_eq_getElem hl);obtain ⟨c,d⟩:=G.next (i+k) ps[i+k] q (List.getElem?_eq_getElem hl) (by rw[Nat.add_assoc];exact hq);exact ⟨by omega,Int.dvd_trans b (Int.dvd_of_emod_eq_zero d)⟩
theorem Fall.of {ps:List (Int×Int)} {g:Option Int} (P:Pr ps g) (d:Int):Fall (ps.map (·.2)) (ps.map λp=>cut d p.1 p.2) (g.map λz=>cut d z (lw ps)) where
 len:=by rw[List.length_map,List.length_map]
 pos:=λi w h=>by
  rw[List.getElem?_map] at h;obtain ⟨p,hp,rfl⟩:=Option.map_eq_some_iff.mp h;exact (P.good.each i p hp).2
 dv:=λi j a b hij ha hb=>by
  rw[List.getElem?_map] at ha hb;obtain ⟨p,hp,rfl⟩:=Option.map_eq_some_iff.mp ha;obtain ⟨q,hq,rfl⟩:=Option.map_eq_some_iff.mp hb;exact (qg3 P.good (j-i) i p q hp (by rw[show i+(j-i)=j by omega];exact hq)).2
 ml:=λi w e hw he=>by
  rw[List.getElem?_map] at hw he;obtain ⟨p,hp,rfl⟩:=Option.map_eq_some_iff.mp hw;rw[hp] at he;cases he;exact qn4 _ _
 gl:=λi w z hw hz=>by
  rw[List.getElem?_map] at hw;obtain ⟨p,hp,rfl⟩:=Option.map_eq_some_iff.mp hw;obtain ⟨y,rfl,rfl⟩:=Option.map_eq_some_iff.mp hz;obtain ⟨q,hq,eq⟩:=P.last;have hi:=(List.getElem?_eq_some_iff.mp hp).1;have:=(qg3 P.good (ps.length-1-i) i p q hp (by rw[show i+(ps.length-1-i)=ps.length-1 by omega];exact hq)).2;rw[eq];exact Int.dvd_trans this (qn4 _ _)
 dn:=λi j a b hij ha hb=>by
  rw[List.getElem?_map] at ha hb;obtain ⟨p,hp,rfl⟩:=Option.map_eq_some_iff.mp ha;obtain ⟨q,hq,rfl⟩:=Option.map_eq_some_iff.mp hb;obtain ⟨h1,h2⟩:=qg3 P.good (j-i) i p q hp (by rw[show i+(j-i)=j by omega];exact hq);have wp:=(P.good.each i p hp).2;have wq:=(P.good.each j q hq).2;have a:=(qxg (d-q.1) wq).1;exact qvj wp (Int.dvd_trans h2 (qn4 _ _)) (show (d-q.1) / q.2*q.2<=d-p.1 by omega)
def mx (i j:Int):Int:=if j>i then j else i
theorem qzv (i j:Int):i<=mx i j/\j<=mx i j/\(mx i j=i\/mx i j=j):=by unfold mx;split<;>omega
theorem qt5 {a b:List Int} {i:Nat} {x:Int} (h:(List.zipWith mx a b)[i]?=some x):∃ u v,a[i]?=some u/\b[i]?=some v/\x=mx u v:=by
 rw[List.getElem?_zipWith] at h
 split at h
 ·rename_i u v hu hv;exact ⟨u,v,hu,hv,(Option.some.inj h).symm⟩
 ·cases h
theorem qxi {g1 g2:Option Int} {z:Int} (h:qw9 g1 g2=some z):g1=some z\/g2=some z:=by
 cases g1 with
 | none=>exact .inr h
 | some i =>
  cases g2 with
  | none=>exact .inl h
  | some j =>
   simp only[qw9,Option.some.injEq] at h;rw[<- h]
   split
   ·exact .inr rfl
   ·exact .inl rfl
theorem Fall.max {ws a b:List Int} {g1 g2:Option Int} (F:Fall ws a g1) (G:Fall ws b g2):Fall ws (List.zipWith mx a b) (qw9 g1 g2) where
 len:=by rw[List.length_zipWith,<- F.len,<- G.len];omega
 pos:=F.pos
 dv:=F.dv
 ml:=λi w e hw he=>by
  obtain ⟨u,v,hu,hv,rfl⟩:=qt5 he
  rcases (qzv u v).2.2 with h|h
  ·rw[h];exact F.ml i w u hw hu
  ·rw[h];exact G.ml i w v hw hv
 gl:=λi w z hw hz=>by
  rcases qxi hz with h|h
  ·exact F.gl i w z hw h
  ·exact G.gl i w z hw h
 dn:=λi j x y hij hx hy=>by
  obtain ⟨u,v,hu,hv,rfl⟩:=qt5 hx;obtain ⟨u',v',hu',hv',rfl⟩:=qt5 hy;have c:=F.dn i j u u' hij hu hu';have d:=G.dn i j v v' hij hv hv';have e:=qzv u v
  rcases (qzv u' v').2.2 with h|h<;>omega
open PySem L2
end TB
namespace TB
open PySem L2
open PySem L2
theorem RR.putX {C R N:Addr} {H:Hp} {ro:Addr} {c:qa2} {s:Abs} {LY LZ:List (List Int)} {t v m:Int} {Q:VK} {E:XK} (h:RR C R H ro c s LY LZ) (ok:qh7 c) (hr:qje t) (h1:1<=m) (hb:qpq (v,m)) (ly:LY.length<64) (lz:LZ.length<64)
  (hy:[t,v]∈LY) (hz:∀ a w,cellD c t=some (a,w)->[a,w]∈LZ)
  (q:∀ H',RR C R H' ro c (qx4 (cellD c) s (t,v,m)) LY LZ->But2 c.dy c.dh H H'->Q (.bl (cellD c t).isSome) H'):qe2 C R N [.ref ro,.int t,.int v,.int m] H Q E:=by
 obtain ⟨ro',D',t',v',m',e,A,ok',ht',h1',hb',y,z,l1,l2,k⟩:=RR.put (Q:=Q) (E:=E) h ok hr h1 hb ly lz hy hz q;exact ⟨ro',D',t',v',m',e,A,ok',ht',λ_=>hb',y,z,l1,l2,λz=>absurd z (by omega),λ_=>k⟩
theorem RR.putN {C R N:Addr} {H:Hp} {ro:Addr} {c:qa2} {s:Abs} {LY LZ:List (List Int)} {t v m:Int} {Q:VK} {E:XK} (h:RR C R H ro c s LY LZ) (ok:qh7 c) (hr:qje t) (h1:m<1) (ly:LY.length<64) (lz:LZ.length<64)
  (q:E (.ref N) none H):qe2 C R N [.ref ro,.int t,.int v,.int m] H Q E:=by
 obtain ⟨Y,Z,A,B⟩:=h;exact ⟨ro,_,t,v,m,rfl,A,⟨ok.pr,ok.es⟩,hr,λz=>absurd z (by omega),B.YOk,B.ZOk,Nat.le_trans B.ylen (by omega),Nat.le_trans B.zlen (by omega),λ_=>q,λz=>absurd z (by omega)⟩
end TB
namespace TX
def sg (n:Int):List Nat:=(toString n).toList.map Char.toNat
def qA2 (x:List Nat):List Nat:=if x.take 1=[45] then x.drop 1 else x
def qxj (c:Nat):Prop:=48<=c/\c<=57
instance (c:Nat):Decidable (qxj c):=inferInstanceAs (Decidable (_/\_))
def Good (x:List Nat):Prop:=qA2 x≠[]/\(qA2 x).length<=1000/\¬ ((qA2 x).head?=some 48/\x≠[48])/\∀ c∈qA2 x,qxj c
instance (x:List Nat):Decidable (Good x):=inferInstanceAs (Decidable (_/\_/\_/\_))
end TX
namespace TX
open L2
end TX
namespace TB
open PySem L2 TX
def OddV (H:Hp) (v:V):Prop:=v=.non\/(∃ i,v=.int i)\/(∃ b,v=.bl b)\/(∃ p xs,v=.ref p/\H p=some (.tup xs))\/∃ p xs,v=.ref p/\H p=some (.lst xs)
def TextV (H:Hp) (v:V):Prop:=(∃ x,v=.str (S x)/\x.length<=3000)\/OddV H v
theorem TextV.same {H H':Hp} {v:V} (h:TextV H v) (s:Same H H'):TextV H' v:=by
 rcases h with h|h|h|h|⟨p,xs,e,h⟩|⟨p,xs,e,h⟩
 ·exact .inl h
 ·exact .inr (.inl h)
 ·exact .inr (.inr (.inl h))
 ·exact .inr (.inr (.inr (.inl h)))
 ·exact .inr (.inr (.inr (.inr (.inl ⟨p,xs,e,s _ _ h⟩))))
 ·exact .inr (.inr (.inr (.inr (.inr ⟨p,xs,e,s _ _ h⟩))))
theorem OddV.ty {K:Frag} {H:Hp} {v:V} (h:OddV H v):∃ t,TyOf K H v t/\PySem.W.kitOne K t (.type "str")=some false:=by
 rcases h with rfl|⟨i,rfl⟩|⟨b,rfl⟩|⟨p,xs,rfl,h⟩|⟨p,xs,rfl,h⟩
 ·exact ⟨_,.non,rfl⟩
 ·exact ⟨_,.int _,rfl⟩
 ·exact ⟨_,.bl _,rfl⟩
 ·exact ⟨_,.tup h,rfl⟩
 ·exact ⟨_,.lst h,rfl⟩
open PySem L2 TX
def qDr (x:List Nat):Prop:=1<=x.length/\x.length<=1000/\(x=[48]\/(x.head?≠some 48/\∀ c∈x,qxj c))
instance (x:List Nat):Decidable (qDr x):=inferInstanceAs (Decidable (_/\_/\_))
open PySem L2
abbrev tS (w:List Nat):V:=V.str (S w)
def kS (x:List Nat):Key:=Sum.inr (S x)
theorem qr8 {a b:List Nat} (h:kS a=kS b):a=b:=qre (Sum.inr.inj h)
def Ents {α:Type} (R:V->α->Prop) (kvs:List (Key×V)) (E:List (List Nat×α)):Prop:=Paired (fun (p:Key×V) (e:List Nat×α)=>p.1=kS e.1/\R p.2 e.2) kvs E
section
variable {α:Type} {R R':V->α->Prop} {kvs:List (Key×V)} {E:List (List Nat×α)}
theorem Ents.keys (h:Ents R kvs E):kvs.map (·.1)=(E.map (·.1)).map (λq=>Sum.inr (S q)):=by
 unfold Ents at h
 induction h with
 | nil=>rfl
 | cons a t ih=>rw[List.map_cons,List.map_cons,List.map_cons,ih,a.1];rfl
theorem Ents.len (h:Ents R kvs E):kvs.length=E.length:=by have:=congrArg List.length h.keys;simpa using this
theorem Ents.imp (h:Ents R kvs E) (f:∀ v a,R v a->R' v a):Ents R' kvs E:=by
 unfold Ents at h ⊢
 induction h with
 | nil=>exact .nil
 | cons a t ih=>exact .cons ⟨a.1,f _ _ a.2⟩ ih
theorem qkv (p:Key×V) (l:List (Key×V)) (k:Key):qbu (p :: l) k=if p.1=k then some p.2 else qbu l k:=by
 unfold qbu;rw[List.find?_cons]
 by_cases e:p.1=k
 ·rw[if_pos e,decide_eq_true e];rfl
 ·rw[if_neg e,decide_eq_false e]
theorem Ents.hasn (h:Ents R kvs E) {x:List Nat} (hx:x ∉ E.map (·.1)):qbu kvs (kS x)=none:=by
 unfold Ents at h
 induction h with
 | nil=>rfl
 | @cons p e ps es a t ih =>
  rw[List.map_cons,List.mem_cons,not_or] at hx;rw[qkv,if_neg (λz=>hx.1 (qr8 (z.symm.trans a.1))),ih hx.2]
theorem Ents.has (h:Ents R kvs E) {x:List Nat} (hx:x∈E.map (·.1)):∃ v a,qbu kvs (kS x)=some v/\(x,a)∈E/\R v a:=by
 unfold Ents at h
 induction h with
 | nil=>cases hx
 | @cons p e ps es a t ih =>
  rw[qkv]
  by_cases z:p.1=kS x
  ·have ex:e.1=x:=qr8 (a.1.symm.trans z)
   rw[if_pos z];exact ⟨_,e.2,rfl,by rw[<- ex];exact List.mem_cons_self,a.2⟩
  ·rw[List.map_cons,List.mem_cons] at hx
   rcases hx with e'|hx
   ·exact absurd (by rw[a.1,e']) z
   ·rw[if_neg z]
    obtain ⟨v,b,h1,h2,h3⟩:=ih hx;exact ⟨v,b,h1,List.mem_cons_of_mem _ h2,h3⟩
theorem Ents.snoc {v:V} {a:α} {x:List Nat} (r:R v a):∀ {kvs:List (Key×V)} {E:List (List Nat×α)},Ents R kvs E->Ents R (kvs ++ [(kS x,v)]) (E ++ [(x,a)])
 | _,_,.nil=>.cons ⟨rfl,r⟩ .nil
 | _,_,.cons b t=>.cons b (Ents.snoc r t)
theorem Ents.put (h:Ents R kvs E) {x:List Nat} (hx:x ∉ E.map (·.1)) {v:V} {a:α} (r:R v a):Ents R (putK kvs (kS x) v) (E ++ [(x,a)]):=by
 have e:putK kvs (kS x) v=kvs ++ [(kS x,v)]:=by
  unfold putK;rw[if_neg];intro z;obtain ⟨p,hp,hk⟩:=List.any_eq_true.mp z;have:p.1∈kvs.map (·.1):=List.mem_map.mpr ⟨p,hp,rfl⟩;rw[h.keys,of_decide_eq_true hk] at this;obtain ⟨y,hy,ey⟩:=List.mem_map.mp this;exact hx ((qr8 (show kS y=kS x from ey)) ▸ hy)
 rw[e];exact h.snoc r
end
def bof (ru:Addr) (day:Int) (le dm dr:Addr):List (Str×V):=qeb "kept_rolls" (.ref dr) (qeb "kept_marks" (.ref dm) (qeb "kept_edges" (.ref le) (qeb "kept_day" (.int day) (qeb "kept_rule" (.ref ru) []))))
section
variable (ru:Addr) (day:Int) (le dm dr:Addr)
theorem qzw:(bof ru day le dm dr).lookup ("kept_rule" : Str)=some (.ref ru):=by
 unfold bof;rw[qac,if_neg (by decide +kernel),qac,if_neg (by decide +kernel),qac,if_neg (by decide +kernel),qac,if_neg (by decide +kernel),qac,if_pos rfl]
theorem qzx:(bof ru day le dm dr).lookup ("kept_day" : Str)=some (.int day):=by
 unfold bof;rw[qac,if_neg (by decide +kernel),qac,if_neg (by decide +kernel),qac,if_neg (by decide +kernel),qac,if_pos rfl]
theorem qr9:(bof ru day le dm dr).lookup ("kept_edges" : Str)=some (.ref le):=by
 unfold bof;rw[qac,if_neg (by decide +kernel),qac,if_neg (by decide +kernel),qac,if_pos rfl]
theorem qvk:(bof ru day le dm dr).lookup ("kept_marks" : Str)=some (.ref dm):=by
 unfold bof;rw[qac,if_neg (by decide +kernel),qac,if_pos rfl]
theorem qkw:(bof ru day le dm dr).lookup ("kept_rolls" : Str)=some (.ref dr):=by
 unfold bof;rw[qac,if_pos rfl]
theorem qzy {m:Str} (h1:¬ m = "kept_rolls") (h2:¬ m = "kept_marks") (h3:¬ m = "kept_edges") (h4:¬ m = "kept_day") (h5:¬ m = "kept_rule"):(bof ru day le dm dr).lookup m=none:=by
 unfold bof;rw[qac,if_neg h1,qac,if_neg h2,qac,if_neg h3,qac,if_neg h4,qac,if_neg h5];rfl
end
theorem bno {ru:Addr} {day:Int} {le dm dr:Addr} {m:Str} (h:¬ (m = "kept_rolls" \/ m = "kept_marks" \/ m = "kept_edges" \/ m = "kept_day" \/ m = "kept_rule"):=by decide +kernel):(bof ru day le dm dr).lookup m=none:=by
 simp only[not_or] at h;exact qzy _ _ _ _ _ h.1 h.2.1 h.2.2.1 h.2.2.2.1 h.2.2.2.2
structure qc2 where
 ru:Addr
 rl:Addr
 le:Addr
 dm:Addr
 dr:Addr
 ps:List (Int×Int)
 g:Option Int
 day:Int
def TxtL (H:Hp) (v:V) (ms:List (List Nat)):Prop:=∃ a,v=.ref a/\H a=some (.lst (ms.map tS))
theorem TxtL.same {H H':Hp} {v:V} {ms:List (List Nat)} (h:TxtL H v ms) (s:Same H H'):TxtL H' v ms:=let ⟨a,e,q⟩:=h;⟨a,e,s _ _ q⟩
open PySem L2
theorem qsa:∀ {kvs:KV} {i:Nat} {k:List Key} {v:V},(kvs.map (·.1)).Nodup->kvs[i]?=some (k,v)->qbu kvs k=some v
 | [],_,_,_,_,h=>by simp at h
 | (k',v') :: t,0,k,v,_,h=>by
  simp at h
  obtain ⟨rfl,rfl⟩:=h
  simp[qbu]
 | (k',v') :: t,i+1,k,v,nd,h=>by
  have h':t[i]?=some (k,v):=by simpa using h
  rw[List.map_cons,List.nodup_cons] at nd;have hk:k'≠k:=λz=>nd.1 (by rw[z];exact List.mem_map.mpr ⟨(k,v),List.mem_of_getElem? h',rfl⟩)
  have:=qsa nd.2 h';unfold qbu at this ⊢;rw[List.find?_cons_of_neg (by simpa using hk)];exact this
theorem qt6 {ks:List (List Int)} (h:ks.Nodup):(ks.map kI).Nodup:=by
 rw[List.nodup_iff_pairwise_ne,List.pairwise_map];exact h.imp λhne e=>hne (qh9 e)
theorem qsb {α:Type} {f:List Int->Option α} {ms ks:List (List Int)} {kvs:KV} (sk:SKeys f ms) (dk:DKeys kvs ks) (h:∀ k,qbu kvs (kI k)≠none↔f k≠none):ms.Perm ks:=by
 have nd:ms.Nodup:=sk.srt.imp fun {k l} hb e=>by rw[e,qez] at hb;cases hb
 rw[List.perm_ext_iff_of_nodup nd dk.nd];intro k;rw[sk.mem,dk.mem,h]
theorem qia {ks:List (List Int)} {f:List Int->List Int} (hf:∀ k,∃ t,f k=k ++ t) (h2:∀ k∈ks,k.length=2) (nd:ks.Nodup):(ks.map f).Nodup:=by
 rw[List.nodup_iff_pairwise_ne,List.pairwise_map];refine List.Pairwise.imp_of_mem (fun {k l} hk hl hne e=>?_) nd;obtain ⟨t,e1⟩:=hf k;obtain ⟨u,e2⟩:=hf l;rw[e1,e2] at e;exact hne (List.append_inj_left e ((h2 k hk).trans (h2 l hl).symm))
theorem qkx {H H3:Hp} {d:Addr} {kvs:KV} (b:But d H H3) (h:H d=some (.dT kvs)):Same H (upd H3 d (.dT kvs)):=λx o e=>by
 by_cases hx:x=d
 ·subst hx;rw[qau,<- h];exact e
 ·rw[qao hx];exact b x o e hx
theorem qn5 (s:Abs) (k:List Int):∃ t,qo7 s k=k ++ t:=⟨_,rfl⟩
theorem qn6 (s:Abs) (k:List Int):∃ t,qo8 s k=k ++ t:=⟨_,rfl⟩
theorem TupS.frz {H:Hp} {d:Addr} {o:HO} {u:Obj} {v:HO} (h:H d=some (.frz u v)):TupS H (upd H d o):=λb xs e=>by
 rw[qao (qav e h (by intro z;cases z))];exact e
end TB
local macro_rules | `(tactic| walk_at "same") => `(tactic| first | exact L2.Same.refl _ | assumption | exact L2.New.same (by assumption) | (refine L2.qwl ?_ (by assumption); walk_at "same") | (refine L2.Same.trans ?_ (by assumption); walk_at "same"))
local macro_rules | `(tactic| walk_at "fact") => `(tactic| first | assumption | exact L2.New.at_ (by assumption) | (refine L2.qy4 (by assumption) ?_; walk_at "fact") | (refine L2.qwk (by assumption) ?_; walk_at "fact"))
local macro_rules | `(tactic| walk_at "sq") => `(tactic| first | assumption | exact L2.SqL.of (by walk_at "fact") | exact L2.SqT.of (by walk_at "fact") | exact Or.inl (L2.SqL.of (by walk_at "fact")) | exact Or.inr (L2.SqT.of (by walk_at "fact")) | exact Or.inl (by assumption) | walk_at "fact")
local macro_rules | `(tactic| walk_at "c") => `(tactic| first
 | ((with_reducible show _<=PySem.sizeLine);first|exact Nat.le_of_lt (L2.qam (Nat.le_of_ble_eq_true rfl))|exact Nat.le_of_lt (L2.qam (by omega))|exact Nat.le_of_lt (L2.qam (by simp only[List.length_map,List.length_append,List.length_cons,List.length_nil];omega)))
 | ((with_reducible show _<PySem.sizeLine);first|exact L2.qam (by omega)|exact L2.qam (by simp only[List.length_map,List.length_append,List.length_cons,List.length_nil];omega))
 | decide|omega|(dsimp only;first|decide|omega)|(simp only[List.length_map,List.length_append,List.length_cons,List.length_nil];omega)
 | ((with_reducible refine And.intro ?_ ?_)<;>walk_at "c")
 | (refine And.intro ?_ ?_<;>walk_at "c")|(refine Or.inl ?_;walk_at "c")|(refine Or.inr ?_;walk_at "c"))
local macro_rules | `(tactic| walk_at "at") => `(tactic| first | rfl | assumption | exact L2.qdc (by assumption) | exact TB.qnv (by assumption))
local macro_rules | `(tactic| walk_at "ty") => `(tactic| first | exact L2.TyOf.int _ | exact L2.TyOf.bl _ | exact L2.TyOf.non | exact L2.TyOf.str _ | exact L2.TyOf.lst (by walk_at "fact") | exact L2.TyOf.tup (by walk_at "fact"))
local macro_rules | `(tactic| walk_at "kit") => `(tactic| first | exact L2.qd7 _ | exact L2.qde _ | exact L2.qna _ | exact L2.kit_tuple _ | rfl)
local macro_rules | `(tactic| walk_at "r1") => `(tactic| first
 | refine L2.tVarS.mk _ rfl ?_
 | refine L2.rI0S.mk _ _ rfl rfl ?_
 | refine L2.rIxLS.mk _ _ _ _ rfl rfl (by walk_at "sq") (by walk_at "at") ?_
 | refine L2.rIxTS.mk _ _ _ _ rfl rfl (by walk_at "sq") (by walk_at "at") ?_
 | refine L2.rIS.mk _ _ rfl rfl (by walk_at "c") ?_
 | refine L2.tBS.mk _ rfl ?_
 | refine L2.tAndVS.mk _ rfl ?_
 | refine L2.tOrVS.mk _ rfl ?_
 | refine L2.tNotVS.mk _ rfl ?_
 | refine L2.rUS.mk _ rfl ?_
 | refine L2.tPartS.mk _ rfl ?_
 | refine L2.rSlLNS.mk _ _ rfl (by walk_at "sq") ?_
 | refine L2.rAppendNS.mk _ _ _ rfl rfl (by walk_at "fact") (by walk_at "c") ?_
 | refine Exists.intro _ (And.intro rfl ?_)
 | refine Exists.intro _ (Exists.intro _ (And.intro rfl (And.intro rfl ?_)))
 | refine And.intro rfl ?_
 | refine Exists.intro _ (Exists.intro _ (And.intro rfl (And.intro (by walk_at "sq") ?_)))
 | refine Exists.intro _ (Exists.intro _ (Exists.intro _ (Exists.intro _ (And.intro rfl (And.intro rfl (And.intro (by walk_at "sq") (And.intro (by walk_at "at") ?_)))))))
 | refine And.intro (Or.inl ⟨rfl,_,L2.SqL.of (by walk_at "fact")⟩) ?_
 | refine Exists.intro _ (Exists.intro _ (Exists.intro _ (And.intro rfl (And.intro rfl (And.intro (by walk_at "fact") (And.intro (by walk_at "c") ?_))))))
 | refine Exists.intro _ (Exists.intro _ (Exists.intro _ (Exists.intro _ (And.intro rfl (And.intro (by walk_at "ty") (And.intro (by walk_at "kit") ?_))))))
 | refine Exists.intro _ (Exists.intro _ (And.intro rfl ?_))
 | refine And.intro (by walk_at "c") ?_
 | refine L2.qck ?_
 | refine L2.qdw ?_)
local macro_rules | `(tactic| walk_at "n") => `(tactic| simp only [L2.tNil, List.cons_append, List.nil_append, List.append_nil])
local macro_rules | `(tactic| walk_at "r") => `(tactic| (walk_at "r1"; repeat walk_at "r1"))
namespace TB
open PySem L2
abbrev FG (K:Frag) (mg:Str->Option Value) (n:Str) (s:Stmt):Prop:=∃ f fd,Fun K n n s f fd/\mg n=some (.ref f)
abbrev FM (K:Frag) (C:Addr) (n q:Str) (s:Stmt):Prop:=∃ f fd,Fun K n q s f fd/\qp9 K C n f
abbrev FMd (K:Frag) (C:Addr) (n q:Str) (s:Stmt) (i:Int):Prop:=∃ f fd dT o m t,FunD K n q s (.ref dT) f fd/\qp9 K C n f/\fd.defaults=.ref dT/\K.lookup dT=some o/\o.data=.seq #[.int i t] m
abbrev FMn (K:Frag) (C:Addr) (n q:Str) (s:Stmt):Prop:=∃ f fd dT o m,FunD K n q s (.ref dT) f fd/\qp9 K C n f/\fd.defaults=.ref dT/\K.lookup dT=some o/\o.data=.seq #[.none] m
abbrev FI (K:Frag) (C:Addr) (q:Str) (s:Stmt):Prop:=∃ f fd,Fun K "__init__" q s f fd/\Mk K C f
abbrev FId (K:Frag) (C:Addr) (q:Str) (s:Stmt) (vs:Array Value):Prop:=∃ f fd dT o m,FunD K "__init__" q s (.ref dT) f fd/\Mk K C f/\fd.defaults=.ref dT/\K.lookup dT=some o/\o.data=.seq vs m
section
variable {K:Frag} {h:Heap} {mg:Str->Option Value} {n q:Str} {s:Stmt} {f dT C:Addr} {od an dd:Option Addr} {sl ds:Array (Option Value)} {oc kV dc pm cd ct dk:Value} {dn:Nat} {dt:Tok} {v:Int} {vs:Array Value}
theorem fnG (X:K.In h) (G:h.Ns mainGlobals mg) (a:nsIn K mainGlobals n=some (some (.ref f))) (l:K.lookup f=some ⟨oc,od,.func (fnOf n n (qcg s) (qbr s) (qab s) .none kV dc pm an cd ct),sl⟩) (c:codeIn K cd n=true) (k:keepIn K (.ref f)=true):FG K mg n s:=⟨f,_,qql l c k,mg_of X G a⟩
theorem fnM (a:PySem.W.findIn K (.ref C) n=some (some (.ref f))) (i:PySem.W.isFn K (.ref f)=true) (l:K.lookup f=some ⟨oc,od,.func (fnOf n q (qcg s) (qbr s) (qab s) .none kV dc pm an cd ct),sl⟩) (c:codeIn K cd q=true) (k:keepIn K (.ref f)=true):FM K C n q s:=⟨f,_,qql l c k,⟨a,i,k⟩⟩
theorem qCu (a:PySem.W.findIn K (.ref C) n=some (some (.ref f))) (i:PySem.W.isFn K (.ref f)=true) (l:K.lookup f=some ⟨oc,od,.func (fnOf n q (qcg s) (qbr s) (qab s) (.ref dT) kV dc pm an cd ct),sl⟩) (c:codeIn K cd q=true) (k:keepIn K (.ref f)=true) (d:K.lookup dT=some ⟨dk,dd,.seq #[.int v dt] dn,ds⟩):FMd K C n q s v:=⟨f,_,dT,_,_,dt,⟨⟨_,_,_,_,_,_,_,_,_,rfl,l,c⟩,k⟩,⟨a,i,k⟩,rfl,d,rfl⟩
theorem qDs (a:PySem.W.findIn K (.ref C) n=some (some (.ref f))) (i:PySem.W.isFn K (.ref f)=true) (l:K.lookup f=some ⟨oc,od,.func (fnOf n q (qcg s) (qbr s) (qab s) (.ref dT) kV dc pm an cd ct),sl⟩) (c:codeIn K cd q=true) (k:keepIn K (.ref f)=true) (d:K.lookup dT=some ⟨dk,dd,.seq #[.none] dn,ds⟩):FMn K C n q s:=⟨f,_,dT,_,_,⟨⟨_,_,_,_,_,_,_,_,_,rfl,l,c⟩,k⟩,⟨a,i,k⟩,rfl,d,rfl⟩
theorem fnI (m:PySem.W.makesIn K C=true) (kc:keepIn K (.ref C)=true) (a:PySem.W.findIn K (.ref C) "__init__" = some (some (.ref f))) (i:PySem.W.isFn K (.ref f)=true) (l:K.lookup f=some ⟨oc,od,.func (fnOf "__init__" q (qcg s) (qbr s) (qab s) .none kV dc pm an cd ct),sl⟩) (c:codeIn K cd q=true) (k:keepIn K (.ref f)=true):FI K C q s:=⟨f,_,qql l c k,⟨m,a,i,kc⟩⟩
theorem qDt (m:PySem.W.makesIn K C=true) (kc:keepIn K (.ref C)=true) (a:PySem.W.findIn K (.ref C) "__init__" = some (some (.ref f))) (i:PySem.W.isFn K (.ref f)=true) (l:K.lookup f=some ⟨oc,od,.func (fnOf "__init__" q (qcg s) (qbr s) (qab s) (.ref dT) kV dc pm an cd ct),sl⟩) (c:codeIn K cd q=true) (k:keepIn K (.ref f)=true) (d:K.lookup dT=some ⟨dk,dd,.seq vs dn,ds⟩):FId K C q s vs:=⟨f,_,dT,_,_,⟨⟨_,_,_,_,_,_,_,_,_,rfl,l,c⟩,k⟩,⟨m,a,i,kc⟩,rfl,d,rfl⟩
theorem naI (h:PySem.W.findIn K (.ref C) n=some none):NoAttr K C n:=h
theorem exI (h:PySem.W.excIn K C qyz "ValueError.__new__" = true):qwi K C:=h
theorem cI (X:K.In h) (G:h.Ns mainGlobals mg) (a:nsIn K mainGlobals n=some (some (.int v dt))):∃ t,mg n=some (.int v t):=⟨_,mg_of X G a⟩
theorem cS {x:Str} (X:K.In h) (G:h.Ns mainGlobals mg) (a:nsIn K mainGlobals n=some (some (.str x dt))):∃ t,mg n=some (.str x t):=⟨_,mg_of X G a⟩
end
theorem scp {N P:List Str} {sc:Scope} (h1:sc.kind=.function:=by rfl) (h2:sc.isCoroutine=false:=by rfl) (h3:sc.isGenerator=false:=by rfl) (h4:N.Nodup:=by decide +kernel) (h5:N.take P.length=P:=by rfl) (h6:∀ x∈P,sc.names.lookup x=some .local\/sc.names.lookup x=some .cell:=by decide +kernel) (h7:∀ y∈sc.names,y.2≠.free:=by decide +kernel):qag N P sc:=⟨h1,h2,h3,h4,h5,h6,h7⟩
def top (i:Nat):Stmt:=PySem.Challenge.pw_thinbook_k74_a_book_at_once.main.body.getD i (.Pass ⟨0,0,0,0⟩)
abbrev qib:Stmt:=(top 9)
abbrev qky:Stmt:=(top 10)
abbrev qic:Stmt:=(top 12)
abbrev qid:Stmt:=(top 13)
abbrev qdz:Stmt:=(top 14)
abbrev qkz:Stmt:=(top 15)
abbrev qk0:Stmt:=(top 16)
abbrev qie:Stmt:=(top 17)
abbrev qk1:Stmt:=(top 18)
abbrev qk2:Stmt:=(top 20)
abbrev qn7:Stmt:=(top 21)
abbrev qg4:Stmt:=(inClass (top 23) 0)
abbrev qe3:Stmt:=(inClass (top 23) 1)
abbrev qb4:Stmt:=(inClass (top 23) 2)
abbrev qfk:Stmt:=(inClass (top 23) 8)
abbrev qfl:Stmt:=(inClass (top 23) 9)
abbrev qsc:Stmt:=(top 24)
abbrev qk3:Stmt:=(top 27)
abbrev qc6:Stmt:=(top 28)
abbrev qcu:Stmt:=(top 29)
abbrev qem:Stmt:=(top 30)
abbrev qfm:Stmt:=(top 31)
abbrev qea:Stmt:=(inClass (top 32) 0)
abbrev qfn:Stmt:=(inClass (top 32) 1)
abbrev qg5:Stmt:=(inClass (top 32) 2)
abbrev qdi:Stmt:=(top 39)
abbrev qk4:Stmt:=(top 40)
abbrev qk5:Stmt:=(top 41)
abbrev qen:Stmt:=(top 44)
abbrev qg6:Stmt:=(inClass (top 45) 0)
abbrev qdj:Stmt:=(inClass (top 45) 1)
abbrev qb5:Stmt:=(inClass (top 45) 2)
abbrev qdk:Stmt:=(inClass (top 45) 3)
abbrev qe4:Stmt:=(inClass (top 45) 4)
abbrev qmk:Stmt:=(inClass (top 45) 11)
abbrev qpa:Stmt:=(inClass (top 45) 12)
abbrev qfo:Stmt:=(inClass (top 45) 13)
abbrev qfp:Stmt:=(inClass (top 45) 14)
abbrev qfq:Stmt:=(inClass (top 45) 15)
abbrev qfr:Stmt:=(top 46)
abbrev qk6:Stmt:=(top 48)
abbrev qvl:Stmt:=(top 49)
abbrev qd0:Stmt:=(top 51)
abbrev qfs:Stmt:=(top 52)
abbrev qg7:Stmt:=(top 53)
abbrev qg8:Stmt:=(top 54)
abbrev qg9:Stmt:=(top 55)
abbrev qha:Stmt:=(top 56)
abbrev qft:Stmt:=(top 57)
abbrev qhb:Stmt:=(top 58)
abbrev qdl:Stmt:=(top 59)
abbrev qfu:Stmt:=(top 60)
abbrev qd1:Stmt:=(top 61)
abbrev qcv:Stmt:=(top 62)
abbrev qhc:Stmt:=(top 63)
abbrev qhd:Stmt:=(top 64)
abbrev qif:Stmt:=(top 65)
abbrev qeo:Stmt:=(top 66)
abbrev qd2:Stmt:=(top 67)
abbrev qdm:Stmt:=(top 68)
abbrev qfv:Stmt:=(top 69)
abbrev qxk:Stmt:=(top 70)
theorem sc_is_whole:qag ["thing"] ["thing"] (qab qib):=scp
theorem sc_floored:qag ["number", "width"] ["number", "width"] (qab qky):=scp
theorem sc_gone_cut:qag ["rule", "day", "gone"] ["rule", "day"] (qab qic):=scp
theorem sc_edges_at:qag ["rule", "day", "cuts"] ["rule", "day"] (qab qid):=scp
theorem sc_greater_edge:qag ["one", "other"] ["one", "other"] (qab qdz):=scp
theorem sc_greater:qag ["one", "other"] ["one", "other"] (qab qkz):=scp
theorem sc_is_gone:qag ["edges", "time"] ["edges", "time"] (qab qk0):=scp
theorem sc_width_at:qag ["rule", "edges", "time", "widths"] ["rule", "edges", "time"] (qab qie):=scp
theorem sc_cell_at:qag ["rule", "edges", "time", "width"] ["rule", "edges", "time"] (qab qk1):=scp
theorem sc_heap_of:qag ["runs", "values", "how_many", "total"] ["runs"] (qab qk2):=scp
theorem sc_poured:qag ["one", "other"] ["one", "other"] (qab qn7):=scp
theorem sc_Roll_init:qag ["self", "rule", "day"] ["self", "rule", "day"] (qab qg4):=scp
theorem sc_Roll_put:qag ["self", "time", "value", "many", "cell"] ["self", "time", "value", "many"] (qab qe3):=scp
theorem sc_Roll_pour_into_cell:qag ["self", "cell", "heap"] ["self", "cell", "heap"] (qab qb4):=scp
theorem sc_Roll_young:qag ["self"] ["self"] (qab qfk):=scp
theorem sc_Roll_heaps:qag ["self"] ["self"] (qab qfl):=scp
theorem sc_begun:qag ["rule", "day", "edges", "roll"] ["rule", "day", "edges"] (qab qsc):=scp
theorem sc_is_step:qag ["thing"] ["thing"] (qab qk3):=scp
theorem sc_check_one_step:qag ["step"] ["step"] (qab qc6):=scp
theorem sc_check_next_step:qag ["step", "behind"] ["step", "behind"] (qab qcu):=scp
theorem sc_check_steps:qag ["steps", "step", "behind"] ["steps"] (qab qem):=scp
theorem sc_check_gone:qag ["gone", "last_age"] ["gone", "last_age"] (qab qfm):=scp
theorem sc_Rule_init:qag ["self", "steps", "gone", "kept"] ["self", "steps", "gone"] (qab qea):=scp
theorem sc_Rule_steps:qag ["self"] ["self"] (qab qfn):=scp
theorem sc_Rule_gone:qag ["self"] ["self"] (qab qg5):=scp
theorem sc_is_small_word:qag ["thing", "longest"] ["thing", "longest"] (qab qdi):=scp
theorem sc_is_name:qag ["thing"] ["thing"] (qab qk4):=scp
theorem sc_is_mark:qag ["thing"] ["thing"] (qab qk5):=scp
theorem sc_check_marks:qag ["marks"] ["marks"] (qab qen):=scp
theorem sc_Book_init:qag ["self", "rule", "day"] ["self", "rule", "day"] (qab qg6):=scp
theorem sc_Book_enrol:qag ["self", "name", "marks", "told"] ["self", "name", "marks"] (qab qdj):=scp
theorem sc_Book_check_enrolled:qag ["self", "name"] ["self", "name"] (qab qb5):=scp
theorem sc_Book_own_roll:qag ["self", "name"] ["self", "name"] (qab qdk):=scp
theorem sc_Book_put:qag ["self", "name", "time", "value", "many"] ["self", "name", "time", "value", "many"] (qab qe4):=scp
theorem sc_Book_edges:qag ["self"] ["self"] (qab qfo):=scp
theorem sc_Book_names:qag ["self"] ["self"] (qab qfp):=scp
theorem sc_Book_marks:qag ["self", "name"] ["self", "name"] (qab qfq):=scp
theorem sc_begun_book:qag ["rule", "day", "edges", "book"] ["rule", "day", "edges"] (qab qfr):=scp
theorem sc_book_of:qag ["rule", "day", "edges", "names", "readings", "new", "name", "marks", "time", "value", "many"] ["rule", "day", "edges", "names", "readings"] (qab qk6):=scp
theorem sc_told:qag ["book", "rows", "name", "roll"] ["book"] (qab qvl):=scp
theorem sc__law_cell_at:qag ["_law_script", "_law_k"] ["_law_script", "_law_k"] (qab qd0):=scp
theorem sc__law_mixed:qag ["_law_draw", "_law_k", "_law_number"] ["_law_draw", "_law_k"] (qab qfs):=scp
theorem sc__law_name:qag ["_law_draw", "_law_k", "_law_some", "_law_length", "_law_body", "_law_at"] ["_law_draw", "_law_k"] (qab qg7):=scp
theorem sc__law_mark:qag ["_law_draw", "_law_k", "_law_some", "_law_length", "_law_body", "_law_at"] ["_law_draw", "_law_k"] (qab qg8):=scp
theorem sc__law_rule:qag ["_law_draw", "_law_wide", "_law_age", "_law_width", "_law_steps", "_law_k"] ["_law_draw"] (qab qg9):=scp
theorem sc__law_time:qag ["_law_steps", "_law_gone", "_law_day", "_law_draw", "_law_last", "_law_far", "_law_back"] ["_law_steps", "_law_gone", "_law_day", "_law_draw"] (qab qha):=scp
theorem sc__law_value:qag ["_law_draw", "_law_number"] ["_law_draw"] (qab qft):=scp
theorem sc__law_many:qag ["_law_draw", "_law_number"] ["_law_draw"] (qab qhb):=scp
theorem sc__law_readings:qag ["_law_cells", "_law_names", "_law_steps", "_law_gone", "_law_day", "_law_found", "_law_draw", "_law_name_here"] ["_law_cells", "_law_names", "_law_steps", "_law_gone", "_law_day"] (qab qdl):=scp
theorem sc__law_edges:qag ["_law_steps", "_law_gone", "_law_day", "_law_found"] ["_law_steps", "_law_gone", "_law_day"] (qab qfu):=scp
theorem sc__law_greater:qag ["_law_one", "_law_other", "_law_found", "_law_here", "_law_there"] ["_law_one", "_law_other"] (qab qd1):=scp
theorem sc__law_other_ages:qag ["_law_steps", "_law_draw", "_law_wide", "_law_age", "_law_found", "_law_k"] ["_law_steps", "_law_draw"] (qab qcv):=scp
theorem sc__law_cell:qag ["_law_steps", "_law_edges_here", "_law_time_here", "_law_width"] ["_law_steps", "_law_edges_here", "_law_time_here"] (qab qhc):=scp
theorem sc__law_roll:qag ["_law_steps", "_law_edges_here", "_law_readings_here", "_law_young", "_law_heaps", "_law_time_here", "_law_value_here", "_law_many_here", "_law_here", "_law_count", "_law_total", "_law_least", "_law_greatest", "_law_rows"] ["_law_steps", "_law_edges_here", "_law_readings_here"] (qab qhd):=scp
theorem sc__law_due:qag ["_law_steps", "_law_edges_here", "_law_names", "_law_readings_here", "_law_found", "_law_name_here", "_law_marks", "_law_mine", "_law_young", "_law_heaps"] ["_law_steps", "_law_edges_here", "_law_names", "_law_readings_here"] (qab qif):=scp
theorem sc__law_wholes:qag ["_law_rows", "_law_row", "_law_number"] ["_law_rows"] (qab qeo):=scp
theorem sc__law_refused:qag ["_law_made", "_law_day", "_law_edges_here", "_law_names", "_law_readings_here", "e", "_law_marks"] ["_law_made", "_law_day", "_law_edges_here", "_law_names", "_law_readings_here"] (qab qd2):=scp
theorem sc__law_refusals:qag ["_law_made", "_law_day", "_law_edges_here", "_law_names", "_law_readings_here", "_law_name_here", "_law_bad", "_law_taken", "_law_free", "_law_marks"] ["_law_made", "_law_day", "_law_edges_here", "_law_names", "_law_readings_here"] (qab qdm):=scp
theorem sc__law_given:qag ["_law_steps", "_law_gone", "_law_day", "_law_draw", "_law_edges_here", "_law_way", "_law_ages", "_law_end"] ["_law_steps", "_law_gone", "_law_day", "_law_draw"] (qab qfv):=scp
theorem sc_law:qag ["_law_script", "_law_steps", "_law_gone", "_law_made", "_law_day", "_law_one", "_law_edges_here", "_law_names", "_law_k", "_law_readings_here", "_law_handed", "_law_book", "_law_found", "_law_due_here", "_law_name_here", "_law_marks", "_law_young", "_law_heaps"] ["_law_script"] (qab qxk):=scp
structure Txt (K:Frag) (mg:Str->Option Value) (C_Roll C_Rule C_Book C_BookError C_NoNumber C_NoRule C_Backward C_NoName C_NoMark:Addr):Prop where
 f_is_whole:FG K mg "is_whole" qib
 f_floored:FG K mg "floored" qky
 f_gone_cut:FG K mg "gone_cut" qic
 f_edges_at:FG K mg "edges_at" qid
 f_greater_edge:FG K mg "greater_edge" qdz
 f_greater:FG K mg "greater" qkz
 f_is_gone:FG K mg "is_gone" qk0
 f_width_at:FG K mg "width_at" qie
 f_cell_at:FG K mg "cell_at" qk1
 f_heap_of:FG K mg "heap_of" qk2
 f_poured:FG K mg "poured" qn7
 f_Roll_init:FI K C_Roll "Roll.__init__" qg4
 f_Roll_put:FMd K C_Roll "put" "Roll.put" qe3 1
 f_Roll_pour_into_cell:FM K C_Roll "pour_into_cell" "Roll.pour_into_cell" qb4
 f_Roll_young:FM K C_Roll "young" "Roll.young" qfk
 f_Roll_heaps:FM K C_Roll "heaps" "Roll.heaps" qfl
 f_begun:FG K mg "begun" qsc
 f_is_step:FG K mg "is_step" qk3
 f_check_one_step:FG K mg "check_one_step" qc6
 f_check_next_step:FG K mg "check_next_step" qcu
 f_check_steps:FG K mg "check_steps" qem
 f_check_gone:FG K mg "check_gone" qfm
 f_Rule_init:FId K C_Rule "Rule.__init__" qea #[.none]
 f_Rule_steps:FM K C_Rule "steps" "Rule.steps" qfn
 f_Rule_gone:FM K C_Rule "gone" "Rule.gone" qg5
 f_is_small_word:FG K mg "is_small_word" qdi
 f_is_name:FG K mg "is_name" qk4
 f_is_mark:FG K mg "is_mark" qk5
 f_check_marks:FG K mg "check_marks" qen
 f_Book_init:FI K C_Book "Book.__init__" qg6
 f_Book_enrol:FMn K C_Book "enrol" "Book.enrol" qdj
 f_Book_check_enrolled:FM K C_Book "check_enrolled" "Book.check_enrolled" qb5
 f_Book_own_roll:FM K C_Book "own_roll" "Book.own_roll" qdk
 f_Book_put:FMd K C_Book "put" "Book.put" qe4 1
 f_Book_rule:FM K C_Book "rule" "Book.rule" qmk
 f_Book_day:FM K C_Book "day" "Book.day" qpa
 f_Book_edges:FM K C_Book "edges" "Book.edges" qfo
 f_Book_names:FM K C_Book "names" "Book.names" qfp
 f_Book_marks:FM K C_Book "marks" "Book.marks" qfq
 f_begun_book:FG K mg "begun_book" qfr
 f_book_of:FG K mg "book_of" qk6
 f_told:FG K mg "told" qvl
 f__law_cell_at:FG K mg "_law_cell_at" qd0
 f__law_mixed:FG K mg "_law_mixed" qfs
 f__law_name:FG K mg "_law_name" qg7
 f__law_mark:FG K mg "_law_mark" qg8
 f__law_rule:FG K mg "_law_rule" qg9
 f__law_time:FG K mg "_law_time" qha
 f__law_value:FG K mg "_law_value" qft
 f__law_many:FG K mg "_law_many" qhb
 f__law_readings:FG K mg "_law_readings" qdl
 f__law_edges:FG K mg "_law_edges" qfu
 f__law_greater:FG K mg "_law_greater" qd1
 f__law_other_ages:FG K mg "_law_other_ages" qcv
 f__law_cell:FG K mg "_law_cell" qhc
 f__law_roll:FG K mg "_law_roll" qhd
 f__law_due:FG K mg "_law_due" qif
 f__law_wholes:FG K mg "_law_wholes" qeo
 f__law_refused:FG K mg "_law_refused" qd2
 f__law_refusals:FG K mg "_law_refusals" qdm
 f__law_given:FG K mg "_law_given" qfv
 f_law:FG K mg "law" qxk
 cl_Roll:Cls K C_Roll
 mg_Roll:mg "Roll" = some (.ref C_Roll)
 na_Roll_kept_rule:NoAttr K C_Roll "kept_rule"
 na_Roll_kept_day:NoAttr K C_Roll "kept_day"
 na_Roll_kept_edges:NoAttr K C_Roll "kept_edges"
 na_Roll_whole_ones:NoAttr K C_Roll "whole_ones"
 na_Roll_cell_heaps:NoAttr K C_Roll "cell_heaps"
 cl_Rule:Cls K C_Rule
 mg_Rule:mg "Rule" = some (.ref C_Rule)
 na_Rule_kept_steps:NoAttr K C_Rule "kept_steps"
 na_Rule_gone_age:NoAttr K C_Rule "gone_age"
 cl_Book:Cls K C_Book
 mg_Book:mg "Book" = some (.ref C_Book)
 na_Book_kept_rule:NoAttr K C_Book "kept_rule"
 na_Book_kept_day:NoAttr K C_Book "kept_day"
 na_Book_kept_edges:NoAttr K C_Book "kept_edges"
 na_Book_kept_marks:NoAttr K C_Book "kept_marks"
 na_Book_kept_rolls:NoAttr K C_Book "kept_rolls"
 mg_BookError:mg "BookError" = some (.ref C_BookError)
 mg_NoNumber:mg "NoNumber" = some (.ref C_NoNumber)
 mg_NoRule:mg "NoRule" = some (.ref C_NoRule)
 mg_Backward:mg "Backward" = some (.ref C_Backward)
 mg_NoName:mg "NoName" = some (.ref C_NoName)
 mg_NoMark:mg "NoMark" = some (.ref C_NoMark)
 ex_BookError:qwi K C_BookError
 kx_BookError:qtk K C_BookError
 hit_BookError_BookError:PySem.W.mroIn K C_BookError (.ref C_BookError)=some true
 is_BookError_BookError:PySem.W.kitOne K (.ref C_BookError) (.ref C_BookError)=some true
 is_BookError_NoNumber:PySem.W.kitOne K (.ref C_BookError) (.ref C_NoNumber)=some false
 is_BookError_NoRule:PySem.W.kitOne K (.ref C_BookError) (.ref C_NoRule)=some false
 is_BookError_Backward:PySem.W.kitOne K (.ref C_BookError) (.ref C_Backward)=some false
 is_BookError_NoName:PySem.W.kitOne K (.ref C_BookError) (.ref C_NoName)=some false
 is_BookError_NoMark:PySem.W.kitOne K (.ref C_BookError) (.ref C_NoMark)=some false
 is_BookError_ValueError:PySem.W.kitOne K (.ref C_BookError) (.type "ValueError")=some true
 ex_NoNumber:qwi K C_NoNumber
 kx_NoNumber:qtk K C_NoNumber
 hit_NoNumber_BookError:PySem.W.mroIn K C_NoNumber (.ref C_BookError)=some true
 is_NoNumber_BookError:PySem.W.kitOne K (.ref C_NoNumber) (.ref C_BookError)=some true
 hit_NoNumber_NoNumber:PySem.W.mroIn K C_NoNumber (.ref C_NoNumber)=some true
 is_NoNumber_NoNumber:PySem.W.kitOne K (.ref C_NoNumber) (.ref C_NoNumber)=some true
 is_NoNumber_NoRule:PySem.W.kitOne K (.ref C_NoNumber) (.ref C_NoRule)=some false
 is_NoNumber_Backward:PySem.W.kitOne K (.ref C_NoNumber) (.ref C_Backward)=some false
 is_NoNumber_NoName:PySem.W.kitOne K (.ref C_NoNumber) (.ref C_NoName)=some false
 is_NoNumber_NoMark:PySem.W.kitOne K (.ref C_NoNumber) (.ref C_NoMark)=some false
 is_NoNumber_ValueError:PySem.W.kitOne K (.ref C_NoNumber) (.type "ValueError")=some true
 ex_NoRule:qwi K C_NoRule
 kx_NoRule:qtk K C_NoRule
 hit_NoRule_BookError:PySem.W.mroIn K C_NoRule (.ref C_BookError)=some true
 is_NoRule_BookError:PySem.W.kitOne K (.ref C_NoRule) (.ref C_BookError)=some true
 is_NoRule_NoNumber:PySem.W.kitOne K (.ref C_NoRule) (.ref C_NoNumber)=some false
 hit_NoRule_NoRule:PySem.W.mroIn K C_NoRule (.ref C_NoRule)=some true
 is_NoRule_NoRule:PySem.W.kitOne K (.ref C_NoRule) (.ref C_NoRule)=some true
 is_NoRule_Backward:PySem.W.kitOne K (.ref C_NoRule) (.ref C_Backward)=some false
 is_NoRule_NoName:PySem.W.kitOne K (.ref C_NoRule) (.ref C_NoName)=some false
 is_NoRule_NoMark:PySem.W.kitOne K (.ref C_NoRule) (.ref C_NoMark)=some false
 is_NoRule_ValueError:PySem.W.kitOne K (.ref C_NoRule) (.type "ValueError")=some true
 kx_Backward:qtk K C_Backward
 hit_Backward_BookError:PySem.W.mroIn K C_Backward (.ref C_BookError)=some true
 is_Backward_BookError:PySem.W.kitOne K (.ref C_Backward) (.ref C_BookError)=some true
 is_Backward_NoNumber:PySem.W.kitOne K (.ref C_Backward) (.ref C_NoNumber)=some false
 is_Backward_NoRule:PySem.W.kitOne K (.ref C_Backward) (.ref C_NoRule)=some false
 hit_Backward_Backward:PySem.W.mroIn K C_Backward (.ref C_Backward)=some true
 is_Backward_Backward:PySem.W.kitOne K (.ref C_Backward) (.ref C_Backward)=some true
 is_Backward_NoName:PySem.W.kitOne K (.ref C_Backward) (.ref C_NoName)=some false
 is_Backward_NoMark:PySem.W.kitOne K (.ref C_Backward) (.ref C_NoMark)=some false
 is_Backward_ValueError:PySem.W.kitOne K (.ref C_Backward) (.type "ValueError")=some true
 ex_NoName:qwi K C_NoName
 kx_NoName:qtk K C_NoName
 hit_NoName_BookError:PySem.W.mroIn K C_NoName (.ref C_BookError)=some true
 is_NoName_BookError:PySem.W.kitOne K (.ref C_NoName) (.ref C_BookError)=some true
 is_NoName_NoNumber:PySem.W.kitOne K (.ref C_NoName) (.ref C_NoNumber)=some false
 is_NoName_NoRule:PySem.W.kitOne K (.ref C_NoName) (.ref C_NoRule)=some false
 is_NoName_Backward:PySem.W.kitOne K (.ref C_NoName) (.ref C_Backward)=some false
 hit_NoName_NoName:PySem.W.mroIn K C_NoName (.ref C_NoName)=some true
 is_NoName_NoName:PySem.W.kitOne K (.ref C_NoName) (.ref C_NoName)=some true
 is_NoName_NoMark:PySem.W.kitOne K (.ref C_NoName) (.ref C_NoMark)=some false
 is_NoName_ValueError:PySem.W.kitOne K (.ref C_NoName) (.type "ValueError")=some true
 ex_NoMark:qwi K C_NoMark
 kx_NoMark:qtk K C_NoMark
 hit_NoMark_BookError:PySem.W.mroIn K C_NoMark (.ref C_BookError)=some true
 is_NoMark_BookError:PySem.W.kitOne K (.ref C_NoMark) (.ref C_BookError)=some true
 is_NoMark_NoNumber:PySem.W.kitOne K (.ref C_NoMark) (.ref C_NoNumber)=some false
 is_NoMark_NoRule:PySem.W.kitOne K (.ref C_NoMark) (.ref C_NoRule)=some false
 is_NoMark_Backward:PySem.W.kitOne K (.ref C_NoMark) (.ref C_Backward)=some false
 is_NoMark_NoName:PySem.W.kitOne K (.ref C_NoMark) (.ref C_NoName)=some false
 hit_NoMark_NoMark:PySem.W.mroIn K C_NoMark (.ref C_NoMark)=some true
 is_NoMark_NoMark:PySem.W.kitOne K (.ref C_NoMark) (.ref C_NoMark)=some true
 is_NoMark_ValueError:PySem.W.kitOne K (.ref C_NoMark) (.type "ValueError")=some true
 b_all:mg "all" = none
 b_bool:mg "bool" = none
 b_int:mg "int" = none
 b_isinstance:mg "isinstance" = none
 b_len:mg "len" = none
 b_list:mg "list" = none
 b_max:mg "max" = none
 b_min:mg "min" = none
 b_range:mg "range" = none
 b_set:mg "set" = none
 b_sorted:mg "sorted" = none
 b_str:mg "str" = none
 b_sum:mg "sum" = none
 b_tuple:mg "tuple" = none
 b_zip:mg "zip" = none
 c_MOST_STEPS:∃ t,mg "MOST_STEPS" = some (.int 5 t)
 c_LETTERS:∃ t,mg "LETTERS" = some (.str "abcdefghijklmnopqrstuvwxyz" t)
 c_LONGEST_NAME:∃ t,mg "LONGEST_NAME" = some (.int 12 t)
 c_LONGEST_MARK:∃ t,mg "LONGEST_MARK" = some (.int 8 t)
 c_MOST_MARKS:∃ t,mg "MOST_MARKS" = some (.int 8 t)
theorem qzz {K:Frag} {mg:Str->Option Value} {C_Roll C_Rule C_Book C_BookError C_NoNumber C_NoRule C_Backward C_NoName C_NoMark:Addr} (_:nsIn K mainGlobals "Roll" = some (some (.ref C_Roll))) (_:nsIn K mainGlobals "Rule" = some (some (.ref C_Rule))) (_:nsIn K mainGlobals "Book" = some (some (.ref C_Book))) (_:nsIn K mainGlobals "BookError" = some (some (.ref C_BookError))) (_:nsIn K mainGlobals "NoNumber" = some (some (.ref C_NoNumber))) (_:nsIn K mainGlobals "NoRule" = some (some (.ref C_NoRule))) (_:nsIn K mainGlobals "Backward" = some (some (.ref C_Backward))) (_:nsIn K mainGlobals "NoName" = some (some (.ref C_NoName))) (_:nsIn K mainGlobals "NoMark" = some (some (.ref C_NoMark))) (T:Txt K mg C_Roll C_Rule C_Book C_BookError C_NoNumber C_NoRule C_Backward C_NoName C_NoMark):∃ C_Roll C_Rule C_Book C_BookError C_NoNumber C_NoRule C_Backward C_NoName C_NoMark,Txt K mg C_Roll C_Rule C_Book C_BookError C_NoNumber C_NoRule C_Backward C_NoName C_NoMark:=⟨C_Roll,C_Rule,C_Book,C_BookError,C_NoNumber,C_NoRule,C_Backward,C_NoName,C_NoMark,T⟩
section
variable {P:Program} {w:World} {K:Frag} {mg:Str->Option Value} {base:Heap} {C_Roll C_Rule C_Book C_BookError C_NoNumber C_NoRule C_Backward C_NoName C_NoMark:Addr} (T:Txt K mg C_Roll C_Rule C_Book C_BookError C_NoNumber C_NoRule C_Backward C_NoName C_NoMark)
include T in
theorem qe5:qba P w K mg base 1 "is_whole" ["thing"] qmi:=by
 obtain ⟨f,fd,F,hm⟩:=T.f_is_whole;have nd:=sc_is_whole.nd;refine F.def_ hm (F.ok sc_is_whole (λvs H Q E h=>?_) (λcdv A outer s H vs Q E hr h=>?_)) (F.binds λ_ _ _ _ _ _ us hl=>by obtain ⟨_,rfl⟩:=L2.lq1 hl;rfl)
 ·obtain ⟨x,rfl,_⟩:=h;rfl
 ·obtain ⟨x,rfl,i,rfl,q⟩:=h
  refine ⟨_,(qad (qak (qfc (qai qcy rfl T.b_isinstance qaz (jA2 (pv 0) (qd4 (v:=.ty "int") rfl T.b_int qm9 rfl))) (qju (qyb (qai qcy rfl T.b_isinstance qaz (jA2 (pv 0) (qd4 (v:=.ty "bool") rfl T.b_bool qqo rfl)))))))),?_⟩;refine ⟨_,rfl,_,_,_,true,rfl,.int i,qd7 _,_,rfl,qck ?_⟩;exact ⟨_,rfl,_,_,_,false,rfl,.int i,qde _,_,rfl,q⟩
include T in
theorem qsd:qba P w K mg base 2 "is_step" ["thing"] qo5:=by
 obtain ⟨f,fd,F,hm⟩:=T.f_is_step;have nd:=sc_is_step.nd;refine F.def_ hm (F.ok sc_is_step (λvs H Q E h=>?_) (λcdv A outer s H vs Q E hr h=>?_)) (F.binds λ_ _ _ _ _ _ us hl=>by obtain ⟨_,rfl⟩:=L2.lq1 hl;rfl)
 ·obtain ⟨x,p,rfl,_⟩:=h;rfl
 ·obtain ⟨x,p,rfl,⟨a,rfl,ha⟩,q⟩:=h
  refine ⟨_,(qad (qak (qfc (qai qcy rfl T.b_isinstance qaz (jA2 (pv 0) (qd4 (v:=.ty "tuple") rfl T.b_tuple qtf rfl))) (qfc (jD qec (qai qa0 rfl T.b_len qch (jA1 (pv 0))) qaa) (qfc (jF (qe5 T) hr (jA1 (jT (pv 0) qaa))) (qju (jF (qe5 T) hr (jA1 (jT (pv 0) qaa))))))))),?_⟩;refine ⟨_,rfl,_,_,_,true,rfl,.tup ha,kit_tuple _,_,rfl,qck ?_⟩;refine ⟨_,rfl,a,_,rfl,.inr (SqT.of ha),rfl,_,rfl,qck ?_⟩;refine ⟨_,rfl,a,_,0,_,rfl,rfl,SqT.of ha,rfl,_,rfl,_,rfl,_,rfl,qck ?_⟩;exact ⟨_,rfl,a,_,1,_,rfl,rfl,SqT.of ha,rfl,_,rfl,_,rfl,q⟩
include T in
theorem qfx:qba P w K mg base 3 "check_one_step" ["step"] qe1:=by
 obtain ⟨f,fd,F,hm⟩:=T.f_check_one_step;have nd:=sc_check_one_step.nd;refine F.def_ hm (F.ok sc_check_one_step (λvs H Q E h=>?_) (λcdv A outer s H vs Q E hr h=>?_)) (F.binds λ_ _ _ _ _ _ us hl=>by obtain ⟨_,rfl⟩:=L2.lq1 hl;rfl)
 ·obtain ⟨x,p,rfl,_⟩:=h;rfl
 ·obtain ⟨x,p,rfl,hp,h1,h2,q⟩:=h
  obtain ⟨a,rfl,ha⟩:=id hp;refine ⟨_,(jB3 (qa7 (qdt (qc4 (jF (qsd T) hr (jA1 (pv 0))))) (qad qcx) qap) (qa7 (jC qhm (jT (pv 0) qaa) qaa) (qad qcx) qap) (qa7 (jC qhm (jT (pv 0) qaa) qaa) (qad qcx) qap)),?_⟩;refine ⟨_,rfl,_,p,rfl,hp,_,rfl,qdw ?_⟩;refine ⟨_,rfl,a,_,0,_,rfl,rfl,SqT.of ha,rfl,_,_,rfl,rfl,_,rfl,qew (λz=>?_) λ_=>?_⟩
  ·exact absurd (of_decide_eq_true z) (by omega)
  refine ⟨_,rfl,a,_,1,_,rfl,rfl,SqT.of ha,rfl,_,_,rfl,rfl,_,rfl,qew (λz=>?_) λ_=>q⟩;exact absurd (of_decide_eq_true z) (by omega)
include T in
theorem qe6:qba P w K mg base 1 "check_next_step" ["step", "behind"] qcm:=by
 obtain ⟨f,fd,F,hm⟩:=T.f_check_next_step;have nd:=sc_check_next_step.nd;refine F.def_ hm (F.ok sc_check_next_step (λvs H Q E h=>?_) (λcdv A outer s H vs Q E hr h=>?_)) (F.binds λ_ _ _ _ _ _ us hl=>by obtain ⟨_,_,rfl⟩:=L2.lq2 hl;rfl)
 ·obtain ⟨x,y,p,p',rfl,_⟩:=h;rfl
 ·obtain ⟨x,y,p,p',rfl,⟨a,rfl,ha⟩,⟨b,rfl,hb⟩,h0,h1,h2,q⟩:=h
  refine ⟨_,(jB2 (qa7 (jC qhm (jT (pv 1) qaa) (jT (pv 0) qaa)) (qad qcx) qap) (qa7 (jC qjv (qae qar (jT (pv 1) qaa) (jT (pv 0) qaa)) qaa) (qad qcx) qap)),?_⟩;refine ⟨_,rfl,b,_,0,_,rfl,rfl,SqT.of hb,rfl,_,rfl,a,_,0,_,rfl,rfl,SqT.of ha,rfl,_,_,rfl,rfl,_,rfl,qew (λz=>?_) λ_=>?_⟩
  ·exact absurd (of_decide_eq_true z) (by omega)
  refine ⟨_,rfl,b,_,1,_,rfl,rfl,SqT.of hb,rfl,_,rfl,a,_,1,_,rfl,rfl,SqT.of ha,rfl,_,_,rfl,rfl,(by show 0<p.2;omega),rfl,_,rfl,?_⟩;refine qyr ?_ q;exact congrArg V.int h2
include T in
theorem qji:qba P w K mg base 4 "check_steps" ["steps"] qdy:=by
 obtain ⟨f,fd,F,hm⟩:=T.f_check_steps;have nd:=sc_check_steps.nd;refine F.def_ hm (F.ok sc_check_steps (λvs H Q E h=>?_) (λcdv A outer s H vs Q E hr h=>?_)) (F.binds λ_ _ _ _ _ _ us hl=>by obtain ⟨_,rfl⟩:=L2.lq1 hl;rfl)
 ·obtain ⟨l,xs,ps,rfl,_⟩:=h;rfl
 ·obtain ⟨l,xs,ps,rfl,hl,hp,G,q⟩:=h
  have hlen:=hp.length;have g1:=G.lo;have g2:=G.hi;refine ⟨_,(jB3 (qa7 (PW.pt (qhl (jC qhm (qai qa0 rfl T.b_len qch (jA1 (pv 0))) qaa) (qfb (jC qvw (qai qa0 rfl T.b_len qch (jA1 (pv 0))) (qcw (v:=.int 5) rfl T.c_MOST_STEPS.choose_spec ⟨_,rfl⟩))))) (qad qcx) qap) (qb8 PassesOwn.never rfl (qa8 (pv 0)) (jN 1 nd) (qad (qa4 (jF (qfx T) hr (jA1 (pv 1)))))) (qb8 PassesOwn.never rfl (qm8 rfl T.b_zip (jA2 (pv 0) (qbq qeg (pv 0) (qb0 qaa) qcf))) (jG2 (jN 1 nd) (jN 2 nd)) (qad (qa4 (jF (qe6 T) hr (jA2 (pv 1) (pv 2))))))),?_⟩;refine ⟨_,rfl,l,xs,rfl,.inl (SqL.of hl),_,_,rfl,rfl,_,rfl,qew (λz=>?_) λ_=>?_⟩
  ·exact absurd (of_decide_eq_true z) (by omega)
  refine ⟨_,rfl,l,xs,rfl,.inl (SqL.of hl),_,_,rfl,rfl,_,rfl,qew (λz=>?_) λ_=>?_⟩
  ·exact absurd (of_decide_eq_true z) (by omega)
  refine ⟨_,rfl,l,rfl,⟨_,SqL.of hl⟩,qb2 (xs:=xs) (λi σ H2=>H2=H/\∃ v,σ=[some (.ref l),v,none]) ⟨rfl,none,rfl⟩ (λi σ H2 _ h2=>by rw[h2.1];exact SqL.of hl) ?_ ?_⟩
  ·rintro i x σ H2 hi ⟨rfl,v,rfl⟩
   obtain ⟨p,hpi,hx⟩:=hp.get hi;obtain ⟨e1,e2⟩:=G.each i p hpi;exact ⟨_,rfl,_,p,rfl,hx,e1,e2,rfl,_,rfl⟩
  ·rintro σ H2 ⟨rfl,v,rfl⟩
   refine ⟨_,rfl,_,rfl,_,rfl,_,xs,rfl,SqL.of hl,λl2 H3 n3=>?_⟩;refine ⟨l,l2,xs,_,rfl,SqL.of (n3.same _ _ hl),SqL.of n3.at_,qnb (xs:=xs) (ys:=qj2 xs (some 1) none) (λi σ H4=>Same H3 H4/\∃ u v,σ=[some (.ref l),u,v]) ⟨Same.refl _,_,_,rfl⟩
    (λi σ H4 h4=>⟨SqL.of (h4.1 _ _ (n3.same _ _ hl)),SqL.of (h4.1 _ _ n3.at_)⟩) ?_ ?_⟩
   ·rintro i x y σ H4 p H5 hx hy n5 ⟨s4,u,v',rfl⟩
    obtain ⟨p1,hp1,hx1⟩:=hp.get hx;have hy':xs[i+1]?=some y:=by
     have:qj2 xs (some 1) none=xs.drop 1:=qDo xs;rw[this,List.getElem?_drop] at hy
     rwa [Nat.add_comm] at hy
    obtain ⟨p2,hp2,hx2⟩:=hp.get hy';obtain ⟨e1,e2⟩:=G.next i p1 p2 hp1 hp2;obtain ⟨_,e3⟩:=G.each i p1 hp1;have s5:Same H2 H5:=n3.same.trans (s4.trans n5.same);refine ⟨p,_,rfl,SqT.of n5.at_,rfl,_,_,rfl,_,_,rfl,rfl,?_⟩;exact ⟨_,rfl,_,rfl,x,y,p1,p2,rfl,hx1.same s5,hx2.same s5,e3,e1,e2,s4.trans n5.same,_,_,rfl⟩
   ·rintro i σ H4 _ ⟨s4,_,_,_⟩
    exact q H4 (n3.same.trans s4)
include T in
theorem qk7:qba P w K mg base 2 "check_gone" ["gone", "last_age"] qjb:=by
 obtain ⟨f,fd,F,hm⟩:=T.f_check_gone;have nd:=sc_check_gone.nd;refine F.def_ hm (F.ok sc_check_gone (λvs H Q E h=>?_) (λcdv A outer s H vs Q E hr h=>?_)) (F.binds λ_ _ _ _ _ _ us hl=>by obtain ⟨_,_,rfl⟩:=L2.lq2 hl;rfl)
 ·obtain ⟨g,last,rfl,_⟩:=h;rfl
 ·obtain ⟨g,last,rfl,hg,q⟩:=h
  refine ⟨_,(jB2 (qa7 (jC qdv (pv 0) qbj) (qad qvu) qap) (qa7 (PW.pt (qhl (qdt (qc4 (jF (qe5 T) hr (jA1 (pv 0))))) (qfb (jC qhm (pv 0) (pv 1))))) (qad qcx) qap)),?_⟩
  cases g with
  | none=>exact ⟨_,rfl,rfl,_,rfl,qck q⟩
  | some z =>
   refine ⟨_,rfl,rfl,_,rfl,qdw ?_⟩;refine ⟨_,rfl,_,rfl,z,rfl,_,rfl,qdw ?_⟩;refine ⟨_,rfl,_,rfl,_,_,rfl,rfl,_,rfl,qew (λy=>?_) λ_=>q⟩;exact absurd (of_decide_eq_true y) (by have:=hg z rfl;omega)
include T in
theorem qml:∃ f fd dT o n,qfy P w K mg base CX0 5 f fd ["self", "steps", "gone"] (qjc C_Rule)/\FunD K "__init__" "Rule.__init__" qea (.ref dT) f fd/\Mk K C_Rule f/\fd.defaults=.ref dT/\K.lookup dT=some o/\o.data=.seq #[.none] n:=by
 obtain ⟨f,fd,dT,o,n,F,M,h1,h2,h3⟩:=T.f_Rule_init;have nd:=sc_Rule_init.nd;refine ⟨f,fd,dT,o,n,(F.ok sc_Rule_init (λvs H Q E h=>?_) (λcdv A outer s H vs Q E hr h=>?_)),F,M,h1,h2,h3⟩
 ·obtain ⟨r,dx,l,xs,ps,g,rfl,_⟩:=h;rfl
 ·obtain ⟨r,dx,l,xs,ps,g,rfl,hro,hl,hp,G,hg,k⟩:=h
  have g1:=G.lo;refine ⟨_,(jB5 (jS 3 nd (qbk qbt rfl T.b_list qcz (jA1 (pv 1)))) (qa4 (jF (qji T) hr (jA1 (pv 3)))) (qa4 (jF (qk7 T) hr (jA2 (pv 2) (jT (jI (pv 3) (qd5 qce qaa)) qaa)))) (qbx (pv 0) (pv 3) rfl) (qbx (pv 0) (pv 2) rfl)),?_⟩;refine ⟨_,rfl,l,xs,rfl,.inl (SqL.of hl),λl' H1 n1=>?_⟩;refine ⟨_,rfl,l',xs,ps,rfl,n1.at_,hp.same n1.same,G,λH2 s2=>?_⟩;have hl2:=s2 _ _ n1.at_;have hp2:=(hp.same n1.same).same s2;have hlen:=hp.length;obtain ⟨v,hv⟩:∃ v,xs[xs.length-1]?=some v:=⟨xs[xs.length-1]'(by omega),List.getElem?_eq_getElem _⟩;obtain ⟨p,hpv,a,rfl,ha⟩:=hp2.get hv;refine ⟨_,rfl,_,rfl,_,rfl,l',xs,-1,_,rfl,rfl,SqL.of hl2,qnv hv,a,_,0,_,rfl,rfl,SqT.of ha,rfl,g,p.1,rfl,hg p (by rw[<- hlen];exact hpv),?_⟩;have hr2:=s2 _ _ (n1.same _ _ hro);have nrl:r≠l':=qal hro n1.fresh;refine ⟨_,rfl,_,rfl,r,C_Rule,dx,[],rfl,hr2,T.cl_Rule,T.na_Rule_kept_steps,(by show 0<1000;decide),λH3 b3 h3=>?_⟩;refine ⟨_,rfl,_,rfl,r,C_Rule,dx,_,rfl,h3,T.cl_Rule,T.na_Rule_gone_age,(by show 1<1000;decide),λH4 b4 h4=>?_⟩;refine k l' _ n1.fresh ⟨⟨dx,h4⟩,xs,b4 _ _ (b3 _ _ hl2 nrl.symm) nrl.symm,(hp2.but b3 hr2 qcn).but b4 h3 qcn⟩ λb o e hb=>?_
  exact b4 _ _ (b3 _ _ (s2 _ _ (n1.same _ _ e)) hb) hb
include T in
theorem qt7:qAz P w K mg base C_Rule 5 "Rule" ["self", "steps", "gone"] [] (qjc C_Rule):=by
 obtain ⟨f,fd,dT,o,n,hf,F,M,h1,h2,h3⟩:=qml (P:=P) (w:=w) (base:=base) T;refine ⟨f,fd,hf,T.mg_Rule,M,qi0 h1 h2 h3 λus hl=>?_⟩;obtain ⟨oc,od,kV,doc,pm,an,cdv,ct,osl,rfl,lk,hcd⟩:=F.ex;obtain ⟨_,_,_,rfl⟩:=L2.lq3 (us:=us) (by simpa using hl);exact ⟨_,rfl,rfl⟩
include T in
theorem qdn:qi1 P w K mg base C_Rule 1 "steps" ["self"] (qkm C_Rule):=by
 obtain ⟨f,fd,F,hm⟩:=T.f_Rule_steps;have nd:=sc_Rule_steps.nd;refine ⟨f,fd,(F.ok sc_Rule_steps (λvs H Q E h=>?_) (λcdv A outer s H vs Q E hr h=>?_)),hm,(F.binds λ_ _ _ _ _ _ us hl=>by obtain ⟨_,rfl⟩:=L2.lq1 hl;rfl)⟩
 ·obtain ⟨r,l,ps,g,xs,rfl,_⟩:=h;rfl
 ·obtain ⟨r,l,ps,g,xs,rfl,R,hl,k⟩:=h
  obtain ⟨dx,hob⟩:=R.ob;refine ⟨_,(qad (qak (qbk qbt rfl T.b_list qcz (jA1 (qbc (pv 0) rfl))))),?_⟩;exact ⟨_,rfl,r,C_Rule,dx,_,_,rfl,hob,T.cl_Rule,T.na_Rule_kept_steps,qry _ _,l,xs,rfl,.inl (SqL.of hl),k⟩
include T in
theorem qmm:qi1 P w K mg base C_Rule 1 "gone" ["self"] (qrz C_Rule):=by
 obtain ⟨f,fd,F,hm⟩:=T.f_Rule_gone;have nd:=sc_Rule_gone.nd;refine ⟨f,fd,(F.ok sc_Rule_gone (λvs H Q E h=>?_) (λcdv A outer s H vs Q E hr h=>?_)),hm,(F.binds λ_ _ _ _ _ _ us hl=>by obtain ⟨_,rfl⟩:=L2.lq1 hl;rfl)⟩
 ·obtain ⟨r,l,ps,g,rfl,_⟩:=h;rfl
 ·obtain ⟨r,l,ps,g,rfl,R,q⟩:=h
  obtain ⟨dx,hob⟩:=R.ob;refine ⟨_,(qad (qak (qbc (pv 0) rfl))),?_⟩;exact ⟨_,rfl,r,C_Rule,dx,_,_,rfl,hob,T.cl_Rule,T.na_Rule_gone_age,qB2 _ _,q⟩
include T in
theorem qhe:qba P w K mg base 1 "floored" ["number", "width"] qo6:=by
 obtain ⟨f,fd,F,hm⟩:=T.f_floored;have nd:=sc_floored.nd;refine F.def_ hm (F.ok sc_floored (λvs H Q E h=>?_) (λcdv A outer s H vs Q E hr h=>?_)) (F.binds λ_ _ _ _ _ _ us hl=>by obtain ⟨_,_,rfl⟩:=L2.lq2 hl;rfl)
 ·obtain ⟨n,w',rfl,_⟩:=h;rfl
 ·obtain ⟨n,w',rfl,h1,h2,h3,h4,q⟩:=h
  have hb:=qt0 h1 (by decide:(0:Int)<=10 ^ 46) h3 h4;refine ⟨_,(qad (qak (qae qbl (qae qf0 (pv 0) (pv 1)) (pv 1)))),?_⟩;exact ⟨_,rfl,_,rfl,_,_,rfl,rfl,⟨by omega,by omega⟩,_,rfl,_,_,rfl,rfl,⟨⟨by omega,by omega⟩,by omega,by omega⟩,q⟩
include T in
theorem qpb:qba P w K mg base 2 "gone_cut" ["rule", "day"] (qgr C_Rule):=by
 obtain ⟨f,fd,F,hm⟩:=T.f_gone_cut;have nd:=sc_gone_cut.nd;refine F.def_ hm (F.ok sc_gone_cut (λvs H Q E h=>?_) (λcdv A outer s H vs Q E hr h=>?_)) (F.binds λ_ _ _ _ _ _ us hl=>by obtain ⟨_,_,rfl⟩:=L2.lq2 hl;rfl)
 ·obtain ⟨r,l,ps,g,d,rfl,_⟩:=h;rfl
 ·obtain ⟨r,l,ps,g,d,rfl,R,Pg,hd,q⟩:=h
  obtain ⟨dx,hob⟩:=R.ob;obtain ⟨xs,hl,hx⟩:=R.ls;have n1:(rf l (gv g)).lookup ("gone" : Str)=none:=qt2 _ _ (by decide +kernel) (by decide +kernel);have n2:(rf l (gv g)).lookup ("steps" : Str)=none:=qt2 _ _ (by decide +kernel) (by decide +kernel);obtain ⟨p,hp,ep⟩:=Pg.last;have hlen:=hx.length;refine ⟨_,(jB3 (jS 2 nd (qfe (pv 0) T.cl_Rule (qmm T) (hr.mono (by decide)))) (qa7 (jC qdv (pv 2) qbj) (qad (qak qbj)) qap) (qak (jF (qhe T) hr (jA2 (qae qc5 (pv 1) (pv 2)) (jT (jI (qfe (pv 0) T.cl_Rule (qdn T) (hr.mono (by decide))) (qd5 qce qaa)) qaa))))),?_⟩;refine ⟨_,rfl,r,dx,_,rfl,hob,n1,r,l,ps,g,rfl,R,?_⟩
  cases g with
  | none=>exact ⟨_,rfl,rfl,_,rfl,qck (q H (Same.refl _))⟩
  | some z =>
   refine ⟨_,rfl,rfl,_,rfl,qdw ?_⟩;refine ⟨_,rfl,_,rfl,_,_,rfl,rfl,?_⟩;refine ⟨_,rfl,r,dx,_,rfl,hob,n2,r,l,ps,_,xs,rfl,R,hl,λp1 H1 m1=>?_⟩;obtain ⟨v,hv,a,rfl,ha⟩:=hx.get' hp;have hz:=Pg.gb z rfl;have hs:=Pg.size _ p hp;unfold Bd at hd;refine ⟨_,rfl,p1,xs,-1,_,rfl,rfl,SqL.of m1.at_,qnv (by rw[hlen];exact hv),a,_,1,_,rfl,rfl,SqT.of (m1.same _ _ ha),rfl,d-z,p.2,rfl,hs.2.2.1,hs.2.2.2,by omega,by omega,?_⟩;have:=q H1 m1.same;rw[ep] at this;exact this
include T in
theorem qig:qba P w K mg base 3 "edges_at" ["rule", "day"] (qgs C_Rule):=by
 obtain ⟨f,fd,F,hm⟩:=T.f_edges_at;have nd:=sc_edges_at.nd;refine F.def_ hm (F.ok sc_edges_at (λvs H Q E h=>?_) (λcdv A outer s H vs Q E hr h=>?_)) (F.binds λ_ _ _ _ _ _ us hl=>by obtain ⟨_,_,rfl⟩:=L2.lq2 hl;rfl)
 ·obtain ⟨r,l,ps,g,d,rfl,_⟩:=h;rfl
 ·obtain ⟨r,l,ps,g,d,rfl,R,Pg,hd,q⟩:=h
  obtain ⟨dx,hob⟩:=R.ob;obtain ⟨xs,hl,hx⟩:=R.ls;have n2:(rf l (gv g)).lookup ("steps" : Str)=none:=qt2 _ _ (by decide +kernel) (by decide +kernel);have hlen:=hx.length;have h5:=Pg.good.hi;refine ⟨_,(jB2 (qef (i:=2) (vars:=[ "age", "width" ]) (frees:=[ "day" ]) (fv:=[1]) nd rfl (Or.inl rfl) rfl (jL1 rfl) ⟨⟨rfl,.inl rfl,rfl,.inl rfl⟩,trivial⟩ (qa8 (qfe (pv 0) T.cl_Rule (qdn T) (hr.mono (by decide)))) (qci (by decide) (by decide)) (λ_ _ _ _=>(jG2 (jM 0 [ "age", "width", "day" ]) (jM 1 [ "age", "width", "day" ]))) (λ_ _ _ _=>qa5) (λ_ _ _ _=>(jF (qhe T) hr (jA2 (qae qc5 (pv 2) (pv 0)) (pv 1))))) (qak (qae qc0 (pv 2) (qay (jA1 (jF (qpb T) hr (jA2 (pv 0) (pv 1)))))))),?_⟩;refine ⟨_,rfl,r,dx,_,rfl,hob,n2,r,l,ps,g,xs,rfl,R,hl,λp1 H1 m1=>?_⟩;refine ⟨p1,rfl,⟨_,SqL.of m1.at_⟩,qqs (xs:=xs) (λi ys H2=>Same H1 H2/\ys=(ps.take i).map λp=>V.int (cut d p.1 p.2)) (Nat.le_of_lt (qam (by omega))) ⟨Same.refl _,rfl⟩ (λi ys H2 h2=>⟨SqL.of (h2.1 _ _ m1.at_),by rw[h2.2];simp;omega⟩) ?_ ?_⟩
  ·rintro i x ys H2 hi ⟨s2,rfl⟩
   obtain ⟨p,hpi,a,rfl,ha⟩:=hx.get hi;have hs:=Pg.size i p hpi;unfold Bd at hd;refine ⟨a,_,rfl,SqT.of (s2 _ _ (m1.same _ _ ha)),rfl,_,_,rfl,_,_,rfl,rfl,qhy (qck ?_)⟩;refine ⟨_,rfl,_,rfl,_,_,rfl,rfl,_,rfl,d-p.1,p.2,rfl,hs.2.2.1,hs.2.2.2,by omega,by omega,s2,?_⟩;exact (qA1 _ ps i p hpi).symm
  ·rintro ys H2 c1 ⟨s2,rfl⟩ hc
   have nc:=qax (o:=.lst ((ps.take xs.length).map λp=>V.int (cut d p.1 p.2))) hc
   generalize upd H2 c1 _=H3 at nc ⊢
   have s3:Same H H3:=m1.same.trans (s2.trans nc.same);rw[hlen,List.take_length] at nc;refine ⟨_,rfl,_,rfl,_,rfl,r,l,ps,g,d,rfl,R.same s3,Pg,hd,λH4 s4=>⟨by show 1<=sizeLine;decide,λc2 H5 n5=>?_⟩⟩;refine ⟨c1,c2,_,_,rfl,rfl,n5.same _ _ (s4 _ _ nc.at_),n5.at_,Nat.le_of_lt (qam (by simp;omega)),λz H6 n6=>?_⟩;exact q z H6 (New.after (s3.trans (s4.trans n5.same)) n6)
include T in
theorem qse:qba P w K mg base 1 "is_gone" ["edges", "time"] qh4:=by
 obtain ⟨f,fd,F,hm⟩:=T.f_is_gone;have nd:=sc_is_gone.nd;refine F.def_ hm (F.ok sc_is_gone (λvs H Q E h=>?_) (λcdv A outer s H vs Q E hr h=>?_)) (F.binds λ_ _ _ _ _ _ us hl=>by obtain ⟨_,_,rfl⟩:=L2.lq2 hl;rfl)
 ·obtain ⟨e,es,ge,t,rfl,_⟩:=h;rfl
 ·obtain ⟨e,es,ge,t,rfl,he,q1,q2⟩:=h
  have hlast:(es.map V.int ++ [gv ge])[(es.map V.int ++ [gv ge]).length-1]?=some (gv ge):=by simp
  refine ⟨_,(qad (qak (qfc (jD qgc (jI (pv 0) (qd5 qce qaa)) qbj) (qju (jD qhm (pv 1) (jI (pv 0) (qd5 qce qaa))))))),?_⟩
  cases ge with
  | none =>
   walk_at "r"
   exact q2 fun ⟨z,e,_⟩=>by cases e
  | some y =>
   walk_at "r"
   show Q (.bl (decide (t<y))) H
   by_cases h:t<y
   ·rw[decide_eq_true h];exact q1 ⟨y,rfl,h⟩
   ·rw[decide_eq_false h];exact q2 fun ⟨z,e,h'⟩=>by cases e;exact h h'
include T in
theorem qpc:qba P w K mg base 2 "width_at" ["rule", "edges", "time"] (qgv C_Rule):=by
 obtain ⟨f,fd,F,hm⟩:=T.f_width_at;have nd:=sc_width_at.nd;refine F.def_ hm (F.ok sc_width_at (λvs H Q E h=>?_) (λcdv A outer s H vs Q E hr h=>?_)) (F.binds λ_ _ _ _ _ _ us hl=>by obtain ⟨_,_,_,rfl⟩:=L2.lq3 hl;rfl)
 ·obtain ⟨r,l,ps,g,e,es,ge,t,e0,rfl,_⟩:=h;rfl
 ·obtain ⟨r,l,ps,g,e,es,ge,t,e0,rfl,R,he,hl,h1,h5,h0,hlt,q⟩:=h
  obtain ⟨dx,hob⟩:=R.ob;obtain ⟨xs,hxl,hx⟩:=R.ls;have n2:(rf l (gv g)).lookup ("steps" : Str)=none:=qt2 _ _ (by decide +kernel) (by decide +kernel);have hlen:=hx.length;refine ⟨_,(jB2 (qef (i:=3) (vars:=[ "step", "edge" ]) (frees:=[ "time" ]) (fv:=[2]) nd rfl (Or.inl rfl) rfl (jL1 rfl) ⟨⟨rfl,.inl rfl,rfl,.inl rfl⟩,trivial⟩ (qm8 rfl T.b_zip (jA2 (qfe (pv 0) T.cl_Rule (qdn T) (hr.mono (by decide))) (pv 1))) (qci (by decide) (by decide)) (λ_ _ _ _=>(jG2 (jM 0 [ "step", "edge", "time" ]) (jM 1 [ "step", "edge", "time" ]))) (λ_ _ _ _=>(qi3 (jC qvw (pv 1) (pv 2)))) (λ_ _ _ _=>(ql6 (show IxR _ (qAu K) from qqe) (pv 0) qaa (λ_ _=>rfl)))) (qak (jI (pv 3) (qd5 qce qaa)))),?_⟩;refine ⟨_,rfl,r,dx,_,rfl,hob,n2,r,l,ps,g,xs,rfl,R,hxl,λp1 H1 m1=>?_⟩;have he1:=m1.same _ _ he;refine ⟨_,rfl,p1,e,xs,_,rfl,SqL.of m1.at_,SqL.of he1,?_⟩;refine qw8 (xs:=xs) (λi zs H2=>Same H1 H2/\zs=((((((ps.map (·.2)).zip es).take i).filter λx=>decide (t<x.2)).map (·.1)).map V.int)) (Nat.le_of_lt (qam (by omega))) ⟨Same.refl _,rfl⟩ (λi zs H2 h2=>⟨SqL.of (h2.1 _ _ m1.at_),SqL.of (h2.1 _ _ he1),by rw[h2.2,List.length_map];exact qvb _ _ _ _⟩) ?_ ?_
  ·rintro i x y zs H2 p H3 hxi hyi n3 ⟨s2,rfl⟩
   obtain ⟨pi,hpi,a,rfl,ha⟩:=hx.get hxi;have hi:i<es.length:=by have:=(List.getElem?_eq_some_iff.mp hpi).1;omega
   have hy:y=V.int es[i]:=by
    rw[List.getElem?_append_left (by simpa using hi),List.getElem?_map,List.getElem?_eq_getElem hi] at hyi;exact (Option.some.inj hyi).symm
   subst hy;have hw:(ps.map (·.2))[i]?=some pi.2:=by rw[List.getElem?_map,hpi];rfl
   have ha3:H3 a=some (.tup [.int pi.1,.int pi.2]):=n3.same _ _ (s2 _ _ (m1.same _ _ ha))
   walk_at "r"
   refine qew (λz=>?_) λz=>?_
   ·walk_at "r"
    refine ⟨s2.trans n3.same,?_⟩;have:=qCp hw (List.getElem?_eq_getElem hi) (by simpa using z:t<es[i]);rw[this,List.map_append];rfl
   ·refine ⟨s2.trans n3.same,?_⟩
    rw[qCq hw (List.getElem?_eq_getElem hi) (by simpa using z)]
  ·rintro i zs H2 p H3 hi ⟨s2,rfl⟩ n3
   have ez:((((ps.map (·.2)).zip es).take i).filter λx=>decide (t<x.2)).map (·.1)=wl (ps.map (·.2)) es t:=qva (by rw[hi];simp only[List.length_zip,List.length_map,List.length_append,List.length_singleton];omega);rw[ez] at n3;have hne:1<=(wl (ps.map (·.2)) es t).length:=qzp (w0:=(ps[0]'(by omega)).2) (by rw[List.getElem?_map,List.getElem?_eq_getElem (by omega:0<ps.length)];rfl) h0 hlt;obtain ⟨w',hw'⟩:∃ w',(wl (ps.map (·.2)) es t)[(wl (ps.map (·.2)) es t).length-1]?=some w':=⟨_,List.getElem?_eq_getElem (by omega)⟩;have hlast:((wl (ps.map (·.2)) es t).map V.int)[((wl (ps.map (·.2)) es t).map V.int).length-1]?=some (V.int w'):=by rw[List.length_map,List.getElem?_map,hw'];rfl
   walk_at "r"
   exact q w' H3 hw' (m1.same.trans (s2.trans n3.same))
include T in
theorem qsf:qba P w K mg base 3 "cell_at" ["rule", "edges", "time"] (qh5 C_Rule):=by
 obtain ⟨f,fd,F,hm⟩:=T.f_cell_at;have nd:=sc_cell_at.nd;refine F.def_ hm (F.ok sc_cell_at (λvs H Q E h=>?_) (λcdv A outer s H vs Q E hr h=>?_)) (F.binds λ_ _ _ _ _ _ us hl=>by obtain ⟨_,_,_,rfl⟩:=L2.lq3 hl;rfl)
 ·obtain ⟨r,l,ps,g,e,es,ge,t,rfl,_⟩:=h;rfl
 ·obtain ⟨r,l,ps,g,e,es,ge,t,rfl,R,he,hl,h1,h5,hsz,ht,q⟩:=h
  obtain ⟨e0,h0⟩:∃ e0,es[0]?=some e0:=⟨_,List.getElem?_eq_getElem (by omega)⟩;have hi0:atI (es.map V.int ++ [gv ge]) 0=some (.int e0):=qdc (j:=0) (by rw[List.getElem?_append_left (by simp;omega),List.getElem?_map,h0];rfl);refine ⟨_,(jB4 (qa7 (jC qyf (pv 2) (jI (pv 1) qaa)) (qad (qak (qaq (jA2 (pv 2) qaa)))) qap) (qa7 (qc4 (jF (qse T) hr (jA2 (pv 1) (pv 2)))) (qad (qak qbj)) qap) (jS 3 nd (jF (qpc T) hr (jA3 (pv 0) (pv 1) (pv 2)))) (qak (qaq (jA2 (jF (qhe T) hr (jA2 (pv 2) (pv 3))) (pv 3))))),?_⟩
  walk_at "r"
  refine qew (λz=>?_) λz=>?_
  ·simp at z
   walk_at "r";intro p H1 n1
   refine q (.ref p) (some (t,0)) H1 (λx hx=>?_) ⟨p,rfl,n1.at_⟩ n1.same;rw[h0] at hx;cases hx;exact ⟨λ_=>rfl,λh=>absurd z (by omega)⟩
  ·simp at z
   walk_at "r"
   refine ⟨e,es,ge,t,rfl,he,λhg=>?_,λhg=>?_⟩
   ·walk_at "r"
    refine q .non none H (λx hx=>?_) rfl (Same.refl _);rw[h0] at hx;cases hx;exact ⟨λh=>absurd z (by omega),λ_=>⟨λ_=>rfl,λn=>absurd hg n⟩⟩
   ·walk_at "r"
    refine ⟨r,l,ps,g,e,es,ge,t,e0,rfl,R,he,hl,h1,h5,h0,z,λw' H1 hw' s1=>?_⟩;have hwm:w'∈ps.map (·.2):=qr1 (List.mem_of_getElem? hw');obtain ⟨pi,hpi,rfl⟩:=List.mem_map.mp hwm;obtain ⟨i,hi,ei⟩:=List.getElem_of_mem hpi;have hs:=hsz i pi (by rw[<- ei];exact List.getElem?_eq_getElem hi);refine ⟨_,rfl,_,rfl,t,pi.2,rfl,hs.2.2.1,hs.2.2.2,ht.1,ht.2,?_⟩
    walk_at "r";intro p H2 n2
    refine q (.ref p) (some (t / pi.2*pi.2,pi.2)) H2 (λx hx=>?_) ⟨p,rfl,n2.at_⟩ (s1.trans n2.same);rw[h0] at hx;cases hx;exact ⟨λh=>absurd z (by omega),λ_=>⟨λn=>absurd n hg,λ_=>⟨pi.2,hw',rfl⟩⟩⟩
include T in
theorem qsg:qba P w K mg base 1 "heap_of" ["runs"] qgy:=by
 obtain ⟨f,fd,F,hm⟩:=T.f_heap_of;have nd:=sc_heap_of.nd;refine F.def_ hm (F.ok sc_heap_of (λvs H Q E h=>?_) (λcdv A outer s H vs Q E hr h=>?_)) (F.binds λ_ _ _ _ _ _ us hl=>by obtain ⟨_,rfl⟩:=L2.lq1 hl;rfl)
 ·obtain ⟨l,xs,rs,rfl,_⟩:=h;rfl
 ·obtain ⟨l,xs,rs,rfl,hl,hp,ok,h2,q0,q⟩:=h
  have hlen:=hp.length;refine ⟨_,(jB5 (qa7 (jC qec (qai qa0 rfl T.b_len qch (jA1 (pv 0))) qaa) (qad (qak qbj)) qap) (qef (i:=1) (vars:=[ "value", "many" ]) (frees:=[]) (fv:=[]) nd rfl (Or.inl rfl) rfl (jL0 rfl) trivial (qa8 (pv 0)) (qci (by decide) (by decide)) (λ_ _ _ _=>(jG2 (jM 0 [ "value", "many" ]) (jM 1 [ "value", "many" ]))) (λ_ _ _ _=>qa5) (λ_ _ _ _=>(pv 0))) (jS 2 nd (qai (qnc rfl) rfl T.b_sum qqn (jA1 (qdf (vars:=[ "value", "many" ]) (frees:=[]) (fv:=[]) rfl (jL0 rfl) trivial (qa8 (pv 0)) (qci (by decide) (by decide)) (λ_ _ _ _=>(jG2 (jM 0 [ "value", "many" ]) (jM 1 [ "value", "many" ]))) (λ_ _ _ _=>qa5) (λ_ _ _ _=>(pv 1)))))) (jS 3 nd (qai (qnc rfl) rfl T.b_sum qqn (jA1 (qdf (vars:=[ "value", "many" ]) (frees:=[]) (fv:=[]) rfl (jL0 rfl) trivial (qa8 (pv 0)) (qci (by decide) (by decide)) (λ_ _ _ _=>(jG2 (jM 0 [ "value", "many" ]) (jM 1 [ "value", "many" ]))) (λ_ _ _ _=>qa5) (λ_ _ _ _=>(qae qbl (pv 0) (pv 1))))))) (qak (qaq (jA4 (pv 2) (pv 3) (qai (qqy rfl) rfl T.b_min qqz (jA1 (pv 1))) (qai (qj9 rfl) rfl T.b_max qh0 (jA1 (pv 1))))))),?_⟩
  walk_at "r"
  refine qew (λz=>?_) λz=>?_
  ·have z':xs.length=0:=by simpa using z
   exact q0 (List.length_eq_zero_iff.mp (by omega))
  ·have z':¬ xs.length=0:=by simpa using z
   have hne:rs≠[]:=λe=>z' (by rw[hlen,e];rfl)
   have h1:1<=rs.length:=by omega
   have mulB:∀ p∈rs,CMulB p.1 p.2:=λp hp=>by
    have:=ok p hp;unfold qpq at this;exact ⟨⟨by omega,by omega⟩,by omega,by omega⟩
   refine ⟨_,rfl,l,rfl,⟨_,SqL.of hl⟩,qjf (λp=>p.1) hl hp h2 (λp hp Q' hq=>⟨_,rfl,hq⟩) λa1 H1 n1=>?_⟩;have hl1:=n1.same _ _ hl;have hp1:=hp.same n1.same;refine ⟨_,rfl,l,rfl,⟨_,SqL.of hl1⟩,qjf (λp=>p.2) hl1 hp1 h2 (λp hp Q' hq=>⟨_,rfl,hq⟩) λa2 H2 n2=>⟨a2,_,rfl,SqL.of n2.at_,?_⟩⟩;have hl2:=n2.same _ _ hl1;have hp2:=hp1.same n2.same;refine ⟨_,rfl,l,rfl,⟨_,SqL.of hl2⟩,qjf (λp=>p.1*p.2) hl2 hp2 h2 (λp hp Q' hq=>⟨_,rfl,_,rfl,_,_,rfl,rfl,mulB p hp,hq⟩) λa3 H3 n3=>⟨a3,_,rfl,SqL.of n3.at_,?_⟩⟩;have hv:=n3.same _ _ (n2.same _ _ n1.at_);refine ⟨_,rfl,_,rfl,_,rfl,a1,_,rfl,SqL.of hv,by simp;omega,λlo hlo hlo'=>?_⟩;refine ⟨_,rfl,a1,_,rfl,SqL.of hv,by simp;omega,λhi hhi hhi'=>?_⟩
   walk_at "r";intro a H5 n5
   exact q hne a _ _ lo hi H5 ⟨rfl,rfl,hlo,hlo',hhi,hhi'⟩ (New.after (n1.same.trans (n2.same.trans n3.same)) n5)
include T in
theorem qt8:qba P w K mg base 1 "poured" ["one", "other"] qkp:=by
 obtain ⟨f,fd,F,hm⟩:=T.f_poured;have nd:=sc_poured.nd;refine F.def_ hm (F.ok sc_poured (λvs H Q E h=>?_) (λcdv A outer s H vs Q E hr h=>?_)) (F.binds λ_ _ _ _ _ _ us hl=>by obtain ⟨_,_,rfl⟩:=L2.lq2 hl;rfl)
 ·obtain ⟨a,b,m,t,lo,hi,m',t',lo',hi',rfl,_⟩:=h;rfl
 ·obtain ⟨a,b,m,t,lo,hi,m',t',lo',hi',rfl,ha,hb,q⟩:=h
  refine ⟨_,(qad (qak (qaq (jA4 (qae qat (jT (pv 0) qaa) (jT (pv 1) qaa)) (qae qat (jT (pv 0) qaa) (jT (pv 1) qaa)) (qai (qjw rfl) rfl T.b_min qqz (jA2 (jT (pv 0) qaa) (jT (pv 1) qaa))) (qai (qed rfl) rfl T.b_max qh0 (jA2 (jT (pv 0) qaa) (jT (pv 1) qaa))))))),?_⟩
  walk_at "r";intro p H1 n1
  exact q p H1 n1
include T in
theorem qhq:qba P w K mg base 1 "greater_edge" ["one", "other"] qgu:=by
 obtain ⟨f,fd,F,hm⟩:=T.f_greater_edge;have nd:=sc_greater_edge.nd;refine F.def_ hm (F.ok sc_greater_edge (λvs H Q E h=>?_) (λcdv A outer s H vs Q E hr h=>?_)) (F.binds λ_ _ _ _ _ _ us hl=>by obtain ⟨_,_,rfl⟩:=L2.lq2 hl;rfl)
 ·obtain ⟨x,y,rfl,_⟩:=h;rfl
 ·obtain ⟨x,y,rfl,hx,hy,q⟩:=h
  refine ⟨_,(jB3 (qa7 (jC qdv (pv 0) qbj) (qad (qak (pv 1))) qap) (qa7 (jC qdv (pv 1) qbj) (qad (qak (pv 0))) qap) (qak (qai (qed rfl) rfl T.b_max qh0 (jA2 (pv 0) (pv 1))))),?_⟩
  rcases hx with rfl|⟨i,rfl⟩
  ·exact ⟨_,rfl,rfl,_,rfl,qck ⟨_,rfl,q⟩⟩
  ·refine ⟨_,rfl,rfl,_,rfl,qdw ?_⟩
   rcases hy with rfl|⟨j,rfl⟩
   ·exact ⟨_,rfl,rfl,_,rfl,qck ⟨_,rfl,q⟩⟩
   ·exact ⟨_,rfl,rfl,_,rfl,qdw ⟨_,rfl,_,rfl,_,_,rfl,q⟩⟩
include T in
theorem qk8:qwg P w K mg base 2 "greater" ["one", "other"] [] (qh3 C_NoRule):=by
 obtain ⟨f,fd,F,hm⟩:=T.f_greater;have nd:=sc_greater.nd;refine ⟨f,fd,(F.okX sc_greater (λvs H Q E h=>?_) (λcdv A outer s H vs Q E hr h=>?_)),hm,F.kp,(F.binds λ_ _ _ _ _ _ us hl=>by obtain ⟨_,_,rfl⟩:=L2.lq2 hl;rfl)⟩
 ·obtain ⟨a,b,xs,ys,rfl,_⟩:=h;rfl
 ·obtain ⟨a,b,xs,ys,rfl,ha,hb,hx,hy,hz,q,hE⟩:=h
  refine ⟨_,(jB2 (qa7 (jC qjv (qai qa0 rfl T.b_len qch (jA1 (pv 0))) (qai qa0 rfl T.b_len qch (jA1 (pv 1)))) (qad (qc1 (qa1 ⟨rfl,rfl,rfl⟩) rfl T.ex_NoRule rfl T.mg_NoRule (jA1 qbb))) qap) (qak (qdf (vars:=[ "left", "right" ]) (frees:=[]) (fv:=[]) rfl (jL0 rfl) trivial (qm8 rfl T.b_zip (jA2 (pv 0) (pv 1))) (qci (by decide) (by decide)) (λ_ _ _ _=>(jG2 (jM 0 [ "left", "right" ]) (jM 1 [ "left", "right" ]))) (λ_ _ _ _=>qa5) (λ_ _ _ _=>(jF (qhq T) hr (jA2 (pv 0) (pv 1))))))),?_⟩;refine ⟨_,rfl,a,xs,rfl,.inl (SqL.of ha),_,rfl,b,ys,rfl,.inl (SqL.of hb),rfl,_,rfl,?_⟩
  by_cases he:xs.length=ys.length
  ·refine qyr (by rw[he]) ?_
   refine ⟨_,rfl,_,rfl,a,b,xs,ys,rfl,SqL.of ha,SqL.of hb,?_⟩;refine qut (xs:=xs) (λi zs H2=>Same H H2/\zs=(List.zipWith gE xs ys).take i) (Nat.le_of_lt (qam hz)) ⟨Same.refl _,rfl⟩ (λi zs H2 h2=>⟨SqL.of (h2.1 _ _ ha),SqL.of (h2.1 _ _ hb),by rw[h2.2];simp;omega⟩) ?_ ?_
   ·rintro i x y zs H2 p h1 h2 hn ⟨s2,rfl⟩
    have n:=qax (o:=.tup [x,y]) hn
    generalize upd H2 p _=H3 at n ⊢
    refine ⟨p,_,rfl,SqT.of n.at_,rfl,_,_,rfl,_,_,rfl,rfl,qhy (qck ?_)⟩;exact ⟨_,rfl,_,rfl,x,y,rfl,hx x (List.mem_of_getElem? h1),hy y (List.mem_of_getElem? h2),s2.trans n.same,(qjd _ i _ (zip_get h1 h2)).symm⟩
   ·rintro i zs H2 p hi ⟨s2,rfl⟩ hn
    have n:=qax (o:=.lst ((List.zipWith gE xs ys).take i)) hn;have e:(List.zipWith gE xs ys).take i=List.zipWith gE xs ys:=List.take_of_length_le (by rw[List.length_zipWith,hi];exact Nat.le_refl _);rw[e] at n ⊢;exact q he p _ (New.after s2 n)
  ·refine qDp (λz=>he (by injection z with z;exact Int.ofNat.inj z)) ?_
   exact ⟨by show 1<=sizeLine;decide,hE he⟩
include T in
theorem qt9:qAz P w K mg base C_Roll 4 "Roll" ["self", "rule", "day"] [] (qfj C_Roll C_Rule):=by
 obtain ⟨f,fd,F,M⟩:=T.f_Roll_init;have nd:=sc_Roll_init.nd;refine ⟨f,fd,(F.ok sc_Roll_init (λvs H Q E h=>?_) (λcdv A outer s H vs Q E hr h=>?_)),T.mg_Roll,M,(F.binds λ_ _ _ _ _ _ us hl=>by obtain ⟨_,_,_,rfl⟩:=L2.lq3 hl;rfl)⟩
 ·obtain ⟨ro,dx,ru,rl,ps,g,day,rfl,_⟩:=h;rfl
 ·obtain ⟨ro,dx,ru,rl,ps,g,day,rfl,hro,R,Pg,hd,q⟩:=h
  obtain ⟨dx2,hru⟩:=R.ob;have nru:ru≠ro:=qav hru hro (by intro z;injection z with _ _ z;have:=qry rl (gv g);rw[z] at this;cases this);refine ⟨_,(jB5 (qbx (pv 0) (pv 1) rfl) (qbx (pv 0) (pv 2) rfl) (qbx (pv 0) (jF (qig T) hr (jA2 (pv 1) (pv 2))) rfl) (qbx (pv 0) qf1 rfl) (qbx (pv 0) qf1 rfl)),?_⟩;refine ⟨_,rfl,_,rfl,ro,C_Roll,dx,[],rfl,hro,T.cl_Roll,T.na_Roll_kept_rule,(by show 0<1000;decide),λH1 b1 h1=>?_⟩;refine ⟨_,rfl,_,rfl,ro,C_Roll,dx,_,rfl,h1,T.cl_Roll,T.na_Roll_kept_day,(by show 1<1000;decide),λH2 b2 h2=>?_⟩;have R2:=(R.but2 b1 hro qcn (by intro xs z;cases z) nru).but2 b2 h1 qcn (by intro xs z;cases z) nru;refine ⟨_,rfl,_,rfl,ru,rl,ps,g,day,rfl,R2,Pg,hd,λle H3 n3=>?_⟩;refine ⟨_,rfl,ro,C_Roll,dx,_,rfl,n3.same _ _ h2,T.cl_Roll,T.na_Roll_kept_edges,(by show 2<1000;decide),λH4 b4 h4=>?_⟩;intro dy H5 n5;refine ⟨_,rfl,ro,C_Roll,dx,_,rfl,n5.same _ _ h4,T.cl_Roll,T.na_Roll_whole_ones,(by show 3<1000;decide),λH6 b6 h6=>?_⟩;intro dh H7 n7;refine ⟨_,rfl,ro,C_Roll,dx,_,rfl,n7.same _ _ h6,T.cl_Roll,T.na_Roll_cell_heaps,(by show 4<1000;decide),λH8 b8 h8=>?_⟩;have R8:=((((R2.same n3.same).but2 b4 (n3.same _ _ h2) qcn (by intro xs z;cases z) nru).same n5.same |>.but2 b6 (n5.same _ _ h4) qcn (by intro xs z;cases z) nru).same n7.same).but2 b8 (n7.same _ _ h6) qcn (by intro xs z;cases z) nru;have bb:But ro H H8:=λb o e hb=>b8 _ _ (n7.same _ _ (b6 _ _ (n5.same _ _ (b4 _ _ (n3.same _ _ (b2 _ _ (b1 _ _ e hb) hb)) hb)) hb)) hb
  have fr:∀ b,b≠ro->H8 b=none->H b=none:=λb hb h0=>by
   cases e:H b with
   | none=>rfl
   | some o=>rw[bb b o e hb] at h0;cases h0
  have e4:H4 le=some (.lst (eV ps g day)):=b4 _ _ n3.at_ (qav n3.at_ (n3.same _ _ h2) (by intro z;cases z));have e6:H6 dy=some (.dT []):=b6 _ _ n5.at_ (qav n5.at_ (n5.same _ _ h4) (by intro z;cases z));have up2:∀ b o,H b=some o->b≠ro->H2 b=some o:=λb o e hb=>b2 _ _ (b1 _ _ e hb) hb
  have fr2:∀ b,H2 b=none->H b=none:=λb h0=>by
   cases e:H b with
   | none=>rfl
   | some o =>
    by_cases hb:b=ro
    ·subst hb;rw[h2] at h0;cases h0
    ·rw[up2 b o e hb] at h0;cases h0
  have fr4:∀ b,H4 b=none->H2 b=none:=λb h0=>by
   cases e:H2 b with
   | none=>rfl
   | some o =>
    by_cases hb:b=ro
    ·subst hb;rw[h4] at h0;cases h0
    ·rw[b4 _ _ (n3.same _ _ e) hb] at h0;cases h0
  have fr6:∀ b,H6 b=none->H4 b=none:=λb h0=>by
   cases e:H4 b with
   | none=>rfl
   | some o =>
    by_cases hb:b=ro
    ·subst hb;rw[h6] at h0;cases h0
    ·rw[b6 _ _ (n5.same _ _ e) hb] at h0;cases h0
  refine q le dy dh H8 (fr2 _ n3.fresh) (fr2 _ (fr4 _ n5.fresh)) (fr2 _ (fr4 _ (fr6 _ n7.fresh))) ⟨⟨dx,h8⟩,R8,?_,?_,?_,qal e6 n7.fresh⟩ bb
  ·have e8:=b8 _ _ (n7.same _ _ (b6 _ _ (n5.same _ _ e4) (qav (n5.same _ _ e4) (n5.same _ _ h4) (by intro z;cases z)))) (qav (n7.same _ _ (b6 _ _ (n5.same _ _ e4) (qav (n5.same _ _ e4) (n5.same _ _ h4) (by intro z;cases z)))) (n7.same _ _ h6) (by intro z;cases z))
   show H8 le=some (.lst (((ps.map λp=>cut day p.1 p.2).map V.int) ++ [gv (g.map λz=>cut day z (lw ps))]))
   rw[<- (EdS.of Pg hd).eq];exact e8
  ·exact b8 _ _ (n7.same _ _ e6) (qav (n7.same _ _ e6) (n7.same _ _ h6) (by intro z;cases z))
  ·exact b8 _ _ n7.at_ (qav n7.at_ (n7.same _ _ h6) (by intro z;cases z))
include T in
theorem qdo:qi1 P w K mg base C_Roll 2 "pour_into_cell" ["self", "cell", "heap"] (qkt C_Roll C_Rule):=by
 obtain ⟨f,fd,F,hm⟩:=T.f_Roll_pour_into_cell;have nd:=sc_Roll_pour_into_cell.nd;refine ⟨f,fd,(F.ok sc_Roll_pour_into_cell (λvs H Q E h=>?_) (λcdv A outer s H vs Q E hr h=>?_)),hm,(F.binds λ_ _ _ _ _ _ us hl=>by obtain ⟨_,_,_,rfl⟩:=L2.lq3 hl;rfl)⟩
 ·obtain ⟨ro,D,c,h,s,w',x,rfl,_⟩:=h;rfl
 ·obtain ⟨ro,D,c,h,s',w',x,rfl,A',hc,hh,hZ,hl,q⟩:=h
  obtain ⟨dx,hob⟩:=A'.ob;refine ⟨_,(qad (qa7 (qpv (quq (qda hr) (pv 1) (qbc (pv 0) rfl))) (qad (qd6 (qda hr) (qbc (pv 0) rfl) (pv 1) (jF (qt8 T) hr (jA2 (qgg (qda hr) (qbc (pv 0) rfl) (pv 1) (λ_ _=>rfl)) (pv 2))) rfl)) (qad (qd6 (qda hr) (qbc (pv 0) rfl) (pv 1) (pv 2) rfl)))),?_⟩;refine ⟨_,rfl,_,rfl,ro,C_Roll,dx,_,_,rfl,hob,T.cl_Roll,T.na_Roll_cell_heaps,qh6 _ _ _ _ _,D.dh,_,rfl,DGet.t (k:=kk s' w') A'.he hc,_,rfl,?_⟩
  cases e:qbu D.Z (kk s' w') with
  | none =>
   refine qdw ?_;refine ⟨_,rfl,_,rfl,ro,C_Roll,dx,_,_,rfl,hob,T.cl_Roll,T.na_Roll_cell_heaps,qh6 _ _ _ _ _,_,rfl,D.dh,_,rfl,DPut.t (k:=kk s' w') A'.he hc (qam (by omega)),?_⟩;exact q h x _ (but_upd _ _ hh (qav hh A'.he (by intro z;cases z))) (.inl ⟨e,rfl⟩) (A'.putZ but_upd qau) but_upd
  | some xx =>
   obtain ⟨h0,m0,t0,lo0,hi0,rfl,hh0⟩:=hZ _ _ e;refine qck ?_;refine ⟨_,rfl,ro,C_Roll,dx,_,_,rfl,hob,T.cl_Roll,T.na_Roll_cell_heaps,qh6 _ _ _ _ _,_,rfl,D.dh,_,rfl,(by have:=DGet.t (k:=kk s' w') A'.he hc;rwa [e] at this),_,rfl,?_⟩;refine ⟨h0,h,m0,t0,lo0,hi0,x.1,x.2.1,x.2.2.1,x.2.2.2,rfl,hh0,hh,λp H1 n1=>?_⟩;have A1:=A'.same n1.same;refine ⟨_,rfl,ro,C_Roll,dx,_,_,rfl,n1.same _ _ hob,T.cl_Roll,T.na_Roll_cell_heaps,qh6 _ _ _ _ _,_,rfl,D.dh,_,rfl,DPut.t (k:=kk s' w') A1.he (n1.same _ _ hc) (qam (by omega)),?_⟩;refine q p (mg4 (m0,t0,lo0,hi0) x) _ (but_upd _ _ n1.at_ (qav n1.at_ A1.he (by intro z;cases z))) (.inr ⟨h0,(m0,t0,lo0,hi0),e,hh0,rfl⟩) (A1.putZ but_upd qau) λb o eo hb=>but_upd _ _ (n1.same _ _ eo) hb
include T in
theorem qpd:∃ f fd dT o n t,qfy P w K mg base (CX1 P w) 4 f fd ["self", "time", "value", "many"] (qe2 C_Roll C_Rule C_NoNumber)/\FunD K "put" "Roll.put" qe3 (.ref dT) f fd/\qp9 K C_Roll "put" f/\fd.defaults=.ref dT/\K.lookup dT=some o/\o.data=.seq #[.int 1 t] n:=by
 obtain ⟨f,fd,dT,o,n,t,F,M,h1,h2,h3⟩:=T.f_Roll_put;have nd:=sc_Roll_put.nd;refine ⟨f,fd,dT,o,n,t,(F.okX sc_Roll_put (λvs H Q E h=>?_) (λcdv A outer s H vs Q E hr h=>?_)),F,M,h1,h2,h3⟩
 ·obtain ⟨ro,D,t,v,m,rfl,_⟩:=h;rfl
 ·obtain ⟨ro,D,t,v,m,rfl,A',ok,ht,hm,hY,hZ,ly,lz,hE,q⟩:=h
  obtain ⟨dx,hob⟩:=A'.ob;refine ⟨_,(jB5 (qa7 (jC qhm (pv 3) qaa) (qad (qc1 (qa1 ⟨rfl,rfl,rfl⟩) rfl T.ex_NoNumber rfl T.mg_NoNumber (jA1 qbb))) qap) (jS 4 nd (jF (qsf T) hr (jA3 (qbc (pv 0) rfl) (qbc (pv 0) rfl) (pv 1)))) (qa7 (jC qdv (pv 4) qbj) (qad (qak qet)) qap) (qa7 (jC qec (jT (pv 4) qaa) qaa) (qad (qd6 (qda hr) (qbc (pv 0) rfl) (qaq (jA2 (pv 1) (pv 2))) (qae qat (qiz (qda hr) (qbc (pv 0) rfl) (qaq (jA2 (pv 1) (pv 2))) qaa ⟨rfl,rfl,rfl,rfl⟩) (pv 3)) rfl)) (qad (qa4 (qBk (pv 0) T.cl_Roll (qdo T) (hr.mono (by decide)) (jA2 (pv 4) (jF (qsg T) hr (jA1 (qay (jA1 (qaq (jA2 (pv 2) (pv 3)))))))))))) (qak qet)),?_⟩
  walk_at "r"
  refine qew (λz=>?_) λz=>?_
  ·exact ⟨by walk_at "c",hE (by simpa using z)⟩
  have z1:1<=m:=by
   have:¬ m<1:=by simpa using z
   omega
  have rok:=hm z1;have lo:=ok.pr.good.lo;refine ⟨_,rfl,ro,C_Roll,dx,_,_,rfl,hob,T.cl_Roll,T.na_Roll_kept_rule,qzq _ _ _ _ _,_,rfl,ro,C_Roll,dx,_,_,rfl,hob,T.cl_Roll,T.na_Roll_kept_edges,qvd _ _ _ _ _,_,rfl,D.ru,D.rl,D.ps,D.g,D.le,D.es,D.ge,t,rfl,A'.rule,A'.ed,ok.es,lo,ok.pr.good.hi,ok.pr.size,ht,λcv o H1 hc cat s1=>?_⟩;have hob1:=s1 _ _ hob;have A1:=A'.same s1
  cases o with
  | none =>
   cases (show cv=.non from cat)
   walk_at "r"
   exact q z1 none hc D H1 (.inl ⟨rfl,rfl⟩) A1 λc o e _ _=>s1 _ _ e
  | some p =>
   obtain ⟨c,rfl,hcv⟩:=cat;have hp:=CellOf.some_ hc (by rw[ok.es];exact lo) λw' hw'=>ok.pr.w1 hw'
   rcases hp with rfl|hp
   ·walk_at "r"
    refine ⟨ro,C_Roll,dx,_,_,rfl,hob1,T.cl_Roll,T.na_Roll_whole_ones,qnw _ _ _ _ _,D.dy,rfl,.inr ⟨_,.inl A1.yo⟩,?_⟩
    walk_at "r";intro p2 H2 n2
    have A2:=A1.same n2.same;refine ⟨_,DGet.t (k:=kk t v) A2.yo n2.at_,?_⟩;rw[qve hY]
    walk_at "r"
    refine ⟨ro,C_Roll,dx,_,_,rfl,n2.same _ _ hob1,T.cl_Roll,T.na_Roll_whole_ones,qnw _ _ _ _ _,?_⟩
    walk_at "r";intro p3 H3 n3
    have A3:=A2.same n3.same;refine ⟨D.dy,_,rfl,DPut.t (k:=kk t v) A3.yo n3.at_ (qam (by omega)),?_⟩
    show Q _ _
    exact q z1 (some (t,0)) hc _ _ (.inr (.inl ⟨rfl,rfl⟩)) (A3.putY but_upd qau) λc o e hc1 _=>but_upd _ _ (n3.same _ _ (n2.same _ _ (s1 _ _ e))) hc1
   ·walk_at "r"
    refine qew (λz=>?_) λz=>?_
    ·exact absurd z (by simp;omega)
    refine ⟨_,rfl,ro,dx,_,rfl,hob1,qt3 _ _ _ _ _,_,rfl,?_⟩
    walk_at "r";intro p2 H2 n2
    walk_at "r";intro p3 H3 n3
    refine ⟨p3,_,[(v,m)],rfl,n3.at_,.cons ⟨p2,rfl,n3.same _ _ n2.at_⟩ .nil,(λq hq=>by rw[List.mem_singleton.mp hq];exact rok),by simp,(λe=>by cases e),λ_ h4 a' b' lo' hi' H4 hof n4=>?_⟩;have s4:Same H1 H4:=n2.same.trans (n3.same.trans n4.same);refine ⟨ro,D,c,h4,p.1,p.2,(a',b',lo',hi'),rfl,A1.same s4,s4 _ _ hcv,n4.at_,hZ.same (s1.trans s4),lz,λh5 y H5 e5 po A5 b5=>?_⟩
    show Q _ _
    refine q z1 (some p) hc _ H5 (.inr (.inr ⟨p.1,p.2,h5,y.1,y.2.1,y.2.2.1,y.2.2.2,rfl,hp,rfl,e5,?_⟩)) A5 λc o e _ hc2=>b5 _ _ (s4 _ _ (s1 _ _ e)) hc2
    rcases po with ⟨po1,rfl⟩|⟨h0,x0,e1,e2,rfl⟩
    ·exact .inl ⟨po1,hof⟩
    ·obtain ⟨h0',m0',t0',lo0',hi0',e4,e9⟩:=hZ _ _ e1
     cases e4;rw[s4 _ _ (s1 _ _ e9)] at e2;have e6:v4 (m0',t0',lo0',hi0')=v4 x0:=by injection e2 with e2;injection e2
     have e7:=qzt e6;subst e7;exact .inr ⟨h0,m0',t0',lo0',hi0',a',b',lo',hi',e1,e9,hof,rfl,rfl,rfl,rfl⟩
include T in
theorem qk9:qwh P w K mg base C_Roll 4 "put" ["self", "time", "value", "many"] [] (qe2 C_Roll C_Rule C_NoNumber):=by
 obtain ⟨f,fd,dT,o,n,t,hf,F,M,h1,h2,h3⟩:=qpd (P:=P) (w:=w) (base:=base) T;refine ⟨f,fd,hf,M,qi0 h1 h2 h3 λus hl=>?_⟩;obtain ⟨oc,od,kV,doc,pm,an,cdv,ct,osl,rfl,lk,hcd⟩:=F.ex;obtain ⟨_,_,_,_,rfl⟩:=L2.lq4 (us:=us) (by simpa using hl);exact ⟨_,rfl,rfl⟩
theorem qz0 {H:Hp} {D:qa2} {s:Abs} {LY LZ:List (List Int)} (h:RAbs H D s LY LZ) (k:List Int):qbu D.Z (kI k)≠none↔s.z k≠none:=by
 cases e:s.z k with
 | none=>simp[h.zn k e]
 | some p=>obtain ⟨a,e1,_⟩:=h.zs k p e;rw[e1];simp
include T in
theorem qla:qi1 P w K mg base C_Roll 1 "young" ["self"] (qg1 C_Roll C_Rule):=by
 obtain ⟨f,fd,F,hm⟩:=T.f_Roll_young;have nd:=sc_Roll_young.nd;refine ⟨f,fd,(F.ok sc_Roll_young (λvs H Q E h=>?_) (λcdv A outer s H vs Q E hr h=>?_)),hm,(F.binds λ_ _ _ _ _ _ us hl=>by obtain ⟨_,rfl⟩:=L2.lq1 hl;rfl)⟩
 ·obtain ⟨ro,D,ab,LY,LZ,rfl,_⟩:=h;rfl
 ·obtain ⟨ro,D,ab,LY,LZ,rfl,A',RA,hL,q⟩:=h
  obtain ⟨dx,hob⟩:=A'.ob;obtain ⟨ks,dk,hks⟩:=RA.yk;have hkl:ks.length<64:=Nat.lt_of_le_of_lt (List.Nodup.length_le_of_subset dk.nd hks) hL;refine ⟨_,(qad (qak (qdf (vars:=[ "key" ]) (frees:=[ "self" ]) (fv:=[0]) rfl (jL1 rfl) ⟨⟨rfl,.inl rfl,rfl,.inl rfl⟩,trivial⟩ (qa8 (qai (qfi rfl) rfl T.b_sorted qb3 (jA1 (qbc (pv 0) rfl)))) (qco (by decide)) (λ_ _ _ _=>(jM 0 [ "key", "self" ])) (λ_ _ _ _=>qa5) (λ_ _ _ _=>(qae (show OpR _ _ (qnh K) from qi4) (pv 0) (qaq (jA1 (qgg (by exact qda hr) (show PE _ _ (qBc K _ _) from qbc (pv 1) rfl) (pv 0) (λ_ _=>rfl))))))))),?_⟩;refine ⟨_,rfl,ro,C_Roll,dx,_,_,rfl,hob,T.cl_Roll,T.na_Roll_whole_ones,qnw _ _ _ _ _,D.dy,D.Y,ks,rfl,A'.yo,dk.eq,hkl,dk.nd,dk.ne',λms zs l1 H1 pm sm tz n1=>?_⟩;have sk:SKeys ab.y ms:=SKeys.ofD dk (λk=>by rw[RA.yv];cases ab.y k<;>simp) pm sm;have hml:ms.length=ks.length:=pm.length_eq;have tz1:Tups H1 zs ms:=Tups.same n1.same (show Tups H zs ms from tz);have hzl:=tz1.length;refine ⟨l1,rfl,⟨_,SqL.of n1.at_⟩,qca (xs:=zs) (λi ys H2=>Same H1 H2/\Tups H2 ys ((ms.take i).map (qo7 ab))) (Nat.le_of_lt (qam (by omega))) ⟨Same.refl _,.nil⟩ (λi ys H2 h2=>⟨SqL.of (h2.1 _ _ n1.at_),by have:=h2.2.length;rw[this,List.length_map,List.length_take];omega⟩) ?_ ?_⟩
  ·rintro i x ys H2 hi ⟨s2,ty⟩
   obtain ⟨k,hki,b,rfl,hb⟩:=tz1.get hi;have hkm:k∈ms:=List.mem_of_getElem? hki;have hk2:=dk.ne k (pm.mem_iff.mp hkm);have s02:=n1.same.trans s2;have A2:=A'.same s02;have hb2:=s2 _ _ hb;obtain ⟨n,hn⟩:∃ n,ab.y k=some n:=by
    cases e:ab.y k with
    | none=>exact absurd e ((sk.mem k).mp hkm)
    | some n=>exact ⟨n,rfl⟩
   have hv:qbu D.Y (kI k)=some (.int n):=by rw[RA.yv,hn];rfl
   refine qan (qhy (qck ?_));refine ⟨_,rfl,_,rfl,ro,C_Roll,dx,_,_,rfl,s02 _ _ hob,T.cl_Roll,T.na_Roll_whole_ones,qnw _ _ _ _ _,_,rfl,D.dy,.int n,rfl,?_,(by show 1<=sizeLine;decide),λp3 H3 n3=>?_⟩
   ·have:=DGet.t (k:=kI k) A2.yo (by rw[qt4];exact hb2)
    rw[hv] at this;exact this
   ·refine ⟨b,p3,_,_,rfl,rfl,SqT.of (n3.same _ _ hb2),SqT.of n3.at_,(by intro z;have:=congrArg List.length z;rw[List.length_map,hk2] at this;cases this),(by intro z;cases z),(by rw[List.length_map,hk2];show 2+1<=sizeLine;decide),λp4 H4 n4=>?_⟩
    have s4:=n3.same.trans n4.same;refine ⟨s2.trans s4,?_⟩;rw[qjd _ i _ hki,List.map_append];refine Tups.snoc ⟨p4,rfl,?_⟩ (ty.same s4);rw[n4.at_]
    show some (HO.tup (k.map V.int ++ [V.int n]))=some (.tup ((k ++ [(ab.y k).getD 0]).map V.int))
    rw[hn,List.map_append];rfl
  ·rintro ys H2 l3 H3 ⟨s2,ty⟩ n3
   rw[hzl,List.take_length] at ty;exact q l3 ys ms H3 (n1.same.trans (s2.trans n3.same)) ((n1.same.trans s2).free n3.fresh) n3.at_ sk (by omega) (ty.same n3.same)
include T in
theorem qlb:qi1 P w K mg base C_Roll 1 "heaps" ["self"] (qg2 C_Roll C_Rule):=by
 obtain ⟨f,fd,F,hm⟩:=T.f_Roll_heaps;have nd:=sc_Roll_heaps.nd;refine ⟨f,fd,(F.ok sc_Roll_heaps (λvs H Q E h=>?_) (λcdv A outer s H vs Q E hr h=>?_)),hm,(F.binds λ_ _ _ _ _ _ us hl=>by obtain ⟨_,rfl⟩:=L2.lq1 hl;rfl)⟩
 ·obtain ⟨ro,D,ab,LY,LZ,rfl,_⟩:=h;rfl
 ·obtain ⟨ro,D,ab,LY,LZ,rfl,A',RA,hL,q⟩:=h
  obtain ⟨dx,hob⟩:=A'.ob;obtain ⟨ks,dk,hks⟩:=RA.zk;have hkl:ks.length<64:=Nat.lt_of_le_of_lt (List.Nodup.length_le_of_subset dk.nd hks) hL;refine ⟨_,(qad (qak (qdf (vars:=[ "cell" ]) (frees:=[ "self" ]) (fv:=[0]) rfl (jL1 rfl) ⟨⟨rfl,.inl rfl,rfl,.inl rfl⟩,trivial⟩ (qa8 (qai (qfi rfl) rfl T.b_sorted qb3 (jA1 (qbc (pv 0) rfl)))) (qco (by decide)) (λ_ _ _ _=>(jM 0 [ "cell", "self" ])) (λ_ _ _ _=>qa5) (λ_ _ _ _=>(qae (show OpR _ _ (qnh K) from qi4) (pv 0) (qgg (by exact qda hr) (show PE _ _ (qBc K _ _) from qbc (pv 1) rfl) (pv 0) (λ_ _=>rfl))))))),?_⟩;refine ⟨_,rfl,ro,C_Roll,dx,_,_,rfl,hob,T.cl_Roll,T.na_Roll_cell_heaps,qh6 _ _ _ _ _,D.dh,D.Z,ks,rfl,A'.he,dk.eq,hkl,dk.nd,dk.ne',λms zs l1 H1 pm sm tz n1=>?_⟩;have sk:SKeys ab.z ms:=SKeys.ofD dk (λk=>qz0 RA k) pm sm;have hml:ms.length=ks.length:=pm.length_eq;have tz1:Tups H1 zs ms:=Tups.same n1.same (show Tups H zs ms from tz);have hzl:=tz1.length;refine ⟨l1,rfl,⟨_,SqL.of n1.at_⟩,qca (xs:=zs) (λi ys H2=>Same H1 H2/\Tups H2 ys ((ms.take i).map (qo8 ab))) (Nat.le_of_lt (qam (by omega))) ⟨Same.refl _,.nil⟩ (λi ys H2 h2=>⟨SqL.of (h2.1 _ _ n1.at_),by have:=h2.2.length;rw[this,List.length_map,List.length_take];omega⟩) ?_ ?_⟩
  ·rintro i x ys H2 hi ⟨s2,ty⟩
   obtain ⟨k,hki,b,rfl,hb⟩:=tz1.get hi;have hkm:k∈ms:=List.mem_of_getElem? hki;have hk2:=dk.ne k (pm.mem_iff.mp hkm);have s02:=n1.same.trans s2;have A2:=A'.same s02;have hb2:=s2 _ _ hb;obtain ⟨n,hn⟩:∃ n,ab.z k=some n:=by
    cases e:ab.z k with
    | none=>exact absurd e ((sk.mem k).mp hkm)
    | some n=>exact ⟨n,rfl⟩
   obtain ⟨hh,hv,hht⟩:=RA.zs k n hn;refine qan (qhy (qck ?_));refine ⟨_,rfl,_,rfl,ro,C_Roll,dx,_,_,rfl,s02 _ _ hob,T.cl_Roll,T.na_Roll_cell_heaps,qh6 _ _ _ _ _,?_⟩;refine ⟨_,rfl,D.dh,.ref hh,rfl,?_,?_⟩
   ·have:=DGet.t (k:=kI k) A2.he (by rw[qt4];exact hb2)
    rw[hv] at this;exact this
   ·refine ⟨b,hh,_,_,rfl,rfl,SqT.of hb2,SqT.of (s02 _ _ hht),(by intro z;have:=congrArg List.length z;rw[List.length_map,hk2] at this;cases this),(by intro z;cases z),(by rw[List.length_map,hk2];show 2+4<=sizeLine;decide),λp4 H4 n4=>?_⟩
    refine ⟨s2.trans n4.same,?_⟩;rw[qjd _ i _ hki,List.map_append];refine Tups.snoc ⟨p4,rfl,?_⟩ (ty.same n4.same);rw[n4.at_]
    show some (HO.tup (k.map V.int ++ v4 n))=some (.tup ((k ++ i4 ((ab.z k).getD (0,0,0,0))).map V.int))
    rw[hn,List.map_append];rfl
  ·rintro ys H2 l3 H3 ⟨s2,ty⟩ n3
   rw[hzl,List.take_length] at ty;exact q l3 ys ms H3 (n1.same.trans (s2.trans n3.same)) ((n1.same.trans s2).free n3.fresh) n3.at_ sk (by omega) (ty.same n3.same)
theorem qxl (ru:Addr) (day:Int) (le dy dh p:Addr):qeb "kept_edges" (.ref p) (rof ru day le dy dh)=rof ru day p dy dh:=by rfl
inductive qlc (C R:Addr) (vs:List V) (H:Hp) (Q:VK) (E_:XK):Prop
 | mk:∀ (ru rl e:Addr) (ps:List (Int×Int)) (g:Option Int) (day:Int) (EV:List V) (es:List Int) (ge:Option Int),vs=[.ref ru,.int day,.ref e]->RuleAt R H ru rl ps g->Pr ps g->Bd day->H e=some (.lst EV)->(∀ v∈EV,Ed v)->EV.length<=10->EV.length=ps.length+1->EdS EV es ge->es.length=ps.length->(∀ ro c H',RollAt C R H' ro c->c.ps=ps->c.g=g->c.day=day->c.Y=[]->c.Z=[]->EdS (List.zipWith gE (eV ps g day) EV) c.es c.ge->c.es.length=ps.length->Same H H'->H c.dy=none->H c.dh=none->(c.ru=ru/\c.rl=rl/\H c.le=none)->Q (.ref ro) H')->qlc C R vs H Q E_
include T in
theorem qxm:qba P w K mg base 6 "begun" ["rule", "day", "edges"] (qlc C_Roll C_Rule):=by
 obtain ⟨f,fd,F,hm⟩:=T.f_begun;have nd:=sc_begun.nd;refine F.def_ hm (F.ok sc_begun (λvs H Q E h=>?_) (λcdv A outer s H vs Q E hr h=>?_)) (F.binds λ_ _ _ _ _ _ us hl=>by obtain ⟨_,_,_,rfl⟩:=L2.lq3 hl;rfl)
 ·obtain ⟨ru,rl,e,ps,g,day,EV,es,ge,rfl,_⟩:=h;rfl
 ·obtain ⟨ru,rl,e,ps,g,day,EV,es,ge,rfl,R,Pg,hd,he,hEd,h10,hEl,Ee,hln,q⟩:=h
  refine ⟨_,(jB3 (jS 3 nd (qqu (qt9 T) (hr.mono (by decide)) rfl .nil (jA2 (pv 0) (pv 1)))) (qbx (pv 3) (jX (qk8 T) hr (jA2 (qbc (pv 3) rfl) (pv 2))) rfl) (qak (pv 3))),?_⟩;refine ⟨_,rfl,_,rfl,λro dx H1 s1 f1 d1=>?_⟩;refine ⟨ro,dx,ru,rl,ps,g,day,rfl,d1,R.same s1,Pg,hd,λle dy dh H2 z1 z2 z3 A2 b2=>⟨rfl,?_⟩⟩;have s2:Same H H2:=b2.same s1 f1;obtain ⟨dx2,hob⟩:=A2.ob;have E0':=EdS.of Pg hd;have hob':H2 ro=some (.ins C_Roll dx2 (rof ru day le dy dh)):=hob;have hed:H2 le=some (.lst (eV ps g day)):=by rw[E0'.eq];exact A2.ed
  have l0:(eV ps g day).length=ps.length+1:=by rw[E0'.eq];simp
  have g5:=Pg.good.hi;refine ⟨_,rfl,ro,C_Roll,dx2,_,_,rfl,hob',T.cl_Roll,T.na_Roll_kept_edges,qvd _ _ _ _ _,_,rfl,le,e,_,EV,rfl,hed,s2 _ _ he,E0'.ed,hEd,by omega,λ_ p H3 n3=>?_,λhne=>absurd (by rw[l0,hEl]) hne⟩;refine ⟨_,rfl,ro,C_Roll,dx2,_,rfl,n3.same _ _ hob',T.cl_Roll,T.na_Roll_kept_edges,(by show 5<1000;decide),λH4 b4 h4=>?_⟩;rw[qxl] at h4;have A3:=A2.same n3.same;have M:=E0'.max Ee (by rw[List.length_map];exact hln.symm);have hro3:=n3.same _ _ hob';have hp4:H4 p=some (.lst (List.zipWith gE (eV ps g day) EV)):=b4 _ _ n3.at_ (qav n3.at_ hro3 (by intro z;cases z));obtain ⟨dxr,hru⟩:=A3.rule.ob;have nru:ru≠ro:=qav hru hro3 (by intro z;injection z with _ _ z;have:=qry rl (gv g);have z':rf rl (gv g)=rof ru day le dy dh:=z;rw[z'] at this;cases this);have s04:Same H H4:=b4.same (s2.trans n3.same) f1;refine ⟨_,rfl,q ro { qCr ru rl p dy dh ps g day with es:=_,ge:=_ } H4 ⟨⟨dx2,h4⟩,A3.rule.but2 b4 hro3 qcn (by intro xs z;cases z) nru,?_,b4 _ _ A3.yo (qav A3.yo hro3 (by intro z;cases z)),b4 _ _ A3.he (qav A3.he hro3 (by intro z;cases z)),A3.ne⟩ rfl rfl rfl rfl rfl M ?_ s04 (s1.free z2) (s1.free z3) ⟨rfl,rfl,s2.free n3.fresh⟩⟩
  ·rw[M.eq] at hp4;exact hp4
  ·show (List.zipWith _ _ _).length=ps.length
   rw[List.length_zipWith,List.length_map];omega
theorem EdS.uniq {E:List V} {a b:List Int} {g h:Option Int} (x:EdS E a g) (y:EdS E b h):a=b/\g=h:=by
 have e:=x.eq.symm.trans y.eq;have hl:(a.map V.int).length=(b.map V.int).length:=by have:=congrArg List.length e;simp only[List.length_append,List.length_singleton] at this;omega
 obtain ⟨e1,e2⟩:=List.append_inj e hl;refine ⟨?_,?_⟩
 ·have:∀ {a b:List Int},a.map V.int=b.map V.int->a=b:=fun {a b} e=>by
   induction a generalizing b with
   | nil=>cases b with
    | nil=>rfl
    | cons _ _=>cases e
   | cons x t ih=>cases b with
    | nil=>cases e
    | cons y u=>injection e with h1 h2;injection h1 with h1;rw[h1,ih h2]
  exact this e1
 ·injection e2 with h1 _
  cases g<;>cases h<;>first|rfl|(injection h1 with h1;rw[h1])|cases h1
theorem qxn {x y:V} (hx:Ed x) (hy:Ed y):gE x (gE x y)=gE x y:=by
 rcases hx with rfl|⟨i,rfl⟩<;>rcases hy with rfl|⟨j,rfl⟩<;>try rfl
 ·show V.int (if i>i then i else i)=V.int i
  split<;>rfl
 ·show V.int (if (if j>i then j else i)>i then (if j>i then j else i) else i)=V.int (if j>i then j else i)
  congr 1
  repeat' split
  all_goals omega
theorem qn8:∀ {xs ys:List V},(∀ v∈xs,Ed v)->(∀ v∈ys,Ed v)->List.zipWith gE xs (List.zipWith gE xs ys)=List.zipWith gE xs ys
 | [],ys,_,_=>by simp
 | x :: xs,[],_,_=>rfl
 | x :: xs,y :: ys,h1,h2=>by
  simp only[List.zipWith_cons_cons];rw[qxn (h1 x List.mem_cons_self) (h2 y List.mem_cons_self),qn8 (λv hv=>h1 v (List.mem_cons_of_mem _ hv)) λv hv=>h2 v (List.mem_cons_of_mem _ hv)]
theorem qxo {x:V} (hx:Ed x):gE x x=x:=by
 rcases hx with rfl|⟨i,rfl⟩
 ·rfl
 ·show V.int (if i>i then i else i)=V.int i
  split<;>rfl
theorem qjj:∀ {xs:List V},(∀ v∈xs,Ed v)->List.zipWith gE xs xs=xs
 | [],_=>rfl
 | x :: xs,h=>by
  rw[List.zipWith_cons_cons,qxo (h x List.mem_cons_self),qjj λv hv=>h v (List.mem_cons_of_mem _ hv)]
theorem qxp {a b:List Int} (g1 g2:Option Int) (h:a.length=b.length):Later b (List.zipWith mx a b) g2 (qw9 g1 g2) where
 len:=by rw[List.length_zipWith];omega
 up:=λi x y hx hy=>by
  obtain ⟨u,v,hu,hv,rfl⟩:=qt5 hy;rw[hx] at hv;cases hv;exact (qzv u x).2.1
 gn:=λz hz=>by
  subst hz
  cases g1 with
  | none=>exact ⟨z,rfl,Int.le_refl _⟩
  | some j=>exact ⟨mx j z,rfl,(qzv j z).2.1⟩
theorem RR.mono {C R:Addr} {H:Hp} {ro:Addr} {c:qa2} {s:Abs} {LY LZ LY' LZ':List (List Int)} (h:RR C R H ro c s LY LZ) (a:LY ⊆ LY') (b:LZ ⊆ LZ'):RR C R H ro c s LY' LZ':=
 let ⟨Y,Z,A,B⟩:=h;⟨Y,Z,A,B.mono a b⟩
structure R63 (C R:Addr) (H:Hp) (r:Addr) (q:qa2) (ps:List (Int×Int)) (g:Option Int) (d:Int) (es:List Int) (ge:Option Int) (rs:List Rd3) (LY LZ:List (List Int)):Prop where
 R:RR C R H r q (qdh (qct (ps.map (·.2)) es ge) rs) LY LZ
 ok:qh7 q
 qp:q.ps=ps
 qg:q.g=g
 qd:q.day=d
 qe:q.es=es
 qh:q.ge=ge
 P:Pr ps g
 wb:∀ p∈ps,p.2<=10 ^ 35
 E:EdS (es.map V.int ++ [gv ge]) es ge
 F:Fall (ps.map (·.2)) es ge
 dom:List.zipWith gE (eV ps g d) (es.map V.int ++ [gv ge])=es.map V.int ++ [gv ge]
 hd:Bd d
 hr:∀ r∈rs,RLt r
 ly:LY.length<=rs.length
 lz:LZ.length<=rs.length
structure qCa (ps:List (Int×Int)) (g:Option Int) (D:Int) (EV:List V) (es:List Int) (ge:Option Int) (fs:List Int) (fg:Option Int):Prop where
 Ef:EdS (List.zipWith gE (eV ps g D) EV) fs fg
 F:Fall (ps.map (·.2)) fs fg
 L:Later es fs ge fg
 eq:List.zipWith gE (eV ps g D) EV=fs.map V.int ++ [gv fg]
 dom:List.zipWith gE (eV ps g D) (fs.map V.int ++ [gv fg])=fs.map V.int ++ [gv fg]
 E:EdS (fs.map V.int ++ [gv fg]) fs fg
theorem qDu {ps:List (Int×Int)} {g:Option Int} (P:Pr ps g) {D:Int} (hD:Bd D) {es:List Int} {ge:Option Int} {EV:List V} (E:EdS EV es ge) (F:Fall (ps.map (·.2)) es ge):∃ fs fg,qCa ps g D EV es ge fs fg:=by
 have l1:(ps.map λp=>cut D p.1 p.2).length=es.length:=by have:=F.len;rw[List.length_map] at this ⊢;exact this
 have M:=(EdS.of P hD).max E l1;have M':=M;rw[M.eq] at M';refine ⟨_,_,M,(Fall.of P D).max F,qxp _ _ l1,M.eq,?_,M'⟩;rw[<- M.eq];exact qn8 (EdS.of P hD).ed E.ed
section
variable {C R N:Addr} {H H':Hp} {r ru rl:Addr} {q:qa2} {ps ps2:List (Int×Int)} {g g2:Option Int} {d D:Int} {es fs:List Int} {ge fg:Option Int} {rs:List Rd3} {LY LZ:List (List Int)} {Q:VK} {E:XK}
theorem R63.same (e:Same H H') (h:R63 C R H r q ps g d es ge rs LY LZ):R63 C R H' r q ps g d es ge rs LY LZ:={ h with R:=h.R.same e }
theorem R63.cellD (h:R63 C R H r q ps g d es ge rs LY LZ):TB.cellD q=qct (ps.map (·.2)) es ge:=by unfold TB.cellD;rw[h.qp,h.qe,h.qh]
theorem R63.put {t:Rd3} (h:R63 C R H r q ps g d es ge rs LY LZ) (h50:rs.length<60) (ht:RLt t) (k:∀ H',R63 C R H' r q ps g d es ge (rs ++ [t]) ([t.1,t.2.1] :: LY) (qx5 (qct (ps.map (·.2)) es ge) t :: LZ)->But2 q.dy q.dh H H'->Q (.bl (qct (ps.map (·.2)) es ge t.1).isSome) H'):qe2 C R N [.ref r,.int t.1,.int t.2.1,.int t.2.2] H Q E:=by
 have l1:=h.ly;have l2:=h.lz;have ht':=ht;obtain ⟨t1,t2⟩:=ht;have ec:=h.cellD;refine (h.R.mono (List.subset_cons_self [t.1,t.2.1] _) (List.subset_cons_self (qx5 (qct (ps.map (·.2)) es ge) t) _)).putX h.ok (by unfold qje;omega) t2.2.1 (by unfold qpq;dsimp only;omega) (by rw[List.length_cons];omega) (by rw[List.length_cons];omega) List.mem_cons_self (λa w e=>by rw[ec] at e;unfold qx5;rw[e];exact List.mem_cons_self) λH3 R3 b3=>?_
 rw[ec] at R3 ⊢;refine k H3 { h with R:=?_,hr:=λr hr=>(List.mem_append.mp hr).elim (h.hr r) λz=>by rw[List.mem_singleton.mp z];exact ht',ly:=by rw[List.length_cons,List.length_append,List.length_singleton];omega,lz:=by rw[List.length_cons,List.length_append,List.length_singleton];omega } b3;rw[qh8];exact R3
end
theorem qbf {n:Nat} (h:n<=20000):n<=sizeLine:=by rw[sizeLine_eq];omega
def qas (n:Int) (x:List Nat):Prop:=1<=x.length/\(x.length:Int)<=n/\∀ c∈x,97<=c/\c<=122
instance (n:Int) (x:List Nat):Decidable (qas n x):=inferInstanceAs (Decidable (_/\_/\_))
def qbz (n:Int):V->Bool
 | .str s=>decide (qas n s.cps.toList)
 | _=>false
theorem qcp (n:Int) (x:List Nat):qbz n (.str (S x))=decide (qas n x):=rfl
theorem qz1 (c:Nat):decide (c∈(Str.ofString "abcdefghijklmnopqrstuvwxyz").cps.toList)=decide (97<=c/\c<=122):=by
 have e:(Str.ofString "abcdefghijklmnopqrstuvwxyz").cps.toList=List.range' 97 26:=by decide +kernel
 rw[e,decide_eq_decide,List.mem_range'_1];omega
def qua:Sp:=λvs H Q _=>∃ v n,vs=[v,.int n]/\TextV H v/\∀ H',Same H H'->Q (.bl (qbz n v)) H'
include T in
theorem qdp:qba P w K mg base 1 "is_small_word" ["thing", "longest"] qua:=by
 obtain ⟨f,fd,F,hm⟩:=T.f_is_small_word;have nd:=sc_is_small_word.nd;refine F.def_ hm (F.ok sc_is_small_word (λvs H Q E h=>?_) (λcdv A outer s H vs Q E hr h=>?_)) (F.binds λ_ _ _ _ _ _ us hl=>by obtain ⟨_,_,rfl⟩:=L2.lq2 hl;rfl)
 ·obtain ⟨v,n,rfl,_⟩:=h;rfl
 ·obtain ⟨v,n,rfl,hv,q⟩:=h
  refine ⟨_,(jB2 (qa7 (qdt (qc4 (qai qcy rfl T.b_isinstance qaz (jA2 (pv 0) (qd4 (v:=.ty "str") rfl T.b_str qyw rfl))))) (qad (qak qet)) qap) (qak (qfc (jD qye qaa (qai qkc rfl T.b_len qch (jA1 (pv 0)))) (qfc (jD qye (qai qkc rfl T.b_len qch (jA1 (pv 0))) (pv 1)) (qju (qai (qng rfl) rfl T.b_all qux (jA1 (qdf (vars:=[ "sign" ]) (frees:=[]) (fv:=[]) rfl (jL0 rfl) trivial (qu3 (pv 0)) (qco (by decide)) (λ_ _ _ _=>(jM 0 [ "sign" ])) (λ_ _ _ _=>qa5) (λ_ _ _ _=>(qp6 qzd (pv 0) (qcw (v:=.str "abcdefghijklmnopqrstuvwxyz") rfl T.c_LETTERS.choose_spec ⟨_,rfl⟩) rfl)))))))))),?_⟩
  rcases hv with ⟨x,rfl,hx⟩|hv
  ·have no:¬ qas n x->Q (V.bl false) H:=λz=>by
    have:=q H (Same.refl _);rw[qcp,decide_eq_false z] at this;exact this
   refine ⟨_,rfl,_,_,_,_,rfl,.str _,qwu K,_,rfl,qdw ?_⟩
   walk_at "r"
   refine ⟨qbf (by omega),?_⟩
   walk_at "r"
   by_cases l1:(1:Int)<=x.length
   ·rw[if_pos (decide_eq_true l1)]
    walk_at "r"
    refine ⟨qbf (by omega),?_⟩
    walk_at "r"
    by_cases l2:(x.length:Int)<=n
    ·rw[if_pos (decide_eq_true l2)]
     refine ⟨_,rfl,_,rfl,qu4 (x:=x) (λi ys H2=>Same H H2/\ys=(x.take i).map λd=>V.bl (decide (97<=d/\d<=122))) (qbf (by omega)) ⟨Same.refl _,rfl⟩ (λi ys H2 h2=>by rw[h2.2,List.length_map,List.length_take];omega) ?_ ?_⟩
     ·rintro i d ys H2 hi ⟨s2,rfl⟩
      refine qan (qhy (qck ?_));refine ⟨_,rfl,d,_,rfl,rfl,s2,?_⟩;rw[qz1];exact (qA1 _ x i d hi).symm
     ·rintro ys H2 p H3 ⟨s2,rfl⟩ n3
      rw[List.take_length] at n3;refine ⟨p,x.map λd=>decide (97<=d/\d<=122),rfl,SqL.of (by rw[List.map_map];exact n3.at_),?_⟩;have:=q H3 (s2.trans n3.same);have ef:decide (qas n x)=(x.map λd=>decide (97<=d/\d<=122)).all id:=by
       rw[Bool.eq_iff_iff,decide_eq_true_iff,List.all_eq_true]
       constructor
       ·intro h b hb
        obtain ⟨d,hd,rfl⟩:=List.mem_map.mp hb;exact decide_eq_true (h.2.2 d hd)
       ·intro h
        refine ⟨by omega,l2,λd hd=>?_⟩;exact of_decide_eq_true (h _ (List.mem_map.mpr ⟨d,hd,rfl⟩))
      rw[qcp,ef] at this;exact this
    ·rw[if_neg (λy=>l2 (of_decide_eq_true y))]
     exact no λh=>l2 h.2.1
   ·rw[if_neg (λy=>l1 (of_decide_eq_true y))]
    exact no λh=>l1 (by have:=h.1;omega)
  ·obtain ⟨t,ty,kt⟩:=OddV.ty (K:=K) hv
   refine ⟨_,rfl,_,_,_,_,rfl,ty,kt,_,rfl,qck ?_⟩;have:=q H (Same.refl _)
   rcases hv with rfl|⟨i,rfl⟩|⟨b,rfl⟩|⟨p,xs,rfl,h⟩|⟨p,xs,rfl,h⟩<;>exact this
def qld (n:Int):Sp:=λvs H Q _=>∃ v,vs=[v]/\TextV H v/\∀ H',Same H H'->Q (.bl (qbz n v)) H'
include T in
theorem qle:qba P w K mg base 2 "is_name" ["thing"] (qld 12):=by
 obtain ⟨f,fd,F,hm⟩:=T.f_is_name;have nd:=sc_is_name.nd;refine F.def_ hm (F.ok sc_is_name (λvs H Q E h=>?_) (λcdv A outer s H vs Q E hr h=>?_)) (F.binds λ_ _ _ _ _ _ us hl=>by obtain ⟨_,rfl⟩:=L2.lq1 hl;rfl)
 ·obtain ⟨v,rfl,_⟩:=h;rfl
 ·obtain ⟨v,rfl,hv,q⟩:=h
  refine ⟨_,(qad (qak (jF (qdp T) hr (jA2 (pv 0) (qcw (v:=.int 12) rfl T.c_LONGEST_NAME.choose_spec ⟨_,rfl⟩))))),?_⟩;exact ⟨_,rfl,v,12,rfl,hv,q⟩
include T in
theorem qsh:qba P w K mg base 2 "is_mark" ["thing"] (qld 8):=by
 obtain ⟨f,fd,F,hm⟩:=T.f_is_mark;have nd:=sc_is_mark.nd;refine F.def_ hm (F.ok sc_is_mark (λvs H Q E h=>?_) (λcdv A outer s H vs Q E hr h=>?_)) (F.binds λ_ _ _ _ _ _ us hl=>by obtain ⟨_,rfl⟩:=L2.lq1 hl;rfl)
 ·obtain ⟨v,rfl,_⟩:=h;rfl
 ·obtain ⟨v,rfl,hv,q⟩:=h
  refine ⟨_,(qad (qak (jF (qdp T) hr (jA2 (pv 0) (qcw (v:=.int 8) rfl T.c_LONGEST_MARK.choose_spec ⟨_,rfl⟩))))),?_⟩;exact ⟨_,rfl,v,8,rfl,hv,q⟩
theorem qsi:(Str.ofString "")=S []:=by decide +kernel
theorem small_iff {n:Int} {v:V}:qbz n v=true↔∃ x,v=tS x/\qas n x:=by
 constructor
 ·intro h
  obtain ⟨s,rfl⟩:∃ s,v=.str s:=by
   cases v<;>first|exact ⟨_,rfl⟩|exact Bool.noConfusion h
  exact ⟨s.cps.toList,by rw[show tS s.cps.toList=V.str (S s.cps.toList) from rfl,qCn],of_decide_eq_true h⟩
 ·rintro ⟨x,rfl,h⟩
  rw[qcp];exact decide_eq_true h
def qbm (vs:List V):Prop:=(∀ v∈vs,qbz 8 v=true)/\vs.Nodup/\vs.length<=8
theorem qjk {n:Int}:∀ {vs:List V},(∀ v∈vs,qbz n v=true)->∃ ms:List (List Nat),vs=ms.map tS/\∀ m∈ms,qas n m
 | [],_=>⟨[],rfl,by simp⟩
 | v :: vs,h=>by
  obtain ⟨x,rfl,hx⟩:=small_iff.mp (h v List.mem_cons_self);obtain ⟨ms,rfl,hm⟩:=qjk (vs:=vs) λv hv=>h v (List.mem_cons_of_mem _ hv)
  exact ⟨x :: ms,rfl,λm hm'=>by
   rcases List.mem_cons.mp hm' with rfl|z
   ·exact hx
   ·exact hm m z⟩
theorem qc7 {a b:List Nat} (h:tS a=tS b):a=b:=qre (V.str.inj h)
theorem qhf {α β:Type} {f:α->β} (inj:∀ a b,f a=f b->a=b):∀ {l:List α},(l.map f).Nodup↔l.Nodup
 | []=>by simp
 | x :: l=>by
  rw[List.map_cons,List.nodup_cons,List.nodup_cons,qhf inj];refine and_congr ⟨λh z=>h (List.mem_map.mpr ⟨x,z,rfl⟩),λh z=>?_⟩ Iff.rfl;obtain ⟨y,hy,e⟩:=List.mem_map.mp z;exact h (inj _ _ e ▸ hy)
theorem qlf {α:Type} [DecidableEq α]:∀ l:List α,qdb l=l.length↔l.Nodup
 | []=>by simp[qdb]
 | x :: l=>by
  have:=qf3 l;have ih:=qlf l;unfold qdb;rw[List.nodup_cons]
  by_cases e:x∈l
  ·rw[if_pos e,List.length_cons]
   exact ⟨λh=>by omega,λh=>absurd e h.1⟩
  ·rw[if_neg e,List.length_cons]
   exact ⟨λh=>⟨e,ih.mp (by omega)⟩,λh=>by have:=ih.mpr h.2;omega⟩
def qsj (N:Addr):Sp:=λvs H Q E=>∃ (l:Addr) (us:List V),vs=[.ref l]/\H l=some (.lst us)/\(∀ v∈us,TextV H v)/\us.length<=60/\(qbm us->∀ H',Same H H'->Q .non H')/\(¬ qbm us->∀ H',Same H H'->E (.ref N) none H')
include T in
theorem qjl:qwg P w K mg base 3 "check_marks" ["marks"] [] (qsj C_NoMark):=by
 obtain ⟨f,fd,F,hm⟩:=T.f_check_marks;have nd:=sc_check_marks.nd;refine ⟨f,fd,(F.okX sc_check_marks (λvs H Q E h=>?_) (λcdv A outer s H vs Q E hr h=>?_)),hm,F.kp,(F.binds λ_ _ _ _ _ _ us hl=>by obtain ⟨_,rfl⟩:=L2.lq1 hl;rfl)⟩
 ·obtain ⟨l,us,rfl,_⟩:=h;rfl
 ·obtain ⟨l,us,rfl,hl,hv,hz,q1,q2⟩:=h
  refine ⟨_,(jB3 (qa7 (qdt (qc4 (qai (qng rfl) rfl T.b_all qux (jA1 (qdf (vars:=[ "mark" ]) (frees:=[]) (fv:=[]) rfl (jL0 rfl) trivial (qa8 (pv 0)) (qco (by decide)) (λ_ _ _ _=>(jM 0 [ "mark" ])) (λ_ _ _ _=>qa5) (λ_ _ _ _=>(jF (qsh T) hr (jA1 (pv 0))))))))) (qad (qc1 (qa1 ⟨rfl,rfl,rfl⟩) rfl T.ex_NoMark rfl T.mg_NoMark (jA1 qbb))) qap) (qa7 (jC qjv (qai qrp rfl T.b_len qch (jA1 (qbk (qro rfl) rfl T.b_set qzf (jA1 (pv 0))))) (qai qa0 rfl T.b_len qch (jA1 (pv 0)))) (qad (qc1 (qa1 ⟨rfl,rfl,rfl⟩) rfl T.ex_NoMark rfl T.mg_NoMark (jA1 qbb))) qap) (qa7 (jC qvw (qai qa0 rfl T.b_len qch (jA1 (pv 0))) (qcw (v:=.int 8) rfl T.c_MOST_MARKS.choose_spec ⟨_,rfl⟩)) (qad (qc1 (qa1 ⟨rfl,rfl,rfl⟩) rfl T.ex_NoMark rfl T.mg_NoMark (jA1 qbb))) qap)),?_⟩;refine ⟨_,rfl,l,rfl,⟨_,SqL.of hl⟩,qca (xs:=us) (λi ys H2=>Same H H2/\ys=(us.take i).map λv=>V.bl (qbz 8 v)) (qbf (by omega)) ⟨Same.refl _,rfl⟩ (λi ys H2 h2=>⟨SqL.of (h2.1 _ _ hl),by rw[h2.2,List.length_map,List.length_take];omega⟩) ?_ ?_⟩
  ·rintro i v ys H2 hi ⟨s2,rfl⟩
   refine qan (qhy (qck ?_));refine ⟨_,rfl,v,rfl,(hv v (List.mem_of_getElem? hi)).same s2,λH3 s3=>⟨s2.trans s3,?_⟩⟩;exact (qA1 _ us i v hi).symm
  ·rintro ys H2 p H3 ⟨s2,rfl⟩ n3
   rw[List.take_length] at n3;have s03:=s2.trans n3.same;refine ⟨p,us.map λv=>qbz 8 v,rfl,SqL.of (by rw[List.map_map];exact n3.at_),_,rfl,?_⟩
   by_cases a1:∀ v∈us,qbz 8 v=true
   ·have e1:(us.map λv=>qbz 8 v).all id=true:=by
     rw[List.all_eq_true];intro b hb;obtain ⟨v,hv,rfl⟩:=List.mem_map.mp hb;exact a1 v hv
    rw[e1];refine qdw ?_;obtain ⟨ms,rfl,hm⟩:=qjk a1;have hl3:=s03 _ _ hl;rw[show (ms.map tS)=(ms.map S).map V.str by rw[List.map_map];rfl] at hl3;refine ⟨_,rfl,l,ms.map S,rfl,SqL.of hl3,by simp at hz ⊢;omega,λst H4 n4=>?_⟩;have hl4:=n4.same _ _ hl3;have su:=qf3 (ms.map S).reverse;rw[List.length_reverse,List.length_map] at su;rw[List.length_map] at hz;refine ⟨st,_,rfl,n4.at_,(by rw[List.length_map];omega),_,rfl,l,_,rfl,.inl (SqL.of hl4),rfl,_,rfl,?_⟩;have s04:=s03.trans n4.same;have ed:(!decide (V.int (qdb (ms.map S).reverse:Nat)=V.int (((ms.map S).map V.str).length:Nat))) = !decide (ms.map tS).Nodup:=by
     congr 1
     rw[decide_eq_decide];rw[qhf (λ_ _=>qc7),<- qhf (f:=S) (λ_ _=>qre),<- (List.reverse_perm (ms.map S)).nodup_iff,<- qlf]
     simp
     omega
    rw[ed]
    by_cases a2:(ms.map tS).Nodup
    ·rw[decide_eq_true a2]
     refine qdw ?_;refine ⟨_,rfl,l,_,rfl,.inl (SqL.of hl4),_,_,rfl,rfl,_,rfl,?_⟩;refine qew (λz=>?_) λz=>?_
     ·walk_at "r"
      refine q2 (λh=>?_) H4 s04;have:=of_decide_eq_true z;have:=h.2.2
      simp at *
      omega
     ·refine q1 ⟨a1,a2,?_⟩ H4 s04
      have:=of_decide_eq_false (Bool.not_eq_true _ ▸ z)
      simp at *
      omega
    ·rw[decide_eq_false a2]
     refine qck ?_
     walk_at "r"
     exact q2 (λh=>a2 h.2.1) H4 s04
   ·have e1:(us.map λv=>qbz 8 v).all id=false:=by
     rw[Bool.eq_false_iff];intro h;rw[List.all_eq_true] at h;exact a1 λv hv=>h _ (List.mem_map.mpr ⟨v,hv,rfl⟩)
    rw[e1];refine qck ?_
    walk_at "r"
    exact q2 (λh=>a1 h.1) H3 s03
abbrev RC:=Addr×qa2×List Rd3×List (List Nat)
abbrev qcq:=List (List Nat×RC)
structure EdOk (B:qc2) (es:List Int) (ge:Option Int):Prop where
 P:Pr B.ps B.g
 wb:∀ p∈B.ps,p.2<=10 ^ 35
 E:EdS (es.map V.int ++ [gv ge]) es ge
 F:Fall (B.ps.map (·.2)) es ge
 dom:List.zipWith gE (eV B.ps B.g B.day) (es.map V.int ++ [gv ge])=es.map V.int ++ [gv ge]
 hd:Bd B.day
structure RB (CR R:Addr) (H:Hp) (B:qc2) (es:List Int) (ge:Option Int) (e:RC):Prop where
 ex:∃ LY LZ,R63 CR R H e.1 e.2.1 B.ps B.g B.day es ge e.2.2.1 LY LZ
 ru:e.2.1.ru=B.ru
 rl:e.2.1.rl=B.rl
 n50:e.2.2.1.length<=60
structure BkC (C CR R:Addr) (H:Hp) (b:Addr) (B:qc2) (es:List Int) (ge:Option Int) (X:qcq):Prop where
 ob:∃ dx,H b=some (.ins C dx (bof B.ru B.day B.le B.dm B.dr))
 rule:RuleAt R H B.ru B.rl B.ps B.g
 ed:H B.le=some (.lst (es.map V.int ++ [gv ge]))
 ms:∃ kvs,H B.dm=some (.dK kvs)/\Ents (λv (e:RC)=>TxtL H v (qby e.2.2.2)) kvs X
 rs:∃ kvs,H B.dr=some (.dK kvs)/\Ents (λv e=>v=.ref e.1/\RB CR R H B es ge e) kvs X
 ne:B.dm≠B.dr
 ok:EdOk B es ge
section
variable {C CR R b:Addr} {B:qc2} {es:List Int} {ge:Option Int} {X:qcq} {H H':Hp}
theorem RB.same {e:RC} (h:RB CR R H B es ge e) (s:Same H H'):RB CR R H' B es ge e:=⟨let ⟨a,b,r⟩:=h.ex;⟨a,b,r.same s⟩,h.ru,h.rl,h.n50⟩
theorem BkC.same (h:BkC C CR R H b B es ge X) (s:Same H H'):BkC C CR R H' b B es ge X:=
 ⟨let ⟨dx,e⟩:=h.ob;⟨dx,s _ _ e⟩,h.rule.same s,s _ _ h.ed,let ⟨k,e,r⟩:=h.ms;⟨k,s _ _ e,r.imp λ_ _ q=>q.same s⟩,let ⟨k,e,r⟩:=h.rs;⟨k,s _ _ e,r.imp λ_ _ ⟨e1,e2⟩=>⟨e1,e2.same s⟩⟩,h.ne,h.ok⟩
theorem RB.frame {e:RC} {q:qa2} {Y Z:KV} (h:RB CR R H B es ge e) (bu:But2 q.dy q.dh H H') (hy:H q.dy=some (.dT Y)) (hz:H q.dh=some (.dT Z)) (ap:ApartD e.2.1 q):RB CR R H' B es ge e:=
 ⟨let ⟨a,b,r⟩:=h.ex;⟨a,b,{ r with R:=r.R.frame bu hy hz ap.1 ap.2.1 ap.2.2.1 ap.2.2.2 }⟩,h.ru,h.rl,h.n50⟩
theorem TxtL.but2 {v:V} {ms:List (List Nat)} {a c:Addr} {Y Z:KV} (h:TxtL H v ms) (bu:But2 a c H H') (hy:H a=some (.dT Y)) (hz:H c=some (.dT Z)):TxtL H' v ms:=
 let ⟨x,e,q⟩:=h;⟨x,e,bu.keep hy hz q (by intro K z;cases z)⟩
def XOk (X:qcq):Prop:=X.Pairwise λp p'=>p.1≠p'.1/\ApartD p.2.2.1 p'.2.2.1
theorem ApartD.symm {a b:qa2} (h:ApartD a b):ApartD b a:=⟨h.1.symm,h.2.2.1.symm,h.2.1.symm,h.2.2.2.symm⟩
theorem XOk.one (h:XOk X) {x:List Nat} {e e':RC} (h1:(x,e)∈X) (h2:(x,e')∈X):e=e':=by
 unfold XOk at h
 induction X with
 | nil=>cases h1
 | cons p X ih =>
  rw[List.pairwise_cons] at h
  rcases List.mem_cons.mp h1 with z1|z1<;>rcases List.mem_cons.mp h2 with z2|z2
  ·exact (Prod.mk.inj (z1.trans z2.symm)).2
  ·exact absurd (show p.1=x by rw[<- z1]) (h.1 _ z2).1
  ·exact absurd (show p.1=x by rw[<- z2]) (h.1 _ z1).1
  ·exact ih h.2 z1 z2
theorem XOk.apart (h:XOk X) {x y:List Nat} {e e':RC} (h1:(x,e)∈X) (h2:(y,e')∈X) (n:y≠x):ApartD e'.2.1 e.2.1:=by
 unfold XOk at h
 induction X with
 | nil=>cases h1
 | cons p X ih =>
  rw[List.pairwise_cons] at h
  rcases List.mem_cons.mp h1 with z1|z1<;>rcases List.mem_cons.mp h2 with z2|z2
  ·exact absurd (Prod.mk.inj (z1.trans z2.symm)).1.symm n
  ·have:=(h.1 _ z2).2;rw[<- z1] at this;exact this.symm
  ·have:=(h.1 _ z1).2;rw[<- z2] at this;exact this
  ·exact ih h.2 z1 z2
def qlg (x:List Nat) (r:Rd3) (p:List Nat×RC):List Nat×RC:=if p.1=x then (p.1,p.2.1,p.2.2.1,p.2.2.2.1 ++ [r],p.2.2.2.2) else p
theorem qih (x:List Nat) (r:Rd3) (p:List Nat×RC):(qlg x r p).1=p.1:=by unfold qlg;split<;>rfl
theorem qsk (x:List Nat) (r:Rd3) (p:List Nat×RC):(qlg x r p).2.2.1=p.2.2.1:=by unfold qlg;split<;>rfl
theorem qz2 (x:List Nat) (r:Rd3) (p:List Nat×RC):(qlg x r p).2.1=p.2.1:=by unfold qlg;split<;>rfl
theorem qvm (x:List Nat) (r:Rd3) (p:List Nat×RC):(qlg x r p).2.2.2.2=p.2.2.2.2:=by unfold qlg;split<;>rfl
theorem XOk.add (h:XOk X) (x:List Nat) (r:Rd3):XOk (X.map (qlg x r)):=by
 unfold XOk at h ⊢;rw[List.pairwise_map];exact h.imp fun {p p'} z=>by rw[qih,qih,qsk,qsk];exact z
theorem Ents.map2 {α β:Type} {R1:V->α->Prop} {R2:V->β->Prop} {kvs:List (Key×V)} {E:List (List Nat×α)} {f:List Nat×α->List Nat×β} (h:Ents R1 kvs E) (h1:∀ p,(f p).1=p.1) (g:∀ p∈E,∀ v,R1 v p.2->R2 v (f p).2):Ents R2 kvs (E.map f):=by
 unfold Ents at h ⊢
 induction h with
 | nil=>exact .nil
 | cons a t ih=>exact .cons ⟨by rw[h1];exact a.1,g _ List.mem_cons_self _ a.2⟩ (ih λp m=>g p (List.mem_cons_of_mem _ m))
theorem BkC.put {x:List Nat} {e:RC} {r:Rd3} {Y Z:KV} (h:BkC C CR R H b B es ge X) (ok:XOk X) (hx:(x,e)∈X) (bu:But2 e.2.1.dy e.2.1.dh H H') (hy:H e.2.1.dy=some (.dT Y)) (hz:H e.2.1.dh=some (.dT Z)) (R':RB CR R H' B es ge (e.1,e.2.1,e.2.2.1 ++ [r],e.2.2.2)):BkC C CR R H' b B es ge (X.map (qlg x r)):=by
 refine ⟨let ⟨dx,e⟩:=h.ob;⟨dx,bu.keep hy hz e (by intro K z;cases z)⟩,h.rule.keep2 bu hy hz,bu.keep hy hz h.ed (by intro K z;cases z),?_,?_,h.ne,h.ok⟩
 ·obtain ⟨k,e1,q⟩:=h.ms
  exact ⟨k,bu.keep hy hz e1 (by intro K z;cases z),q.map2 (qih x r) λp _ v z=>by rw[qvm];exact z.but2 bu hy hz⟩
 ·obtain ⟨k,e1,q⟩:=h.rs
  refine ⟨k,bu.keep hy hz e1 (by intro K z;cases z),q.map2 (qih x r) λp hp v z=>⟨by rw[qz2];exact z.1,?_⟩⟩
  by_cases n:p.1=x
  ·have ep:p.2=e:=ok.one (x:=x) (by rw[<- n];exact hp) hx
   unfold qlg;rw[if_pos n,ep];exact R'
  ·unfold qlg
   rw[if_neg n];exact z.2.frame bu hy hz (ok.apart hx (y:=p.1) hp n)
end
theorem qpe (es:List Int) (ge:Option Int):Later es es ge ge where
 len:=rfl
 up:=λi x y hx hy=>by rw[hx] at hy;cases hy;exact Int.le_refl _
 gn:=λz hz=>⟨z,hz,Int.le_refl _⟩
theorem EdOk.of {ru rl le dm dr:Addr} {ps:List (Int×Int)} {g:Option Int} {day:Int} (P:Pr ps g) (wb:∀ p∈ps,p.2<=10 ^ 35) (hd:Bd day):EdOk ⟨ru,rl,le,dm,dr,ps,g,day⟩ (ps.map λp=>cut day p.1 p.2) (g.map λz=>cut day z (lw ps)):=by
 have Ex:=EdS.of P hd;have Ex':=Ex;rw[Ex.eq] at Ex';refine ⟨P,wb,Ex',Fall.of P day,?_,hd⟩
 show List.zipWith gE (eV ps g day) _=_
 rw[<- Ex.eq];exact qjj Ex.ed
inductive qlh (C CR R:Addr) (vs:List V) (H:Hp) (Q:VK) (E_:XK):Prop
 | mk:∀ (b dx ru rl:Addr) (ps:List (Int×Int)) (g:Option Int) (day:Int),vs=[.ref b,.ref ru,.int day]->H b=some (.ins C dx [])->RuleAt R H ru rl ps g->Pr ps g->(∀ p∈ps,p.2<=10 ^ 35)->Bd day->(∀ le dm dr H',BkC C CR R H' b ⟨ru,rl,le,dm,dr,ps,g,day⟩ (ps.map λp=>cut day p.1 p.2) (g.map λz=>cut day z (lw ps)) []->H le=none->H dm=none->H dr=none->But b H H'->Q .non H')->qlh C CR R vs H Q E_
include T in
theorem qub:qAz P w K mg base C_Book 4 "Book" ["self", "rule", "day"] [] (qlh C_Book C_Roll C_Rule):=by
 obtain ⟨f,fd,F,M⟩:=T.f_Book_init;have nd:=sc_Book_init.nd;refine ⟨f,fd,(F.ok sc_Book_init (λvs H Q E h=>?_) (λcdv A outer s H vs Q E hr h=>?_)),T.mg_Book,M,(F.binds λ_ _ _ _ _ _ us hl=>by obtain ⟨_,_,_,rfl⟩:=L2.lq3 hl;rfl)⟩
 ·obtain ⟨ro,dx,ru,rl,ps,g,day,rfl,_⟩:=h;rfl
 ·obtain ⟨ro,dx,ru,rl,ps,g,day,rfl,hro,R,Pg,wb,hd,q⟩:=h
  obtain ⟨dx2,hru⟩:=R.ob;have nru:ru≠ro:=qav hru hro (by intro z;injection z with _ _ z;have:=qry rl (gv g);rw[z] at this;cases this);refine ⟨_,(jB5 (qbx (pv 0) (pv 1) rfl) (qbx (pv 0) (pv 2) rfl) (qbx (pv 0) (jF (qig T) hr (jA2 (pv 1) (pv 2))) rfl) (qbx (pv 0) qkb rfl) (qbx (pv 0) qkb rfl)),?_⟩;refine ⟨_,rfl,_,rfl,ro,C_Book,dx,[],rfl,hro,T.cl_Book,T.na_Book_kept_rule,(by show 0<1000;decide),λH1 b1 h1=>?_⟩;refine ⟨_,rfl,_,rfl,ro,C_Book,dx,_,rfl,h1,T.cl_Book,T.na_Book_kept_day,(by show 1<1000;decide),λH2 b2 h2=>?_⟩;have R2:=(R.but2 b1 hro qcn (by intro xs z;cases z) nru).but2 b2 h1 qcn (by intro xs z;cases z) nru;refine ⟨_,rfl,_,rfl,ru,rl,ps,g,day,rfl,R2,Pg,hd,λle H3 n3=>?_⟩;refine ⟨_,rfl,ro,C_Book,dx,_,rfl,n3.same _ _ h2,T.cl_Book,T.na_Book_kept_edges,(by show 2<1000;decide),λH4 b4 h4=>?_⟩;intro dy H5 n5;refine ⟨_,rfl,ro,C_Book,dx,_,rfl,n5.same _ _ h4,T.cl_Book,T.na_Book_kept_marks,(by show 3<1000;decide),λH6 b6 h6=>?_⟩;intro dh H7 n7;refine ⟨_,rfl,ro,C_Book,dx,_,rfl,n7.same _ _ h6,T.cl_Book,T.na_Book_kept_rolls,(by show 4<1000;decide),λH8 b8 h8=>?_⟩;have R8:=((((R2.same n3.same).but2 b4 (n3.same _ _ h2) qcn (by intro xs z;cases z) nru).same n5.same |>.but2 b6 (n5.same _ _ h4) qcn (by intro xs z;cases z) nru).same n7.same).but2 b8 (n7.same _ _ h6) qcn (by intro xs z;cases z) nru;have bb:But ro H H8:=λb o e hb=>b8 _ _ (n7.same _ _ (b6 _ _ (n5.same _ _ (b4 _ _ (n3.same _ _ (b2 _ _ (b1 _ _ e hb) hb)) hb)) hb)) hb
  have e4:H4 le=some (.lst (eV ps g day)):=b4 _ _ n3.at_ (qav n3.at_ (n3.same _ _ h2) (by intro z;cases z));have e6:H6 dy=some (.dK []):=b6 _ _ n5.at_ (qav n5.at_ (n5.same _ _ h4) (by intro z;cases z));have fb:∀ {G G':Hp} {o:HO},(∀ b o,G b=some o->b≠ro->G' b=some o)->G' ro=some o->∀ b,G' b=none->G b=none:=fun {G G' o} k1 k2 b h0=>by
   cases e:G b with
   | none=>rfl
   | some u =>
    by_cases hb:b=ro
    ·subst hb;rw[k2] at h0;cases h0
    ·rw[k1 b u e hb] at h0;cases h0
  have fr2:=fb (G:=H) (G':=H2) (λb o e hb=>b2 _ _ (b1 _ _ e hb) hb) h2;have fr4:=fb (G:=H2) (G':=H4) (λb o e hb=>b4 _ _ (n3.same _ _ e) hb) h4;have fr6:=fb (G:=H4) (G':=H6) (λb o e hb=>b6 _ _ (n5.same _ _ e) hb) h6;refine q le dy dh H8 ⟨⟨dx,h8⟩,R8,?_,⟨[],?_,.nil⟩,⟨[],?_,.nil⟩,qal e6 n7.fresh,EdOk.of Pg wb hd⟩ (fr2 _ n3.fresh) (fr2 _ (fr4 _ n5.fresh)) (fr2 _ (fr4 _ (fr6 _ n7.fresh))) bb
  ·have e8:=b8 _ _ (n7.same _ _ (b6 _ _ (n5.same _ _ e4) (qav (n5.same _ _ e4) (n5.same _ _ h4) (by intro z;cases z)))) (qav (n7.same _ _ (b6 _ _ (n5.same _ _ e4) (qav (n5.same _ _ e4) (n5.same _ _ h4) (by intro z;cases z)))) (n7.same _ _ h6) (by intro z;cases z))
   show H8 le=some (.lst (((ps.map λp=>cut day p.1 p.2).map V.int) ++ [gv (g.map λz=>cut day z (lw ps))]))
   rw[<- (EdS.of Pg hd).eq];exact e8
  ·exact b8 _ _ (n7.same _ _ e6) (qav (n7.same _ _ e6) (n7.same _ _ h6) (by intro z;cases z))
  ·exact b8 _ _ n7.at_ (qav n7.at_ (n7.same _ _ h6) (by intro z;cases z))
inductive qii (C CR R:Addr) (vs:List V) (H:Hp) (Q:VK) (E_:XK):Prop
 | mk:∀ (b:Addr) (B:qc2) (es:List Int) (ge:Option Int) (X:qcq),vs=[.ref b]->BkC C CR R H b B es ge X->X.length<64->(∀ l H',New H H' l (.lst ((qby (X.map (·.1))).map tS))->Q (.ref l) H')->qii C CR R vs H Q E_
include T in
theorem qli:qi1 P w K mg base C_Book 1 "names" ["self"] (qii C_Book C_Roll C_Rule):=by
 obtain ⟨f,fd,F,hm⟩:=T.f_Book_names;have nd:=sc_Book_names.nd;refine ⟨f,fd,(F.ok sc_Book_names (λvs H Q E h=>?_) (λcdv A outer s H vs Q E hr h=>?_)),hm,(F.binds λ_ _ _ _ _ _ us hl=>by obtain ⟨_,rfl⟩:=L2.lq1 hl;rfl)⟩
 ·obtain ⟨b,B,es,ge,X,rfl,_⟩:=h;rfl
 ·obtain ⟨b,B,es,ge,X,rfl,A',hz,q⟩:=h
  obtain ⟨dx,hob⟩:=A'.ob;obtain ⟨kvs,hk,en⟩:=A'.rs;refine ⟨_,(qad (qak (qai (qhp rfl) rfl T.b_sorted qb3 (jA1 (qbc (pv 0) rfl))))),?_⟩;exact ⟨_,rfl,b,C_Book,dx,_,_,rfl,hob,T.cl_Book,T.na_Book_kept_rolls,qkw _ _ _ _ _,B.dr,kvs,X.map (·.1),rfl,.inl hk,en.keys,by simpa using hz,q⟩
inductive qij (C CR R:Addr) (vs:List V) (H:Hp) (Q:VK) (E_:XK):Prop
 | mk:∀ (b:Addr) (B:qc2) (es:List Int) (ge:Option Int) (X:qcq),vs=[.ref b]->BkC C CR R H b B es ge X->(∀ p H',New H H' p (.lst (es.map V.int ++ [gv ge]))->Q (.ref p) H')->qij C CR R vs H Q E_
include T in
theorem qlj:qi1 P w K mg base C_Book 1 "edges" ["self"] (qij C_Book C_Roll C_Rule):=by
 obtain ⟨f,fd,F,hm⟩:=T.f_Book_edges;have nd:=sc_Book_edges.nd;refine ⟨f,fd,(F.ok sc_Book_edges (λvs H Q E h=>?_) (λcdv A outer s H vs Q E hr h=>?_)),hm,(F.binds λ_ _ _ _ _ _ us hl=>by obtain ⟨_,rfl⟩:=L2.lq1 hl;rfl)⟩
 ·obtain ⟨b,B,es,ge,X,rfl,_⟩:=h;rfl
 ·obtain ⟨b,B,es,ge,X,rfl,A',q⟩:=h
  obtain ⟨dx,hob⟩:=A'.ob;refine ⟨_,(qad (qak (qbk qbt rfl T.b_list qcz (jA1 (qbc (pv 0) rfl))))),?_⟩;exact ⟨_,rfl,b,C_Book,dx,_,_,rfl,hob,T.cl_Book,T.na_Book_kept_edges,qr9 _ _ _ _ _,B.le,_,rfl,.inl (SqL.of A'.ed),q⟩
def qhr (X:qcq) (v:V):Prop:=∃ x,v=tS x/\qas 12 x/\x∈X.map (·.1)
inductive qik (C CR R N:Addr) (vs:List V) (H:Hp) (Q:VK) (E:XK):Prop
 | mk:∀ (b:Addr) (B:qc2) (es:List Int) (ge:Option Int) (X:qcq) (v:V),vs=[.ref b,v]->BkC C CR R H b B es ge X->TextV H v->(qhr X v->∀ H',Same H H'->Q .non H')->(¬ qhr X v->∀ H',Same H H'->E (.ref N) none H')->qik C CR R N vs H Q E
include T in
theorem qb6:qwh P w K mg base C_Book 3 "check_enrolled" ["self", "name"] [] (qik C_Book C_Roll C_Rule C_NoName):=by
 obtain ⟨f,fd,F,hm⟩:=T.f_Book_check_enrolled;have nd:=sc_Book_check_enrolled.nd;refine ⟨f,fd,(F.okX sc_Book_check_enrolled (λvs H Q E h=>?_) (λcdv A outer s H vs Q E hr h=>?_)),hm,(F.binds λ_ _ _ _ _ _ us hl=>by obtain ⟨_,_,rfl⟩:=L2.lq2 hl;rfl)⟩
 ·obtain ⟨b,B,es,ge,X,v,rfl,_⟩:=h;rfl
 ·obtain ⟨b,B,es,ge,X,v,rfl,A',hv,q1,q2⟩:=h
  obtain ⟨dx,hob⟩:=A'.ob;obtain ⟨kvs,hk,en⟩:=A'.rs;refine ⟨_,(qad (qa7 (PW.pt (qhl (qdt (qc4 (jF (qle T) hr (jA1 (pv 1))))) (qfb (qpv (qqi (qda hr) (pv 1) (qbc (pv 0) rfl)))))) (qad (qc1 (qa1 ⟨rfl,rfl,rfl⟩) rfl T.ex_NoName rfl T.mg_NoName (jA1 qbb))) qap)),?_⟩;refine ⟨_,rfl,v,rfl,hv,λH1 s1=>⟨_,rfl,?_⟩⟩
  cases hs:qbz 12 v with
  | false =>
   refine qck ?_
   walk_at "r"
   refine q2 (fun ⟨x,e,hx,_⟩=>?_) H1 s1;rw[small_iff.mpr ⟨x,e,hx⟩] at hs;cases hs
  | true =>
   refine qdw ?_;obtain ⟨x,rfl,hx⟩:=small_iff.mp hs;refine ⟨_,rfl,_,rfl,b,C_Book,dx,_,_,rfl,s1 _ _ hob,T.cl_Book,T.na_Book_kept_rolls,qkw _ _ _ _ _,B.dr,_,rfl,DGet.k (k:=kS x) (s1 _ _ hk),_,rfl,?_⟩
   by_cases hin:x∈X.map (·.1)
   ·obtain ⟨u,a,e1,_,_⟩:=en.has hin
    rw[e1];refine qdw ?_;exact q1 ⟨x,rfl,hx,hin⟩ H1 s1
   ·rw[en.hasn hin]
    refine qck ?_
    walk_at "r"
    refine q2 (fun ⟨y,e,_,hy⟩=>hin ?_) H1 s1;rw[qc7 e];exact hy
inductive qn9 (C CR R N:Addr) (vs:List V) (H:Hp) (Q:VK) (E:XK):Prop
 | mk:∀ (b:Addr) (B:qc2) (es:List Int) (ge:Option Int) (X:qcq) (v:V),vs=[.ref b,v]->BkC C CR R H b B es ge X->TextV H v->(∀ x e,v=tS x->qas 12 x->(x,e)∈X->RB CR R H B es ge e->∀ H',Same H H'->Q (.ref e.1) H')->(¬ qhr X v->∀ H',Same H H'->E (.ref N) none H')->qn9 C CR R N vs H Q E
include T in
theorem qdq:qwh P w K mg base C_Book 4 "own_roll" ["self", "name"] [] (qn9 C_Book C_Roll C_Rule C_NoName):=by
 obtain ⟨f,fd,F,hm⟩:=T.f_Book_own_roll;have nd:=sc_Book_own_roll.nd;refine ⟨f,fd,(F.okX sc_Book_own_roll (λvs H Q E h=>?_) (λcdv A outer s H vs Q E hr h=>?_)),hm,(F.binds λ_ _ _ _ _ _ us hl=>by obtain ⟨_,_,rfl⟩:=L2.lq2 hl;rfl)⟩
 ·obtain ⟨b,B,es,ge,X,v,rfl,_⟩:=h;rfl
 ·obtain ⟨b,B,es,ge,X,v,rfl,A',hv,q1,q2⟩:=h
  obtain ⟨dx,hob⟩:=A'.ob;refine ⟨_,(jB2 (qa4 (qff (qa1 ⟨rfl,rfl,rfl⟩) (pv 0) T.cl_Book (qb6 T) (hr.mono (by decide)) .nil (jA1 (pv 1)))) (qak (qgg (qda hr) (qbc (pv 0) rfl) (pv 1) (λ_ _=>rfl)))),?_⟩;refine ⟨_,rfl,b,dx,_,rfl,hob,bno,_,rfl,b,B,es,ge,X,v,rfl,A',hv,λhin H1 s1=>?_,λhn H1 s1=>q2 hn H1 s1⟩;obtain ⟨x,rfl,hx,hxE⟩:=hin;obtain ⟨kvs,hk,en⟩:=A'.rs;obtain ⟨u,a,e1,e2,rfl,re⟩:=en.has hxE;have g:=DGet.k (k:=kS x) (s1 _ _ hk);rw[e1] at g;exact ⟨_,rfl,b,C_Book,dx,_,_,rfl,s1 _ _ hob,T.cl_Book,T.na_Book_kept_rolls,qkw _ _ _ _ _,_,rfl,B.dr,_,rfl,g,q1 x a rfl hx e2 re H1 s1⟩
inductive qf6 (C CR R N M:Addr) (vs:List V) (H:Hp) (Q:VK) (E:XK):Prop
 | mk:∀ (b:Addr) (B:qc2) (es:List Int) (ge:Option Int) (X:qcq) (v:V) (t va m:Int),vs=[.ref b,v,.int t,.int va,.int m]->BkC C CR R H b B es ge X->TextV H v->qje t->(1<=m->RLt (t,va,m))->(∀ x e,(x,e)∈X->e.2.2.1.length<60)->(¬ qhr X v->∀ H',Same H H'->E (.ref N) none H')->(∀ x e,v=tS x->qas 12 x->(x,e)∈X->m<1->∀ H',Same H H'->E (.ref M) none H')->(∀ x e,v=tS x->qas 12 x->(x,e)∈X->1<=m->∀ H',But2 e.2.1.dy e.2.1.dh H H'->RB CR R H' B es ge (e.1,e.2.1,e.2.2.1 ++ [(t,va,m)],e.2.2.2)->Q (.bl (qct (B.ps.map (·.2)) es ge t).isSome) H')->qf6 C CR R N M vs H Q E
include T in
theorem qpf:∃ f fd dT o n t,qfy P w K mg base (CX1 P w) 5 f fd ["self", "name", "time", "value", "many"] (qf6 C_Book C_Roll C_Rule C_NoName C_NoNumber)/\FunD K "put" "Book.put" qe4 (.ref dT) f fd/\qp9 K C_Book "put" f/\fd.defaults=.ref dT/\K.lookup dT=some o/\o.data=.seq #[.int 1 t] n:=by
 obtain ⟨f,fd,dT,o,n,t,F,M,h1,h2,h3⟩:=T.f_Book_put;have nd:=sc_Book_put.nd;refine ⟨f,fd,dT,o,n,t,(F.okX sc_Book_put (λvs H Q E h=>?_) (λcdv A outer s H vs Q E hr h=>?_)),F,M,h1,h2,h3⟩
 ·obtain ⟨b,B,es,ge,X,v,t,va,m,rfl,_⟩:=h;rfl
 ·obtain ⟨b,B,es,ge,X,v,t,va,m,rfl,A',hv,ht,hrl,h50,q1,q2,q3⟩:=h
  obtain ⟨dx,hob⟩:=A'.ob;refine ⟨_,(qad (qak (qff (qa1 ⟨rfl,rfl,rfl⟩) (qff (qa1 ⟨rfl,rfl,rfl⟩) (pv 0) T.cl_Book (qdq T) (hr.mono (by decide)) .nil (jA1 (pv 1))) T.cl_Roll (qk9 T) (hr.mono (by decide)) .nil (jA3 (pv 2) (pv 3) (pv 4))))),?_⟩;refine ⟨_,rfl,b,dx,_,rfl,hob,bno,_,rfl,b,B,es,ge,X,v,rfl,A',hv,λx e ev hx hm re H1 s1=>?_,λhn H1 s1=>q1 hn H1 s1⟩;obtain ⟨LY,LZ,r⟩:=re.ex;have r1:=r.same s1;obtain ⟨dx1,hob1⟩:=r1.R.obj;have l1:=r1.ly;have l2:=r1.lz;have l5:=h50 x e hm;refine ⟨e.1,dx1,_,rfl,hob1,qxd _ _ _ _ _,_,rfl,_,rfl,_,rfl,?_⟩;simp only[qm2,List.cons_append,List.nil_append,List.append_nil]
  by_cases hm1:1<=m
  ·refine r1.put (t:=(t,va,m)) l5 (hrl hm1) λH2 R2 b2=>?_
   exact q3 x e ev hx hm hm1 H2 (λc o z n1 n2=>b2 _ _ (s1 _ _ z) n1 n2) ⟨⟨_,_,R2⟩,re.ru,re.rl,by show (e.2.2.1 ++ [_]).length<=60;rw[List.length_append,List.length_singleton];omega⟩
  ·exact r1.R.putN r1.ok ht (by omega) (by omega) (by omega) (q2 x e ev hx hm (by omega) H1 s1)
include T in
theorem qlk:qwh P w K mg base C_Book 5 "put" ["self", "name", "time", "value", "many"] [] (qf6 C_Book C_Roll C_Rule C_NoName C_NoNumber):=by
 obtain ⟨f,fd,dT,o,n,t,hf,F,M,h1,h2,h3⟩:=qpf (P:=P) (w:=w) (base:=base) T;refine ⟨f,fd,hf,M,qi0 h1 h2 h3 λus hl=>?_⟩;obtain ⟨oc,od,kV,doc,pm,an,cdv,ct,osl,rfl,lk,hcd⟩:=F.ex;obtain ⟨_,_,_,_,_,rfl⟩:=L2.lq5 (us:=us) (by simpa using hl);exact ⟨_,rfl,rfl⟩
def rmS (H:Hp) (L:List Addr):Hp:=λc=>if c∈L then none else H c
section
variable {H H':Hp} {L:List Addr}
theorem qbe {c:Addr} {o:HO} (h:H c=some o) (n:c ∉ L):rmS H L c=some o:=by unfold rmS;rw[if_neg n];exact h
theorem qbi {c:Addr} {o:HO} (h:rmS H L c=some o):H c=some o/\c ∉ L:=by
 unfold rmS at h
 split at h
 ·cases h
 ·rename_i n;exact ⟨h,n⟩
theorem qc3:Same (rmS H L) H:=λc o e=>(qbi e).1
theorem qjm (s:Same H H'):Same (rmS H L) (rmS H' L):=λc o e=>qbe (s _ _ (qbi e).1) (qbi e).2
theorem qsl {d:Addr} (b:But d H H'):But d (rmS H L) (rmS H' L):=λc o e n=>qbe (b _ _ (qbi e).1 n) (qbi e).2
theorem quc {a d:Addr} (b:But2 a d H H'):But2 a d (rmS H L) (rmS H' L):=λc o e n m=>qbe (b _ _ (qbi e).1 n m) (qbi e).2
end
def LsL (H:Hp) (L:List Addr):Prop:=∀ l∈L,∃ zs,H l=some (.lst zs)
theorem LsL.no {H:Hp} {L:List Addr} (h:LsL H L) {c:Addr} {o:HO} (e:H c=some o) (n:∀ zs,o≠.lst zs):c ∉ L:=λz=>by
 obtain ⟨zs,q⟩:=h c z;rw[q] at e;exact n zs (Option.some.inj e).symm
theorem LsL.same {H H':Hp} {L:List Addr} (h:LsL H L) (s:Same H H'):LsL H' L:=λl hl=>let ⟨zs,e⟩:=h l hl;⟨zs,s _ _ e⟩
section
variable {H:Hp} {L:List Addr}
theorem Pairs.rmS (hL:LsL H L):∀ {xs:List V} {ps:List (Int×Int)},Pairs H xs ps->Pairs (TB.rmS H L) xs ps
 | _,_,.nil=>.nil
 | _,_,.cons ⟨a,e,q⟩ t=>.cons ⟨a,e,qbe q (hL.no q (by intro zs z;cases z))⟩ (Pairs.rmS hL t)
theorem RuleAt.rmS {R r l:Addr} {ps:List (Int×Int)} {g:Option Int} (hL:LsL H L) (h:RuleAt R H r l ps g) (n:l ∉ L):RuleAt R (TB.rmS H L) r l ps g:=
 ⟨let ⟨dx,e⟩:=h.ob;⟨dx,qbe e (hL.no e (by intro zs z;cases z))⟩,let ⟨xs,e,p⟩:=h.ls;⟨xs,qbe e n,Pairs.rmS hL p⟩⟩
theorem RR.rmS {C R ro:Addr} {c:qa2} {s:Abs} {LY LZ:List (List Int)} (hL:LsL H L) (h:RR C R H ro c s LY LZ) (n1:c.le ∉ L) (n2:c.rl ∉ L):RR C R (TB.rmS H L) ro c s LY LZ:=by
 obtain ⟨Y,Z,A,Bs⟩:=h;obtain ⟨dx,e⟩:=A.ob;refine ⟨Y,Z,⟨⟨dx,qbe e (hL.no e (by intro zs z;cases z))⟩,A.rule.rmS hL n2,qbe A.ed n1,qbe A.yo (hL.no A.yo (by intro zs z;cases z)),qbe A.he (hL.no A.he (by intro zs z;cases z)),A.ne⟩,⟨Bs.yv,Bs.yk,Bs.zn,λk x q=>(Bs.zs k x q).imp λ_ z=>⟨z.1,qbe z.2 (hL.no z.2 (by intro zs y;cases y))⟩,Bs.zk⟩⟩
theorem RR.lists {C R ro:Addr} {c:qa2} {s:Abs} {LY LZ:List (List Int)} (h:RR C R (TB.rmS H L) ro c s LY LZ):c.le ∉ L/\c.rl ∉ L:=by
 obtain ⟨Y,Z,A,Bs⟩:=h;obtain ⟨xs,e,_⟩:=A.rule.ls;exact ⟨(qbi A.ed).2,(qbi e).2⟩
theorem RB.rmS {CR R:Addr} {B:qc2} {es:List Int} {ge:Option Int} {e:RC} (hL:LsL H L) (h:RB CR R H B es ge e) (n1:e.2.1.le ∉ L) (n2:e.2.1.rl ∉ L):RB CR R (TB.rmS H L) B es ge e:=
 ⟨let ⟨a,b,r⟩:=h.ex;⟨a,b,{ r with R:=r.R.rmS hL n1 n2 }⟩,h.ru,h.rl,h.n50⟩
theorem RB.lists {CR R:Addr} {B:qc2} {es:List Int} {ge:Option Int} {e:RC} (h:RB CR R (TB.rmS H L) B es ge e):e.2.1.le ∉ L/\e.2.1.rl ∉ L:=let ⟨_,_,r⟩:=h.ex;r.R.lists
end
theorem Ents.mem {α:Type} {R1:V->α->Prop} {kvs:List (Key×V)} {E:List (List Nat×α)} {x:List Nat} {a:α} (h:Ents R1 kvs E) (hx:(x,a)∈E):∃ v,R1 v a:=by
 unfold Ents at h
 induction h with
 | nil=>cases hx
 | cons b t ih =>
  rcases List.mem_cons.mp hx with z|z
  ·rw[<- z] at b;exact ⟨_,b.2⟩
  ·exact ih z
theorem LsL.but2 {H H':Hp} {L:List Addr} {a c:Addr} {Y Z:KV} (h:LsL H L) (b:But2 a c H H') (hy:H a=some (.dT Y)) (hz:H c=some (.dT Z)):LsL H' L:=λl hl=>let ⟨zs,e⟩:=h l hl;⟨zs,b.keep hy hz e (by intro K z;cases z)⟩
section
variable {C CR R b:Addr} {B:qc2} {es:List Int} {ge:Option Int} {X:qcq} {H H':Hp} {L:List Addr}
theorem BkC.putR {x:List Nat} {e:RC} {r:Rd3} {Y Z:KV} (h:BkC C CR R (rmS H L) b B es ge X) (hL:LsL H L) (ok:XOk X) (hx:(x,e)∈X) (bu:But2 e.2.1.dy e.2.1.dh H H') (hy:H e.2.1.dy=some (.dT Y)) (hz:H e.2.1.dh=some (.dT Z)) (R':RB CR R H' B es ge (e.1,e.2.1,e.2.2.1 ++ [r],e.2.2.2)):BkC C CR R (rmS H' L) b B es ge (X.map (qlg x r)):=by
 obtain ⟨k,_,q⟩:=h.rs;obtain ⟨v,_,re⟩:=q.mem hx;have nl:=re.lists;exact h.put ok hx (quc bu) (qbe hy (hL.no hy (by intro zs z;cases z))) (qbe hz (hL.no hz (by intro zs z;cases z))) (R'.rmS (hL.but2 bu hy hz) nl.1 nl.2)
theorem BkC.dicts (h:BkC C CR R H b B es ge X) {x:List Nat} {e:RC} (hx:(x,e)∈X):(∃ Y,H e.2.1.dy=some (.dT Y))/\∃ Z,H e.2.1.dh=some (.dT Z):=by
 obtain ⟨k,_,q⟩:=h.rs;obtain ⟨v,_,re⟩:=q.mem hx;obtain ⟨_,_,r⟩:=re.ex;exact r.R.dicts
theorem R63.begun {ro:Addr} {c:qa2} (A:RollAt CR R H ro c) (ok:EdOk B es ge) (e1:c.ps=B.ps) (e2:c.g=B.g) (e3:c.day=B.day) (eY:c.Y=[]) (eZ:c.Z=[]) (Ec:EdS (List.zipWith gE (eV B.ps B.g B.day) (es.map V.int ++ [gv ge])) c.es c.ge) (hcl:c.es.length=B.ps.length):R63 CR R H ro c B.ps B.g B.day es ge [] [] []:=by
 have ec:{ c with Y:=[],Z:=[] }=c:=by
  cases c;simp only at eY eZ;rw[eY,eZ]
 rw[ok.dom] at Ec;obtain ⟨z1,z2⟩:=EdS.uniq Ec ok.E;exact ⟨⟨[],[],by rw[ec];exact A,RAbs.zero rfl rfl⟩,⟨by rw[e1,e2];exact ok.P,by rw[hcl,e1]⟩,e1,e2,e3,z1,z2,ok.P,ok.wb,ok.E,ok.F,ok.dom,ok.hd,(by intro r h;cases h),Nat.le_refl _,Nat.le_refl _⟩
end
theorem RuleAt.butK {C:Addr} {H H':Hp} {r l a:Addr} {ps:List (Int×Int)} {g:Option Int} {kvs:List (Key×V)} (h:RuleAt C H r l ps g) (b:But a H H') (ha:H a=some (.dK kvs)):RuleAt C H' r l ps g:=
 h.but2 b ha (by intro xs z;cases z) (by intro xs z;cases z) (by obtain ⟨dx,e⟩:=h.ob;exact qav e ha (by intro z;cases z))
theorem TxtL.butK {H H':Hp} {a:Addr} {kvs:List (Key×V)} {v:V} {ms:List (List Nat)} (h:TxtL H v ms) (b:But a H H') (ha:H a=some (.dK kvs)):TxtL H' v ms:=
 let ⟨c,e,q⟩:=h;⟨c,e,b _ _ q (qav q ha (by intro z;cases z))⟩
theorem RR.butK {C R ro a:Addr} {H H':Hp} {c:qa2} {s:Abs} {LY LZ:List (List Int)} {kvs:List (Key×V)} (h:RR C R H ro c s LY LZ) (b:But a H H') (ha:H a=some (.dK kvs)):RR C R H' ro c s LY LZ:=by
 obtain ⟨Y,Z,A,Bs⟩:=h;obtain ⟨dx,e⟩:=A.ob;exact ⟨Y,Z,⟨⟨dx,b _ _ e (qav e ha (by intro z;cases z))⟩,A.rule.butK b ha,b _ _ A.ed (qav A.ed ha (by intro z;cases z)),b _ _ A.yo (qav A.yo ha (by intro z;cases z)),b _ _ A.he (qav A.he ha (by intro z;cases z)),A.ne⟩,Bs.tups λx xs e=>b _ _ e (qav e ha (by intro z;cases z))⟩
theorem RB.butK {CR R a:Addr} {H H':Hp} {B:qc2} {es:List Int} {ge:Option Int} {e:RC} {kvs:List (Key×V)} (h:RB CR R H B es ge e) (b:But a H H') (ha:H a=some (.dK kvs)):RB CR R H' B es ge e:=
 ⟨let ⟨x,y,r⟩:=h.ex;⟨x,y,{ r with R:=r.R.butK b ha }⟩,h.ru,h.rl,h.n50⟩
theorem qll {C CR R:Addr} {G4 G5 G6 G7:Hp} {b l2 ro:Addr} {B:qc2} {es:List Int} {ge:Option Int} {X:qcq} {c:qa2} {x:List Nat} {ms:List (List Nat)} {km kr:List (Key×V)} (A4:BkC C CR R G4 b B es ge X) (hin:x ∉ X.map (·.1)) (hkm:G4 B.dm=some (.dK km)) (hkr:G4 B.dr=some (.dK kr)) (b5:But B.dm G4 G5) (d5:G5 B.dm=some (.dK (putK km (kS x) (.ref l2)))) (s6:Same G5 G6)
  (b7:But B.dr G6 G7) (d7:G7 B.dr=some (.dK (putK kr (kS x) (.ref ro)))) (tl:TxtL G4 (.ref l2) (qby ms)) (re:RB CR R G6 B es ge (ro,c,[],ms)):BkC C CR R G7 b B es ge (X ++ [(x,(ro,c,[],ms))]):=by
 obtain ⟨dx,hob⟩:=A4.ob;obtain ⟨km',hkm',enm⟩:=A4.ms;obtain ⟨kr',hkr',enr⟩:=A4.rs;rw[hkm] at hkm'
 cases hkm'
 rw[hkr] at hkr'
 cases hkr'
 have hkr6:=s6 _ _ (b5 _ _ hkr (λz=>A4.ne z.symm));have hob6:=s6 _ _ (b5 _ _ hob (qav hob hkm (by intro z;cases z)));refine ⟨⟨dx,b7 _ _ hob6 (qav hob6 hkr6 (by intro z;cases z))⟩,((A4.rule.butK b5 hkm).same s6).butK b7 hkr6,?_,⟨_,b7 _ _ (s6 _ _ d5) A4.ne,(enm.put hin (a:=(ro,c,[],ms)) tl).imp λv e q=>((q.butK b5 hkm).same s6).butK b7 hkr6⟩,⟨_,d7,?_⟩,A4.ne,A4.ok⟩
 ·have e:=s6 _ _ (b5 _ _ A4.ed (qav A4.ed hkm (by intro z;cases z)))
  exact b7 _ _ e (qav e hkr6 (by intro z;cases z))
 ·have en6:Ents (λv (e:RC)=>v=.ref e.1/\RB CR R G6 B es ge e) kr X:=enr.imp λv _ ⟨e,q⟩=>⟨e,(q.butK b5 hkm).same s6⟩
  exact (en6.put hin (a:=(ro,c,[],ms)) ⟨rfl,re⟩).imp λv _ ⟨e,q⟩=>⟨e,q.butK b7 hkr6⟩
def MkV (H:Hp) (v:V) (us:List V):Prop:=(v=.non/\us=[])\/∃ l,v=.ref l/\H l=some (.lst us)
theorem qxq {us:List V} {m:V} {σ:St} {H:Hp} {Kt:VK} (hσ:σ[2]?=some (some m)) (hm:MkV H m us) (k:∀ l H2,Same H H2->H2 l=some (.lst us)->Kt (.ref l) H2) :
  tIf (qvx (tOp (λx y H Q=>y=V.non/\Q (V.bl (decide (x=V.non))) H) (qAq 2) (tC V.non))) (qwe qm2) (qAq 2) σ H Kt:=by
 rcases hm with ⟨rfl,rfl⟩|⟨l,rfl,hl⟩
 ·exact ⟨_,hσ,rfl,_,rfl,qck ⟨Nat.zero_le _,λl H2 n2=>k l H2 n2.same n2.at_⟩⟩
 ·exact ⟨_,hσ,rfl,_,rfl,qdw ⟨_,hσ,k l H (Same.refl _) hl⟩⟩
inductive qep (C CR R N M:Addr) (vs:List V) (H:Hp) (Q:VK) (E:XK):Prop
 | mk:∀ (b:Addr) (B:qc2) (es:List Int) (ge:Option Int) (X:qcq) (v m:V) (us:List V),vs=[.ref b,v,m]->BkC C CR R H b B es ge X->TextV H v->MkV H m us->(∀ u∈us,TextV H u)->us.length<=60->X.length<=60->((qbz 12 v=false\/qhr X v)->∀ H',Same H H'->E (.ref N) none H')->(¬ (qbz 12 v=false\/qhr X v)->¬ qbm us->∀ H',Same H H'->E (.ref M) none H')->(∀ x ms,v=tS x->qas 12 x->x ∉ X.map (·.1)->us=ms.map tS->qbm us->∀ ro c H',But2 B.dm B.dr H H'->H c.dy=none->H c.dh=none->BkC C CR R H' b B es ge (X ++ [(x,(ro,c,[],ms))])->(∀ L,LsL H L->BkC C CR R (rmS H L) b B es ge X->BkC C CR R (rmS H' L) b B es ge (X ++ [(x,(ro,c,[],ms))]))->Q .non H')->qep C CR R N M vs H Q E
include T in
theorem qlm:∃ f fd dT o n,qfy P w K mg base (CX1 P w) 7 f fd ["self", "name", "marks"] (qep C_Book C_Roll C_Rule C_NoName C_NoMark)/\FunD K "enrol" "Book.enrol" qdj (.ref dT) f fd/\qp9 K C_Book "enrol" f/\fd.defaults=.ref dT/\K.lookup dT=some o/\o.data=.seq #[.none] n:=by
 obtain ⟨f,fd,dT,o,n,F,M,h1,h2,h3⟩:=T.f_Book_enrol;have nd:=sc_Book_enrol.nd;refine ⟨f,fd,dT,o,n,(F.okX sc_Book_enrol (λvs H Q E h=>?_) (λcdv A outer s H vs Q E hr h=>?_)),F,M,h1,h2,h3⟩
 ·obtain ⟨b,B,es,ge,X,v,m,us,rfl,_⟩:=h;rfl
 ·obtain ⟨b,B,es,ge,X,v,m,us,rfl,A',hv,hm,hu,hz,hE,q1,q2,q3⟩:=h
  obtain ⟨dx,hob⟩:=A'.ob;obtain ⟨kr,hkr,enr⟩:=A'.rs;refine ⟨_,(jB5 (qa7 (PW.pt (qhl (qdt (qc4 (jF (qle T) hr (jA1 (pv 1))))) (qfb (qpv (quq (qda hr) (pv 1) (qbc (pv 0) rfl)))))) (qad (qc1 (qa1 ⟨rfl,rfl,rfl⟩) rfl T.ex_NoName rfl T.mg_NoName (jA1 qbb))) qap) (jS 3 nd (qsv (jC qdv (pv 2) qbj) (qay qbn) (pv 2))) (qa4 (jW (qjl T) hr (jA1 (pv 3)))) (qd6 (qda hr) (qbc (pv 0) rfl) (pv 1) (qai qej rfl T.b_sorted qb3 (jA1 (pv 3))) rfl) (qd6 (qda hr) (qbc (pv 0) rfl) (pv 1) (jF (qxm T) hr (jA3 (qbc (pv 0) rfl) (qbc (pv 0) rfl) (qbc (pv 0) rfl))) rfl)),?_⟩;refine ⟨_,rfl,v,rfl,hv,λH1 s1=>⟨_,rfl,?_⟩⟩
  cases hs:qbz 12 v with
  | false =>
   refine qck ?_
   walk_at "r"
   exact q1 (.inl hs) H1 s1
  | true =>
   refine qdw ?_;obtain ⟨x,rfl,hx⟩:=small_iff.mp hs;refine ⟨_,rfl,_,rfl,b,C_Book,dx,_,_,rfl,s1 _ _ hob,T.cl_Book,T.na_Book_kept_rolls,qkw _ _ _ _ _,B.dr,_,rfl,DGet.k (k:=kS x) (s1 _ _ hkr),_,rfl,?_⟩
   by_cases hin:x∈X.map (·.1)
   ·obtain ⟨u,a,e1,_,_⟩:=enr.has hin
    rw[e1];refine qck ?_
    walk_at "r"
    exact q1 (.inr ⟨x,rfl,hx,hin⟩) H1 s1
   ·rw[enr.hasn hin]
    refine qdw ?_;have hm1:MkV H1 m us:=by
     rcases hm with h|⟨l,e,hl⟩
     ·exact .inl h
     ·exact .inr ⟨l,e,s1 _ _ hl⟩
    refine qxq rfl hm1 λl H2 s2 hl=>qan ?_
    have s02:=s1.trans s2;refine ⟨_,rfl,l,us,rfl,hl,λu hu'=>(hu u hu').same s02,hz,λok H3 s3=>?_,λbad H3 s3=>q2 (λh=>?_) bad H3 (s02.trans s3)⟩
    case refine_2 =>
     rcases h with h|⟨y,e,_,hy⟩
     ·rw[hs] at h;cases h
     ·exact hin (qc7 e ▸ hy)
    obtain ⟨ms,rfl,_⟩:=qjk ok.1;have s03:=s02.trans s3;rw[List.length_map] at hz;refine ⟨_,rfl,l,ms,rfl,SqL.of (s3 _ _ hl),by omega,λl2 H4 n4=>?_⟩;have s04:=s03.trans n4.same;have A4:=A'.same s04;obtain ⟨km,hkm,enm⟩:=A4.ms;obtain ⟨kr4,hkr4,enr4⟩:=A4.rs;have lm:=enm.len;have lr:=enr4.len;refine ⟨_,rfl,b,C_Book,dx,_,_,rfl,s04 _ _ hob,T.cl_Book,T.na_Book_kept_marks,qvk _ _ _ _ _,_,rfl,B.dm,_,rfl,DPut.k (k:=kS x) hkm (by rw[sizeLine_eq];omega),?_⟩
    generalize h5:upd H4 B.dm (.dK (putK km (kS x) (.ref l2)))=H5
    have b5:But B.dm H4 H5:=by rw[<- h5];exact but_upd
    have d5:H5 B.dm=some (.dK (putK km (kS x) (.ref l2))):=by rw[<- h5];exact qau
    have hob5:=b5 _ _ (s04 _ _ hob) (qav (s04 _ _ hob) hkm (by intro z;cases z));have E0':=A'.ok.E;have l0:(es.map V.int ++ [gv ge]).length=B.ps.length+1:=by have:=A'.ok.F.len;rw[List.length_map] at this;simp;omega
    have l9:es.length=B.ps.length:=by have:=A'.ok.F.len;rw[List.length_map] at this;omega
    have g5:=A'.ok.P.good.hi;refine ⟨_,rfl,b,C_Book,dx,_,_,rfl,hob5,T.cl_Book,T.na_Book_kept_rule,qzw _ _ _ _ _,_,rfl,b,C_Book,dx,_,_,rfl,hob5,T.cl_Book,T.na_Book_kept_day,qzx _ _ _ _ _,_,rfl,b,C_Book,dx,_,_,rfl,hob5,T.cl_Book,T.na_Book_kept_edges,qr9 _ _ _ _ _,B.ru,B.rl,B.le,B.ps,B.g,B.day,_,_,_,rfl,A4.rule.butK b5 hkm,A'.ok.P,A'.ok.hd,b5 _ _ A4.ed (qav A4.ed hkm (by intro z;cases z)),E0'.ed,by omega,l0,E0',l9,λro c H6 A6 e1 e2 e3 eY eZ Ec hcl s6 f1 f2 w1=>?_⟩;have hkr6:=s6 _ _ (b5 _ _ hkr4 (λz=>A'.ne z.symm));refine ⟨_,rfl,b,C_Book,dx,_,_,rfl,s6 _ _ hob5,T.cl_Book,T.na_Book_kept_rolls,qkw _ _ _ _ _,_,rfl,B.dr,_,rfl,DPut.k (k:=kS x) hkr6 (by rw[sizeLine_eq];omega),?_⟩
    generalize h7:upd H6 B.dr (.dK (putK kr4 (kS x) (.ref ro)))=H7
    have b7:But B.dr H6 H7:=by rw[<- h7];exact but_upd
    have d7:H7 B.dr=some (.dK (putK kr4 (kS x) (.ref ro))):=by rw[<- h7];exact qau
    have re:RB C_Roll C_Rule H6 B es ge (ro,c,[],ms):=⟨⟨[],[],R63.begun A6 A'.ok e1 e2 e3 eY eZ Ec hcl⟩,w1.1,w1.2.1,Nat.zero_le _⟩;have tl:TxtL H4 (.ref l2) (qby ms):=⟨l2,rfl,n4.at_⟩;have fr:∀ a,H5 a=none->H a=none:=λa z=>by
     cases e:H a with
     | none=>rfl
     | some o =>
      by_cases na:a=B.dm
      ·rw[na,d5] at z;cases z
      ·rw[b5 _ _ (s04 _ _ e) na] at z;cases z
    refine q3 x ms rfl hx hin rfl ok ro c H7 (λc' o e n1 n2=>b7 _ _ (s6 _ _ (b5 _ _ (s04 _ _ e) n1)) n2) (fr _ f1) (fr _ f2) (qll A4 hin hkm hkr4 b5 d5 s6 b7 d7 tl re) λL hL Ar=>?_
    have hL4:=hL.same s04;have nd1:B.dm ∉ L:=hL4.no hkm (by intro zs z;cases z);have nd2:B.dr ∉ L:=hL4.no hkr4 (by intro zs z;cases z);have hL5:LsL H5 L:=λl hl=>let ⟨zs,e⟩:=hL4 l hl;⟨zs,b5 _ _ e (λz=>nd1 (z ▸ hl))⟩
    have A4r:=Ar.same (qjm s04);have nl2:l2 ∉ L:=λz=>by obtain ⟨zs,e⟩:=hL.same s03 l2 z;rw[n4.fresh] at e;cases e
    have nle:c.le ∉ L:=λz=>by obtain ⟨zs,e⟩:=hL5 c.le z;rw[w1.2.2] at e;cases e
    have nrl:c.rl ∉ L:=by rw[w1.2.1];obtain ⟨xs,e,_⟩:=Ar.rule.ls;exact (qbi e).2
    exact qll A4r hin (qbe hkm nd1) (qbe hkr4 nd2) (qsl b5) (qbe d5 nd1) (qjm s6) (qsl b7) (qbe d7 nd2) ⟨l2,rfl,qbe n4.at_ nl2⟩ (re.rmS (hL5.same s6) nle nrl)
theorem qes {F:St->Hp->Prop} {σ σ':St} {H:Hp} (e:σ=σ') (h:F σ' H):F σ H:=e ▸ h
theorem qvn:∀ {a b:List (List Nat)},a.map tS=b.map tS->a=b
 | [],[],_=>rfl
 | [],_ :: _,e=>by cases e
 | _ :: _,[],e=>by cases e
 | u :: a,w :: b,e=>by
  rw[List.map_cons,List.map_cons] at e;injection e with e1 e2
  rw[qc7 e1,qvn e2]
theorem qc8 {s u:TS} {D:Ends} {σ:St} {H:Hp} (h:∀ N:St->Hp->Prop,(∀ σ' H',u D σ' H'->N σ' H')->s { D with nx:=N } σ H):qcj s u D σ H:=h (u D) λ_ _ z=>z
section
variable {C CR R N M b l:Addr} {B:qc2} {es:List Int} {ge:Option Int} {X:qcq} {H:Hp} {Q:VK} {E:XK} {x:List Nat} {ms:List (List Nat)} {vs:List V}
theorem XOk.snoc {ro:Addr} {c:qa2} {rs:List Rd3} (xk:XOk X) (A:BkC C CR R H b B es ge X) (hni:x ∉ X.map (·.1)) (c1:H c.dy=none) (c2:H c.dh=none):XOk (X ++ [(x,(ro,c,rs,ms))]):=by
 unfold XOk;rw[List.pairwise_append];refine ⟨xk,by simp,λp hp p' hp'=>?_⟩;rw[List.mem_singleton.mp hp'];obtain ⟨⟨Y,hY⟩,⟨Z,hZ⟩⟩:=A.dicts (x:=p.1) (e:=p.2) hp;exact ⟨λe=>hni (List.mem_map.mpr ⟨p,hp,e⟩),qal hY c1,qal hY c2,qal hZ c1,qal hZ c2⟩
end
inductive qil (C CR R N:Addr) (vs:List V) (H:Hp) (Q:VK) (E:XK):Prop
 | mk:∀ (b:Addr) (B:qc2) (es:List Int) (ge:Option Int) (X:qcq) (v:V),vs=[.ref b,v]->BkC C CR R H b B es ge X->TextV H v->(∀ x e,v=tS x->qas 12 x->(x,e)∈X->∀ l H',Same H H'->H l=none->H' l=some (.lst ((qby e.2.2.2).map tS))->Q (.ref l) H')->(¬ qhr X v->∀ H',Same H H'->E (.ref N) none H')->qil C CR R N vs H Q E
include T in
theorem qln:qwh P w K mg base C_Book 4 "marks" ["self", "name"] [] (qil C_Book C_Roll C_Rule C_NoName):=by
 obtain ⟨f,fd,F,hm⟩:=T.f_Book_marks;have nd:=sc_Book_marks.nd;refine ⟨f,fd,(F.okX sc_Book_marks (λvs H Q E h=>?_) (λcdv A outer s H vs Q E hr h=>?_)),hm,(F.binds λ_ _ _ _ _ _ us hl=>by obtain ⟨_,_,rfl⟩:=L2.lq2 hl;rfl)⟩
 ·obtain ⟨b,B,es,ge,X,v,rfl,_⟩:=h;rfl
 ·obtain ⟨b,B,es,ge,X,v,rfl,A',hv,q1,q2⟩:=h
  obtain ⟨dx,hob⟩:=A'.ob;refine ⟨_,(jB2 (qa4 (qff (qa1 ⟨rfl,rfl,rfl⟩) (pv 0) T.cl_Book (qb6 T) (hr.mono (by decide)) .nil (jA1 (pv 1)))) (qak (qbk qbt rfl T.b_list qcz (jA1 (qgg (qda hr) (qbc (pv 0) rfl) (pv 1) (λ_ _=>rfl)))))),?_⟩;refine ⟨_,rfl,b,dx,_,rfl,hob,bno,_,rfl,b,B,es,ge,X,v,rfl,A',hv,λhin H1 s1=>?_,λhn H1 s1=>q2 hn H1 s1⟩;obtain ⟨x,rfl,hx,hxE⟩:=hin;obtain ⟨kvs,hk,en⟩:=A'.ms;obtain ⟨u,a,e1,e2,l,rfl,hl⟩:=en.has hxE;have g:=DGet.k (k:=kS x) (s1 _ _ hk);rw[e1] at g;exact ⟨_,rfl,b,C_Book,dx,_,_,rfl,s1 _ _ hob,T.cl_Book,T.na_Book_kept_marks,qvk _ _ _ _ _,_,rfl,B.dm,_,rfl,g,l,_,rfl,.inl (SqL.of (s1 _ _ hl)),λl2 H2 n2=>q1 x a rfl hx e2 l2 H2 (s1.trans n2.same) (s1.free n2.fresh) n2.at_⟩
theorem qxr (ru:Addr) (day:Int) (le dm dr p:Addr):qeb "kept_edges" (.ref p) (bof ru day le dm dr)=bof ru day p dm dr:=by rfl
structure qA3 (ps:List (Int×Int)) (g:Option Int) (day:Int) (EV:List V) (fs:List Int) (fg:Option Int):Prop where
 ex:∃ es ge,EV=es.map V.int ++ [gv ge]/\EdS EV es ge/\es.length=ps.length/\qCa ps g day EV es ge fs fg
inductive qlo (C CR R N:Addr) (vs:List V) (H:Hp) (Q:VK) (E:XK):Prop
 | mk:∀ (ru rl e:Addr) (ps:List (Int×Int)) (g:Option Int) (day:Int) (EV:List V),vs=[.ref ru,.int day,.ref e]->RuleAt R H ru rl ps g->Pr ps g->(∀ p∈ps,p.2<=10 ^ 35)->Bd day->H e=some (.lst EV)->(∀ v∈EV,Ed v)->(EV.length≠ps.length+1->∀ H',Same H H'->E (.ref N) none H')->(EV.length=ps.length+1->∃ (fs:List Int) (fg:Option Int),qA3 ps g day EV fs fg/\∀ b le dm dr H',BkC C CR R H' b ⟨ru,rl,le,dm,dr,ps,g,day⟩ fs fg []->Same H H'->H b=none->H le=none->H dm=none->H dr=none->Q (.ref b) H')->qlo C CR R N vs H Q E
include T in
theorem qlp:qwg P w K mg base 6 "begun_book" ["rule", "day", "edges"] [] (qlo C_Book C_Roll C_Rule C_NoRule):=by
 obtain ⟨f,fd,F,hm⟩:=T.f_begun_book;have nd:=sc_begun_book.nd;refine ⟨f,fd,(F.okX sc_begun_book (λvs H Q E h=>?_) (λcdv A outer s H vs Q E hr h=>?_)),hm,F.kp,(F.binds λ_ _ _ _ _ _ us hl=>by obtain ⟨_,_,_,rfl⟩:=L2.lq3 hl;rfl)⟩
 ·obtain ⟨ru,rl,e,ps,g,day,EV,rfl,_⟩:=h;rfl
 ·obtain ⟨ru,rl,e,ps,g,day,EV,rfl,R,Pg,wb,hd,he,eV0,qE,q⟩:=h
  refine ⟨_,(jB3 (jS 3 nd (qqu (qub T) (hr.mono (by decide)) rfl .nil (jA2 (pv 0) (pv 1)))) (qbx (pv 3) (jW (qk8 T) hr (jA2 (qbc (pv 3) rfl) (pv 2))) rfl) (qak (pv 3))),?_⟩;refine ⟨_,rfl,_,rfl,λb dx H1 s1 f1 d1=>?_⟩;refine ⟨b,dx,ru,rl,ps,g,day,rfl,d1,R.same s1,Pg,wb,hd,λle dm dr H2 A2 z1 z2 z3 b2=>⟨rfl,?_⟩⟩;have s2:Same H H2:=b2.same s1 f1;obtain ⟨dx2,hob⟩:=A2.ob;have E0':=EdS.of Pg hd;have g5:=Pg.good.hi;have l0:(eV ps g day).length=ps.length+1:=by rw[E0'.eq];simp
  have hed:H2 le=some (.lst (eV ps g day)):=by rw[E0'.eq];exact A2.ed
  refine qan ?_;refine ⟨_,rfl,b,C_Book,dx2,_,_,rfl,hob,T.cl_Book,T.na_Book_kept_edges,qr9 _ _ _ _ _,_,rfl,le,e,_,_,rfl,hed,s2 _ _ he,E0'.ed,eV0,by omega,λhl p H3 n3=>?_,λhne=>qE (λz=>hne (by omega)) H2 s2⟩;obtain ⟨fs,fg,⟨es,ge,rfl,Ee,hln,U⟩,q2⟩:=q (by omega);refine ⟨_,rfl,b,C_Book,dx2,_,rfl,n3.same _ _ hob,T.cl_Book,T.na_Book_kept_edges,(by show 5<1000;decide),λH4 b4 h4=>?_⟩;rw[qxr] at h4;have A3:=A2.same n3.same;have hb3:=n3.same _ _ hob;obtain ⟨dxr,hru⟩:=A3.rule.ob;have nru:ru≠b:=qav hru hb3 (by intro z;injection z with _ _ z;have:=qry rl (gv g);have z':rf rl (gv g)=bof ru day le dm dr:=z;rw[z'] at this;cases this);have s04:Same H H4:=b4.same (s2.trans n3.same) f1;have hp4:H4 p=some (.lst (List.zipWith gE (eV ps g day) (es.map V.int ++ [gv ge]))):=b4 _ _ n3.at_ (qav n3.at_ hb3 (by intro z;cases z));rw[U.eq] at hp4;obtain ⟨km,hkm,enm⟩:=A3.ms;obtain ⟨kr,hkr,enr⟩:=A3.rs;refine ⟨_,rfl,q2 b p dm dr H4 ⟨⟨dx2,h4⟩,A3.rule.but2 b4 hb3 qcn (by intro xs z;cases z) nru,hp4,⟨km,b4 _ _ hkm (qav hkm hb3 (by intro z;cases z)),?_⟩,⟨kr,b4 _ _ hkr (qav hkr hb3 (by intro z;cases z)),?_⟩,A3.ne,⟨Pg,wb,U.E,U.F,U.dom,hd⟩⟩ s04 f1 (s2.free n3.fresh) (s1.free z2) (s1.free z3)⟩
  ·cases enm;exact .nil
  ·cases enr;exact .nil
include T in
theorem qhs:qwh P w K mg base C_Book 7 "enrol" ["self", "name", "marks"] [] (qep C_Book C_Roll C_Rule C_NoName C_NoMark):=by
 obtain ⟨f,fd,dT,o,n,hf,F,M,h1,h2,h3⟩:=qlm (P:=P) (w:=w) (base:=base) T;refine ⟨f,fd,hf,M,qi0 h1 h2 h3 λus hl=>?_⟩;obtain ⟨oc,od,kV,doc,pm,an,cdv,ct,osl,rfl,lk,hcd⟩:=F.ex;obtain ⟨_,_,_,rfl⟩:=L2.lq3 (us:=us) (by simpa using hl);exact ⟨_,rfl,rfl⟩
inductive qlq (K:Frag) (vs:List V) (H:Hp) (Q:VK) (E_:XK):Prop
 | mk:∀ (a:Addr) (ns:List Int) (k:Int),vs=[.ref a,.int k]->SqL K H a (ns.map V.int)->0<=k->Q (.int (ns[k.toNat]?.getD 0)) H->qlq K vs H Q E_
include T in
theorem qbp:qba P w K mg base 1 "_law_cell_at" ["_law_script", "_law_k"] (qlq K):=by
 obtain ⟨f,fd,F,hm⟩:=T.f__law_cell_at;have nd:=sc__law_cell_at.nd;refine F.def_ hm (F.ok sc__law_cell_at (λvs H Q E h=>?_) (λcdv A outer s H vs Q E hr h=>?_)) (F.binds λ_ _ _ _ _ _ us hl=>by obtain ⟨_,_,rfl⟩:=L2.lq2 hl;rfl)
 ·obtain ⟨a,ns,k,rfl,_⟩:=h;rfl
 ·obtain ⟨a,ns,k,rfl,hS,h0,q⟩:=h
  refine ⟨_,(jB2 (qa7 (jC qhm (pv 1) (qai qa0 rfl T.b_len qch (jA1 (pv 0)))) (qad (qak (jI (pv 0) (pv 1)))) qap) (qak qaa)),?_⟩
  walk_at "r"
  refine qew (λz=>?_) λz=>?_
  ·have z':k<ns.length:=by simpa using z
   have hk:k.toNat<ns.length:=by omega
   have hi:atI (ns.map V.int) k=some (.int ns[k.toNat]):=by
    have:=qdc (xs:=ns.map V.int) (j:=k.toNat) (v:=V.int ns[k.toNat]) (by simp[hk])
    rwa [Int.toNat_of_nonneg h0] at this
   walk_at "r"
   rw[List.getElem?_eq_getElem hk] at q;exact q
  ·have z':¬ k<ns.length:=by simpa using z
   rw[List.getElem?_eq_none (by omega)] at q;exact q
def qsm (d k:Int):Int:=(d % 2147483629+69621*k+1)*48271 % 2147483629*((d % 2147483629+69621*k+1)*48271 % 2147483629 / 1009+69621) % 2147483629
def qud:Sp:=λvs H Q _=>∃ d k,vs=[.int d,.int k]/\0<=k/\k<=200/\∀ m,(0<=m/\m=qsm d k)->m<2147483629->Q (.int m) H
include T in
theorem qah:qba P w K mg base 1 "_law_mixed" ["_law_draw", "_law_k"] qud:=by
 obtain ⟨f,fd,F,hm⟩:=T.f__law_mixed;have nd:=sc__law_mixed.nd;refine F.def_ hm (F.ok sc__law_mixed (λvs H Q E h=>?_) (λcdv A outer s H vs Q E hr h=>?_)) (F.binds λ_ _ _ _ _ _ us hl=>by obtain ⟨_,_,rfl⟩:=L2.lq2 hl;rfl)
 ·obtain ⟨d,k,rfl,_⟩:=h;rfl
 ·obtain ⟨d,k,rfl,h1,h2,q⟩:=h
  refine ⟨_,(jB2 (jS 2 nd (qae qar (qae qdu (qae qat (qae qat (qae qar (pv 0) qaa) (qae qdu qaa (pv 1))) qaa) qaa) qaa)) (qak (qae qar (qae qdu (pv 2) (qae qat (qae qcd (pv 2) qaa) qaa)) qaa))),?_⟩;have m1:0<=d % 2147483629/\d % 2147483629<2147483629:=by omega
  walk_at "r"
  exact q _ ⟨by omega,rfl⟩ (by omega)
theorem qz3:(Str.ofString "abcdefghijklmnopqrstuvwxyz")=S [97,98,99,100,101,102,103,104,105,106,107,108,109,110,111,112,113,114,115,116,117,118,119,120,121,122]:=by decide +kernel
theorem qoa {i:Int} (h0:0<=i) (h1:i<26):∃ c,[97,98,99,100,101,102,103,104,105,106,107,108,109,110,111,112,113,114,115,116,117,118,119,120,121,122][i.toNat]?=some c/\(97<=c/\c<=122)/\c=97+i.toNat:=by
 obtain ⟨j,rfl⟩:=Int.eq_ofNat_of_zero_le h0;have hj:j<26:=by omega
 have al:∀ j,j<26->[97,98,99,100,101,102,103,104,105,106,107,108,109,110,111,112,113,114,115,116,117,118,119,120,121,122][j]?=some (97+j):=by decide
 exact ⟨97+j,al j hj,by omega,rfl⟩
theorem join_one:∀ cs:List Nat,qho [] (cs.map λc=>[c])=cs
 | []=>rfl
 | [c]=>rfl
 | c :: d :: cs=>by
  have ih:=join_one (d :: cs)
  show [c] ++ [] ++ qho [] ((d :: cs).map λc=>[c])=_
  rw[ih];rfl
theorem qmn:∀ cs:List Nat,((cs.map λc=>[c]).map List.length).sum=cs.length
 | []=>rfl
 | c :: cs=>by
  have ih:=qmn cs;simp only[List.map_cons,List.sum_cons,List.length_cons,List.length_nil] at ih ⊢;omega
def ltr (z:Int):Nat:=97+(z % 26).toNat
def qmo (d:Int):List Nat:=(List.range (qsm d 1 % 12).toNat).map λj=>ltr (qsm d (3+(j:Nat)))
def atF (d:Int):Nat:=(qsm d 2 % (qsm d 1 % 12+1)).toNat
def nmF (d k:Int):List Nat:=(qmo d).take (atF d) ++ [ltr (d+5*k)] ++ (qmo d).drop (atF d)
theorem qCb {d k l:Int} (h:k≠l) (h1:k<l+26) (h2:l<k+26):nmF d k≠nmF d l:=λe=>by
 unfold nmF at e;rw[List.append_assoc,List.append_assoc] at e;have e2:=List.append_cancel_left e;have e3:ltr (d+5*k)=ltr (d+5*l):=by injection e2
 unfold ltr at e3;have n1:=Int.emod_nonneg (d+5*k) (show (26:Int)≠0 by decide);have n2:=Int.emod_nonneg (d+5*l) (show (26:Int)≠0 by decide);have e4:(d+5*k) % 26=(d+5*l) % 26:=by omega
 omega
def qpg:Sp:=λvs H Q _=>∃ d k,vs=[.int d,.int k]/\∀ H',Same H H'->qas 12 (nmF d k)->Q (.str (S (nmF d k))) H'
include T in
theorem qmp:qba P w K mg base 2 "_law_name" ["_law_draw", "_law_k"] qpg:=by
 obtain ⟨f,fd,F,hm⟩:=T.f__law_name;have nd:=sc__law_name.nd;refine F.def_ hm (F.ok sc__law_name (λvs H Q E h=>?_) (λcdv A outer s H vs Q E hr h=>?_)) (F.binds λ_ _ _ _ _ _ us hl=>by obtain ⟨_,_,rfl⟩:=L2.lq2 hl;rfl)
 ·obtain ⟨d,k,rfl,_⟩:=h;rfl
 ·obtain ⟨d,k,rfl,q⟩:=h
  refine ⟨_,(jB5 (qht (i:=2) nd rfl (Or.inr rfl) qbb) (jS 3 nd (qae qar (jF (qah T) hr (jA2 (pv 0) qaa)) qaa)) (jS 4 nd (qee PySem.F.plainAttrs_str PySem.F.slot_str_join PySem.F.type_str_join qrh qbb (jA1 (qdf (vars:=[ "_law_j" ]) (frees:=[ "_law_some", "_law_draw" ]) (fv:=[2,0]) rfl (jL2 rfl) ⟨⟨rfl,.inl rfl,rfl,.inl rfl⟩,⟨⟨rfl,.inl rfl,rfl,.inl rfl⟩,trivial⟩⟩ (qcc rfl T.b_range (jA1 (pv 3))) (qco (by decide)) (λ_ _ _ _=>(jM 0 [ "_law_j", "_law_some", "_law_draw" ])) (λ_ _ _ _=>qa5) (λ_ _ _ _=>(qnn (pv 1) (qae qar (jF (qah T) hr (jA2 (pv 2) (qae qat qaa (pv 0)))) qaa) (λ_ _=>rfl))))))) (jS 5 nd (qae qar (jF (qah T) hr (jA2 (pv 0) qaa)) (qae qat (pv 3) qaa))) (qak (qae qbs (qae qbs (qbq qgo (pv 4) qcf (qb0 (pv 5))) (qnn (pv 2) (qae qar (qae qat (pv 0) (qae qdu qaa (pv 1))) qaa) (λ_ _=>rfl))) (qbq qgo (pv 4) (qb0 (pv 5)) qcf)))),?_⟩;rw[qz3]
  walk_at "r"
  intro m m0 m1
  walk_at "r"
  have m12:0<=m % 12/\m % 12<12:=by omega
  refine qek (n:=(m % 12).toNat) (λi ys H2=>Same H H2/\∃ cs:List Nat,cs.length=i/\((∀ c∈cs,97<=c/\c<=122)/\cs=(List.range i).map λj=>ltr (qsm d (3+(j:Nat))))/\ys=cs.map λc=>V.str (S [c])) (qbf (by omega)) ⟨Same.refl _,[],rfl,⟨by simp,rfl⟩,rfl⟩ (λi ys H2 h2=>by obtain ⟨_,cs,h3,_,h4⟩:=h2;rw[h4,List.length_map,h3];exact Nat.le_refl _) ?_ ?_
  ·rintro i ys H2 hi ⟨s2,cs,hl,⟨hc,hcs⟩,rfl⟩
   refine qan (qhy (qck ?_))
   walk_at "r"
   intro a a0 a1;have a26:0<=a % 26/\a % 26<26:=by omega
   obtain ⟨c,hca,hcb,hcc⟩:=qoa a26.1 a26.2
   walk_at "r"
   refine ⟨_,_,c,rfl,rfl,a26.1,by omega,hca,?_⟩;refine ⟨s2,cs ++ [c],by simp[hl],⟨λx hx=>?_,?_⟩,by simp⟩
   case refine_2 =>
    rw[List.range_succ,List.map_append,<- hcs,hcc,a0.2,List.map_singleton,Int.zero_add];rfl
   rcases List.mem_append.mp hx with z|z
   ·exact hc x z
   ·rw[List.mem_singleton.mp z];exact hcb
  ·rintro ys H2 p H3 ⟨s2,cs,hl,⟨hc,hcs⟩,rfl⟩ n3
   rw[qsi];have e3:H3 p=some (.lst ((cs.map λc=>[c]).map λq=>V.str (S q))):=by rw[List.map_map];exact n3.at_
   refine ⟨[],cs.map λc=>[c],p,rfl,rfl,SqL.of e3,by rw[qmn];simp;omega,?_⟩;rw[join_one];have s3:=s2.trans n3.same
   walk_at "r"
   intro b b0 b1;obtain ⟨j,hj⟩:=Int.eq_ofNat_of_zero_le (Int.emod_nonneg b (show (m % 12+1)≠0 by omega));have hj1:=Int.emod_lt_of_pos b (show (0:Int)<m % 12+1 by omega);rw[hj] at hj1;have lj:j<=cs.length:=by omega
   have lc8:cs.length<=11:=by omega
   have d26:0<=(d+5*k) % 26/\(d+5*k) % 26<26:=by omega
   obtain ⟨c,hca,hcb,hcc⟩:=qoa d26.1 d26.2
   walk_at "r"
   rw[hj,qmd cs lj];refine ⟨qbf (by rw[qbo,List.length_take];omega),?_⟩
   walk_at "r"
   refine ⟨_,_,c,rfl,rfl,d26.1,by omega,hca,?_⟩
   walk_at "r"
   refine ⟨qbf (by rw[qbo,qbo,List.length_take];simp;omega),?_⟩;rw[qi7]
   walk_at "r"
   rw[qrf cs j];refine ⟨qbf (by rw[qbo,List.length_drop];omega),?_⟩
   walk_at "r"
   refine ⟨qbf (by rw[qbo,qbo];simp;omega),?_⟩;rw[qi7];have eb:cs=qmo d:=by rw[hcs];unfold qmo;rw[<- m0.2]
   have ej:j=atF d:=by unfold atF;rw[<- m0.2,<- b0.2,hj];rfl
   have ec:c=ltr (d+5*k):=hcc;have en:cs.take j ++ [c] ++ cs.drop j=nmF d k:=by unfold nmF;rw[<- eb,<- ej,<- ec]
   have sw:qas 12 (cs.take j ++ [c] ++ cs.drop j):=⟨by simp;omega,by simp;omega,λx hx=>by
    rcases List.mem_append.mp hx with z|z
    ·rcases List.mem_append.mp z with z|z
     ·exact hc x (List.mem_of_mem_take z)
     ·rw[List.mem_singleton.mp z];exact hcb
    ·exact hc x (List.mem_of_mem_drop z)⟩
   rw[en] at sw ⊢;exact q _ s3 sw
def que (d:Int):List Nat:=(List.range (qsm d 21 % 8).toNat).map λj=>ltr (qsm d (23+(j:Nat)))
def atM (d:Int):Nat:=(qsm d 22 % (qsm d 21 % 8+1)).toNat
def mkF (d k:Int):List Nat:=(que d).take (atM d) ++ [ltr (d / 3+7*k)] ++ (que d).drop (atM d)
theorem qCc {d k l:Int} (h:k≠l) (h1:k<l+26) (h2:l<k+26):mkF d k≠mkF d l:=λe=>by
 unfold mkF at e;rw[List.append_assoc,List.append_assoc] at e;have e2:=List.append_cancel_left e;have e3:ltr (d / 3+7*k)=ltr (d / 3+7*l):=by injection e2
 unfold ltr at e3;have n1:=Int.emod_nonneg (d / 3+7*k) (show (26:Int)≠0 by decide);have n2:=Int.emod_nonneg (d / 3+7*l) (show (26:Int)≠0 by decide);have e4:(d / 3+7*k) % 26=(d / 3+7*l) % 26:=by omega
 omega
def qph:Sp:=λvs H Q _=>∃ d k,vs=[.int d,.int k]/\∀ H',Same H H'->qas 8 (mkF d k)->Q (.str (S (mkF d k))) H'
include T in
theorem qmq:qba P w K mg base 2 "_law_mark" ["_law_draw", "_law_k"] qph:=by
 obtain ⟨f,fd,F,hm⟩:=T.f__law_mark;have nd:=sc__law_mark.nd;refine F.def_ hm (F.ok sc__law_mark (λvs H Q E h=>?_) (λcdv A outer s H vs Q E hr h=>?_)) (F.binds λ_ _ _ _ _ _ us hl=>by obtain ⟨_,_,rfl⟩:=L2.lq2 hl;rfl)
 ·obtain ⟨d,k,rfl,_⟩:=h;rfl
 ·obtain ⟨d,k,rfl,q⟩:=h
  refine ⟨_,(jB5 (qht (i:=2) nd rfl (Or.inr rfl) qbb) (jS 3 nd (qae qar (jF (qah T) hr (jA2 (pv 0) qaa)) qaa)) (jS 4 nd (qee PySem.F.plainAttrs_str PySem.F.slot_str_join PySem.F.type_str_join qrh qbb (jA1 (qdf (vars:=[ "_law_j" ]) (frees:=[ "_law_some", "_law_draw" ]) (fv:=[2,0]) rfl (jL2 rfl) ⟨⟨rfl,.inl rfl,rfl,.inl rfl⟩,⟨⟨rfl,.inl rfl,rfl,.inl rfl⟩,trivial⟩⟩ (qcc rfl T.b_range (jA1 (pv 3))) (qco (by decide)) (λ_ _ _ _=>(jM 0 [ "_law_j", "_law_some", "_law_draw" ])) (λ_ _ _ _=>qa5) (λ_ _ _ _=>(qnn (pv 1) (qae qar (jF (qah T) hr (jA2 (pv 2) (qae qat qaa (pv 0)))) qaa) (λ_ _=>rfl))))))) (jS 5 nd (qae qar (jF (qah T) hr (jA2 (pv 0) qaa)) (qae qat (pv 3) qaa))) (qak (qae qbs (qae qbs (qbq qgo (pv 4) qcf (qb0 (pv 5))) (qnn (pv 2) (qae qar (qae qat (qae qcd (pv 0) qaa) (qae qdu qaa (pv 1))) qaa) (λ_ _=>rfl))) (qbq qgo (pv 4) (qb0 (pv 5)) qcf)))),?_⟩;rw[qz3]
  walk_at "r"
  intro m m0 m1
  walk_at "r"
  have m12:0<=m % 8/\m % 8<8:=by omega
  refine qek (n:=(m % 8).toNat) (λi ys H2=>Same H H2/\∃ cs:List Nat,cs.length=i/\((∀ c∈cs,97<=c/\c<=122)/\cs=(List.range i).map λj=>ltr (qsm d (23+(j:Nat))))/\ys=cs.map λc=>V.str (S [c])) (qbf (by omega)) ⟨Same.refl _,[],rfl,⟨by simp,rfl⟩,rfl⟩ (λi ys H2 h2=>by obtain ⟨_,cs,h3,_,h4⟩:=h2;rw[h4,List.length_map,h3];exact Nat.le_refl _) ?_ ?_
  ·rintro i ys H2 hi ⟨s2,cs,hl,⟨hc,hcs⟩,rfl⟩
   refine qan (qhy (qck ?_))
   walk_at "r"
   intro a a0 a1;have a26:0<=a % 26/\a % 26<26:=by omega
   obtain ⟨c,hca,hcb,hcc⟩:=qoa a26.1 a26.2
   walk_at "r"
   refine ⟨_,_,c,rfl,rfl,a26.1,by omega,hca,?_⟩;refine ⟨s2,cs ++ [c],by simp[hl],⟨λx hx=>?_,?_⟩,by simp⟩
   case refine_2 =>
    rw[List.range_succ,List.map_append,<- hcs,hcc,a0.2,List.map_singleton,Int.zero_add];rfl
   rcases List.mem_append.mp hx with z|z
   ·exact hc x z
   ·rw[List.mem_singleton.mp z];exact hcb
  ·rintro ys H2 p H3 ⟨s2,cs,hl,⟨hc,hcs⟩,rfl⟩ n3
   rw[qsi];have e3:H3 p=some (.lst ((cs.map λc=>[c]).map λq=>V.str (S q))):=by rw[List.map_map];exact n3.at_
   refine ⟨[],cs.map λc=>[c],p,rfl,rfl,SqL.of e3,by rw[qmn];simp;omega,?_⟩;rw[join_one];have s3:=s2.trans n3.same
   walk_at "r"
   intro b b0 b1;obtain ⟨j,hj⟩:=Int.eq_ofNat_of_zero_le (Int.emod_nonneg b (show (m % 8+1)≠0 by omega));have hj1:=Int.emod_lt_of_pos b (show (0:Int)<m % 8+1 by omega);rw[hj] at hj1;have lj:j<=cs.length:=by omega
   have lc8:cs.length<=7:=by omega
   have d26:0<=(d / 3+7*k) % 26/\(d / 3+7*k) % 26<26:=by omega
   obtain ⟨c,hca,hcb,hcc⟩:=qoa d26.1 d26.2
   walk_at "r"
   rw[hj,qmd cs lj];refine ⟨qbf (by rw[qbo,List.length_take];omega),?_⟩
   walk_at "r"
   refine ⟨_,_,c,rfl,rfl,d26.1,by omega,hca,?_⟩
   walk_at "r"
   refine ⟨qbf (by rw[qbo,qbo,List.length_take];simp;omega),?_⟩;rw[qi7]
   walk_at "r"
   rw[qrf cs j];refine ⟨qbf (by rw[qbo,List.length_drop];omega),?_⟩
   walk_at "r"
   refine ⟨qbf (by rw[qbo,qbo];simp;omega),?_⟩;rw[qi7];have eb:cs=que d:=by rw[hcs];unfold que;rw[<- m0.2]
   have ej:j=atM d:=by unfold atM;rw[<- m0.2,<- b0.2,hj];rfl
   have ec:c=ltr (d / 3+7*k):=hcc;have en:cs.take j ++ [c] ++ cs.drop j=mkF d k:=by unfold mkF;rw[<- eb,<- ej,<- ec]
   have sw:qas 8 (cs.take j ++ [c] ++ cs.drop j):=⟨by simp;omega,by simp;omega,λx hx=>by
    rcases List.mem_append.mp hx with z|z
    ·rcases List.mem_append.mp z with z|z
     ·exact hc x (List.mem_of_mem_take z)
     ·rw[List.mem_singleton.mp z];exact hcb
    ·exact hc x (List.mem_of_mem_drop z)⟩
   rw[en] at sw ⊢;exact q _ s3 sw
theorem qjr {F:St->Hp->Prop} {σ σ':St} {H:Hp} (e:σ=σ') (h:F σ' H):F σ H:=e ▸ h
structure PrB (ps:List (Int×Int)) (g:Option Int):Prop where
 P:Pr ps g
 b:∀ p∈ps,p.1<10 ^ 23/\p.2<=3072
 gb:∀ z,g=some z->z<10 ^ 23
theorem PrB.wb {ps:List (Int×Int)} {g:Option Int} (h:PrB ps g):∀ p∈ps,p.2<=10 ^ 35:=λp hp=>Int.le_trans (h.b p hp).2 (by decide)
def wB:Nat->Int
 | 0=>3
 | n+1=>4*wB n
structure Chn (qs:List (Int×Int)) (age width:Int):Prop where
 each:∀ (i:Nat) p,qs[i]?=some p->(0<=p.1/\p.1<10 ^ 23)/\1<=p.2/\p.2<=3072
 next:∀ (i:Nat) p q,qs[i]?=some p->qs[i+1]?=some q->p.1<=q.1/\q.2 % p.2=0
 last:∀ p,qs[qs.length-1]?=some p->p.1<=age/\width % p.2=0
theorem Chn.nil (a w:Int):Chn [] a w:=⟨λi p h=>by simp at h,λi p q h=>by simp at h,λp h=>by simp at h⟩
theorem Chn.snoc {qs:List (Int×Int)} {a w a' k:Int} (h:Chn qs a w) (a0:0<=a) (a1:a<10 ^ 23) (w0:1<=w) (w1:w<=3072) (ha:a<=a'):Chn (qs ++ [(a,w)]) a' (w*k):=by
 refine ⟨λi p e=>?_,λi p q e e'=>?_,λp e=>?_⟩
 ·rw[List.getElem?_append] at e
  split at e
  ·exact h.each i p e
  ·have:p=(a,w):=by
    have:=List.mem_of_getElem? e
    simpa using this
   subst this;exact ⟨⟨a0,a1⟩,w0,w1⟩
 ·rw[List.getElem?_append] at e e'
  split at e'
  ·rw[if_pos (by omega)] at e
   exact h.next i p q e e'
  ·have hq:q=(a,w):=by
    have:=List.mem_of_getElem? e'
    simpa using this
   have h0:i+1-qs.length=0:=by
    have:=(List.getElem?_eq_some_iff.mp e').1
    simp at this
    omega
   rw[if_pos (by omega)] at e;rw[show i=qs.length-1 by omega] at e;subst hq;exact h.last p e
 ·rw[List.length_append,List.length_singleton,Nat.add_sub_cancel,List.getElem?_append_right (Nat.le_refl _),Nat.sub_self] at e
  cases e;exact ⟨ha,Int.mul_emod_right _ _⟩
theorem Chn.pr {qs:List (Int×Int)} {a w:Int} {g:Option Int} (h:Chn qs a w) (h1:1<=qs.length) (h5:qs.length<=5) (hg:∀ z,g=some z->a<=z/\z<10 ^ 23):PrB qs g:=by
 refine ⟨⟨⟨h1,h5,λi p e=>⟨(h.each i p e).1.1,(h.each i p e).2.1⟩,h.next⟩,λi p e=>?_,λp e z ez=>Int.le_trans (h.last p e).1 (hg z ez).1,λz ez=>?_⟩,λp hp=>?_,λz ez=>(hg z ez).2⟩
 ·have:=h.each i p e
  exact ⟨this.1.1,by omega,this.2.1,by omega⟩
 ·have:=hg z ez
  obtain ⟨p,e⟩:∃ p,qs[qs.length-1]?=some p:=⟨_,List.getElem?_eq_getElem (by omega)⟩;have l:=h.last p e;have q:=h.each _ p e;exact ⟨by omega,by omega⟩
 ·obtain ⟨i,hi,e⟩:=List.getElem_of_mem hp
  have:=h.each i p (by rw[<- e];exact List.getElem?_eq_getElem hi);exact ⟨this.1.2,this.2.2⟩
theorem qDv (m w:Int) (h0:1<=w) (h1:w<=10 ^ 20):∃ z,atI [V.int 1,V.int 1,V.int 10,V.int w] (m % 4)=some (.int z)/\1<=z/\z<=10 ^ 20:=by
 rcases (show m % 4=0\/m % 4=1\/m % 4=2\/m % 4=3 by omega) with e|e|e|e<;>rw[e]
 ·exact ⟨_,rfl,by decide,by decide⟩
 ·exact ⟨_,rfl,by decide,by decide⟩
 ·exact ⟨_,rfl,by decide,by decide⟩
 ·exact ⟨_,rfl,h0,h1⟩
theorem qpi {x k w:Int} (h0:0<=x) (h1:x<=k) (w0:1<=w) (w1:w<=10 ^ 20):0<=x*w/\x*w<=k*10 ^ 20:=
 ⟨Int.mul_nonneg h0 (by omega),Int.mul_le_mul h1 w1 (by omega) (by omega)⟩
theorem qCd {i:Nat} (h:i<=5):wB i<=3072:=by
 rcases (show i=0\/i=1\/i=2\/i=3\/i=4\/i=5 by omega) with rfl|rfl|rfl|rfl|rfl|rfl<;>decide
def qpj:Sp:=λvs H Q _=>∃ d,vs=[.int d]/\∀ t l xs ps g H',Same H H'->H l=none->H' t=some (.tup [.ref l,gv g])->H' l=some (.lst xs)->Pairs H' xs ps->PrB ps g->Q (.ref t) H'
include T in
theorem qmr:qba P w K mg base 2 "_law_rule" ["_law_draw"] qpj:=by
 obtain ⟨f,fd,F,hm⟩:=T.f__law_rule;have nd:=sc__law_rule.nd;refine F.def_ hm (F.ok sc__law_rule (λvs H Q E h=>?_) (λcdv A outer s H vs Q E hr h=>?_)) (F.binds λ_ _ _ _ _ _ us hl=>by obtain ⟨_,rfl⟩:=L2.lq1 hl;rfl)
 ·obtain ⟨d,rfl,_⟩:=h;rfl
 ·obtain ⟨d,rfl,q⟩:=h
  refine ⟨_,(jB7 (jS 1 nd (jI (qay (jA4 qaa qaa qaa (qae qat qaa (qae qar (qae qcd (pv 0) qaa) (qae qfd qaa qaa))))) (qae qar (jF (qah T) hr (jA2 (pv 0) qaa)) qaa))) (jS 2 nd (qae qbl (qae qar (jF (qah T) hr (jA2 (pv 0) qaa)) qaa) (pv 1))) (jS 3 nd (qae qat qaa (qae qar (jF (qah T) hr (jA2 (pv 0) qaa)) qaa))) (jS 4 nd (qay qbn)) (qb8 PassesOwn.never rfl (qcc rfl T.b_range (jA1 (qae qat qaa (qae qar (jF (qah T) hr (jA2 (pv 0) qaa)) qaa)))) (jN 5 nd) (jB3 (qa4 (qee PySem.F.plainAttrs_list PySem.F.slot_list_append PySem.F.type_list_append qbd (pv 4) (jA1 (qaq (jA2 (pv 2) (pv 3)))))) (jS 2 nd (qae qat (pv 2) (qae qbl (qae qar (jF (qah T) hr (jA2 (pv 0) (qae qat qaa (qae qdu qaa (pv 5))))) qaa) (pv 1)))) (jS 3 nd (qae qbl (pv 3) (qae qat qaa (qae qar (jF (qah T) hr (jA2 (pv 0) (qae qat qaa (qae qdu qaa (pv 5))))) qaa)))))) (qa7 (jC qec (qae qar (jF (qah T) hr (jA2 (pv 0) qaa)) qaa) qaa) (qad (qak (qaq (jA2 (pv 4) qbj)))) qap) (qak (qaq (jA2 (pv 4) (qae qat (pv 2) (qae qbl (qae qar (jF (qah T) hr (jA2 (pv 0) qaa)) qaa) (pv 1))))))),?_⟩;have w20:0<=d / 7 % 10 ^ 20/\d / 7 % 10 ^ 20<10 ^ 20:=⟨Int.emod_nonneg _ (by decide),Int.emod_lt_of_pos _ (by decide)⟩
  walk_at "r";intro p0 H0 n0
  walk_at "r";intro m0 m00 m01
  obtain ⟨z,hz,z0,z1⟩:=qDv m0 (1+d / 7 % 10 ^ 20) (by omega) (by omega);refine ⟨_,_,rfl,rfl,by decide,p0,_,_,_,rfl,rfl,SqL.of n0.at_,hz,qan ?_⟩;refine qjr (σ':=[some (.int d),some (.int z),none,none,none,none]) rfl ?_;refine ⟨_,rfl,d,41,rfl,by decide,by decide,λm1 m10 m11=>?_⟩;have ma:=qpi (x:=m1 % 4) (k:=3) (by omega) (by omega) z0 z1;refine ⟨_,_,rfl,rfl,by decide,_,rfl,_,_,rfl,rfl,⟨⟨by omega,by omega⟩,by omega,by omega⟩,qan ?_⟩
  generalize m1 % 4*z=age0 at ma
  refine qjr (σ':=[some (.int d),some (.int z),some (.int age0),none,none,none]) rfl ?_;refine ⟨_,rfl,d,42,rfl,by decide,by decide,λm2 m20 m21=>?_⟩;refine ⟨_,_,rfl,rfl,by decide,_,_,rfl,rfl,qan ?_⟩;refine qjr (σ':=[some (.int d),some (.int z),some (.int age0),some (.int (1+m2 % 3)),none,none]) rfl ?_;refine ⟨Nat.zero_le _,λl H1 n1=>qan ?_⟩;refine qjr (σ':=[some (.int d),some (.int z),some (.int age0),some (.int (1+m2 % 3)),some (.ref l),none]) rfl ?_;refine ⟨_,rfl,d,43,rfl,by decide,by decide,λm3 m30 m31=>?_⟩;have fl:H l=none:=n0.same.free n1.fresh;refine ⟨_,_,rfl,rfl,by decide,_,_,rfl,rfl,_,rfl,by omega,by omega,qgb (n:=(1+m3 % 5).toNat) (λi σ H2=>Same H H2/\∃ (qs:List (Int×Int)) (xs:List V) (a w':Int) (v5:Option V),H2 l=some (.lst xs)/\Pairs H2 xs qs/\qs.length=i/\Chn qs a w'/\(0<=a/\a<=(3+4*i)*10 ^ 20)/\(1<=w'/\w'<=wB i)/\σ=[some (.int d),some (.int z),some (.int a),some (.int w'),some (.ref l),v5]) ⟨n0.same.trans n1.same,[],[],age0,_,_,n1.at_,.nil,rfl,Chn.nil _ _,⟨ma.1,by have:=ma.2;simpa using this⟩,⟨by omega,by show 1+m2 % 3<=3;omega⟩,rfl⟩ ?_ ?_⟩
  ·rintro i σ H2 hi ⟨s2,qs,xs,a,w',v5,hl,hp,hq,ch,ab,wb,rfl⟩
   rw[Int.zero_add];have i5:i<5:=by omega
   have w5:=qCd (i:=i) (by omega);have xl:=hp.length;refine qan (qjr (σ':=[some (.int d),some (.int z),some (.int a),some (.int w'),some (.ref l),some (.int i)]) rfl ?_);refine ⟨_,rfl,.inl ⟨rfl,_,SqL.of hl⟩,_,rfl,_,rfl,qbf (by simp),λt H3 n3=>?_⟩;refine ⟨l,_,_,rfl,rfl,n3.same _ _ hl,qam (by omega),λH4 b4 h4=>?_⟩;refine ⟨_,rfl,_,rfl,_,rfl,_,_,rfl,rfl,by walk_at "c",_,_,rfl,rfl,d,_,rfl,by omega,by omega,λm4 m40 m41=>?_⟩;have mb:=qpi (x:=m4 % 5) (k:=4) (by omega) (by omega) z0 z1;refine ⟨_,_,rfl,rfl,by decide,_,rfl,_,_,rfl,rfl,⟨⟨by omega,by omega⟩,by omega,by omega⟩,_,_,rfl,rfl,qan ?_⟩
   generalize m4 % 5*z=ad at mb
   refine qjr (σ':=[some (.int d),some (.int z),some (.int (a+ad)),some (.int w'),some (.ref l),some (.int i)]) rfl ?_;refine ⟨_,rfl,_,rfl,_,rfl,_,_,rfl,rfl,by walk_at "c",_,_,rfl,rfl,d,_,rfl,by omega,by omega,λm5 m50 m51=>?_⟩;refine ⟨_,_,rfl,rfl,by decide,_,_,rfl,rfl,_,_,rfl,rfl,⟨⟨by omega,by omega⟩,by omega,by omega⟩,qan ?_⟩;have wn:w'*(1+m5 % 4)<=wB i*4:=Int.mul_le_mul wb.2 (by omega) (by omega) (by omega);have wp:1*1<=w'*(1+m5 % 4):=Int.mul_le_mul wb.1 (by omega) (by omega) (by omega);refine ⟨b4.same (s2.trans n3.same) fl,qs ++ [(a,w')],_,a+ad,w'*(1+m5 % 4),_,h4,?_,by simp[hq],ch.snoc ab.1 (by omega) wb.1 (by omega) (by omega),⟨by omega,by have:=mb.2;omega⟩,⟨by omega,by show _<=4*wB i;omega⟩,rfl⟩;exact ((hp.same n3.same).but b4 (n3.same _ _ hl) qr0).snoc ⟨t,rfl,b4 _ _ n3.at_ (qav n3.at_ (n3.same _ _ hl) (by intro z;cases z))⟩
  ·rintro σ H2 ⟨s2,qs,xs,a,w',v5,hl,hp,hq,ch,ab,wb,rfl⟩
   have n5:1<=qs.length/\qs.length<=5:=by omega
   refine ⟨_,rfl,d,60,rfl,by decide,by decide,λm6 m60 m61=>?_⟩;refine ⟨_,_,rfl,rfl,by decide,rfl,_,rfl,?_⟩;refine qew (λz=>?_) λz'=>?_
   ·refine ⟨_,rfl,qbf (by simp),λt H3 n3=>?_⟩
    exact q t l xs qs none H3 (s2.trans n3.same) fl n3.at_ (n3.same _ _ hl) (hp.same n3.same) (ch.pr n5.1 n5.2 λz e=>by cases e)
   ·refine ⟨_,rfl,_,rfl,_,rfl,d,61,rfl,by decide,by decide,λm7 m70 m71=>?_⟩
    have mb:=qpi (x:=m7 % 9) (k:=8) (by omega) (by omega) z0 z1;refine ⟨_,_,rfl,rfl,by decide,_,rfl,_,_,rfl,rfl,⟨⟨by omega,by omega⟩,by omega,by omega⟩,_,_,rfl,rfl,qbf (by simp),λt H3 n3=>?_⟩;refine q t l xs qs (some (a+m7 % 9*z)) H3 (s2.trans n3.same) fl n3.at_ (n3.same _ _ hl) (hp.same n3.same) (ch.pr n5.1 n5.2 λy e=>?_);cases e;have:=ab.2;exact ⟨by omega,by omega⟩
def T42 (t:Int):Prop:=-(10 ^ 42)<t/\t<10 ^ 42
theorem qDw (m a b c d:Int) {W:Int} (ha:1<=a/\a<W) (hb:1<=b/\b<W) (hc:1<=c/\c<W) (hd:1<=d/\d<W):∃ z,atI [V.int a,V.int b,V.int c,V.int d] (m % 4)=some (.int z)/\1<=z/\z<W:=by
 rcases (show m % 4=0\/m % 4=1\/m % 4=2\/m % 4=3 by omega) with e|e|e|e<;>rw[e]
 ·exact ⟨_,rfl,ha⟩
 ·exact ⟨_,rfl,hb⟩
 ·exact ⟨_,rfl,hc⟩
 ·exact ⟨_,rfl,hd⟩
theorem Pairs.at {H:Hp} {xs:List V} {ps:List (Int×Int)} (h:Pairs H xs ps) {i:Nat} (hi:i<ps.length):∃ a p,xs[i]?=some (.ref a)/\p∈ps/\ps[i]?=some p/\H a=some (.tup [.int p.1,.int p.2]):=by
 have hl:=h.length;have e:xs[i]?=some xs[i]:=List.getElem?_eq_getElem (by omega);obtain ⟨p,hp,a,ea,q⟩:=h.get e;rw[ea] at e;exact ⟨a,p,e,List.mem_of_getElem? hp,hp,q⟩
inductive qim (vs:List V) (H:Hp) (Q:VK) (E_:XK):Prop
 | mk:∀ (l:Addr) (xs:List V) (ps:List (Int×Int)) (g:Option Int) (day d:Int),vs=[.ref l,gv g,.int day,.int d]->H l=some (.lst xs)->Pairs H xs ps->PrB ps g->(-(10 ^ 31)<=day/\day<=10 ^ 31)->(∀ t H',Same H H'->T42 t->Q (.int t) H')->qim vs H Q E_
include T in
theorem qms:qba P w K mg base 2 "_law_time" ["_law_steps", "_law_gone", "_law_day", "_law_draw"] qim:=by
 obtain ⟨f,fd,F,hm⟩:=T.f__law_time;have nd:=sc__law_time.nd;refine F.def_ hm (F.ok sc__law_time (λvs H Q E h=>?_) (λcdv A outer s H vs Q E hr h=>?_)) (F.binds λ_ _ _ _ _ _ us hl=>by obtain ⟨_,_,_,_,rfl⟩:=L2.lq4 hl;rfl)
 ·obtain ⟨l,xs,ps,g,day,d,rfl,_⟩:=h;rfl
 ·obtain ⟨l,xs,ps,g,day,d,rfl,hl,hp,pb,hd,q⟩:=h
  have lo:=pb.P.good.lo;have xl:=hp.length;obtain ⟨aL,pL,eL,mL,_,hL⟩:=hp.at (i:=ps.length-1) (by omega);obtain ⟨a0,p0,e0,m0,_,h0⟩:=hp.at (i:=0) (by omega);rw[<- xl] at eL;have bL:=pb.b pL mL;have b0:=pb.b p0 m0;obtain ⟨iL,hiL,eiL⟩:=List.getElem_of_mem mL;have gL:=pb.P.good.each iL pL (by rw[<- eiL];exact List.getElem?_eq_getElem hiL);obtain ⟨i0,hi0,ei0⟩:=List.getElem_of_mem m0;have g0:=pb.P.good.each i0 p0 (by rw[<- ei0];exact List.getElem?_eq_getElem hi0);have i0':atI xs 0=some (.ref a0):=qdc (j:=0) e0;refine ⟨_,(jB6 (jS 4 nd (qae qat (jT (jI (pv 0) (qd5 qce qaa)) qaa) (jT (jI (pv 0) (qd5 qce qaa)) qaa))) (jS 5 nd (jI (qay (jA4 qaa (qae qat (qae qat (qae qbl qaa (jT (jI (pv 0) qaa) qaa)) (jT (jI (pv 0) qaa) qaa)) qaa) (qae qat (qae qbl qaa (pv 4)) qaa) (qae qat (qae qbl qaa (pv 4)) qaa))) (qae qar (jF (qah T) hr (jA2 (pv 3) qaa)) qaa))) (qa7 (jC qec (qae qar (jF (qah T) hr (jA2 (pv 3) qaa)) qaa) qaa) (qad (qak (qae qc5 (pv 2) (qae qar (qae qcd (pv 3) qaa) (qae qfd qaa qaa))))) qap) (jS 6 nd (qae qcd (pv 3) qaa)) (qa7 (PW.pt (qpw (jC qgc (pv 1) qbj) (ql1 (jC qec (qae qar (jF (qah T) hr (jA2 (pv 3) qaa)) qaa) qaa)))) (qad (qak (qae qat (qae qc5 (qae qc5 (pv 2) (pv 1)) (qae qar (pv 6) (qae qat (qae qbl qaa (jT (jI (pv 0) (qd5 qce qaa)) qaa)) qaa))) (jT (jI (pv 0) (qd5 qce qaa)) qaa)))) qap) (qak (qae qc5 (qae qat (pv 2) qaa) (qae qar (pv 6) (pv 5))))),?_⟩
  walk_at "r"
  intro p1 H1 n1
  walk_at "r"
  intro m1 m10 m11;obtain ⟨f,hf,f0,f1⟩:=qDw m1 4 (2*p0.2+p0.1+2) (2*(pL.1+pL.2)+9) (3*(pL.1+pL.2)+9) (W:=10 ^ 25) (by decide) (by omega) (by omega) (by omega);refine ⟨_,_,rfl,rfl,by decide,p1,_,_,_,rfl,rfl,SqL.of n1.at_,hf,qan ?_⟩;refine qjr (σ':=[some (.ref l),some (gv g),some (.int day),some (.int d),some (.int (pL.1+pL.2)),some (.int f),none]) rfl ?_;have d40:0<=d / 5 % 10 ^ 40/\d / 5 % 10 ^ 40<10 ^ 40:=⟨Int.emod_nonneg _ (by decide),Int.emod_lt_of_pos _ (by decide)⟩;refine ⟨_,rfl,d,72,rfl,by decide,by decide,λm2 _ _=>⟨_,_,rfl,rfl,by decide,rfl,_,rfl,?_⟩⟩;refine qew (λz=>?_) λz=>?_
  ·walk_at "r"
   exact q (day-d / 5 % 10 ^ 40) H1 n1.same ⟨by omega,by omega⟩
  refine ⟨_,rfl,_,_,rfl,rfl,by walk_at "c",qan ?_⟩;refine qjr (σ':=[some (.ref l),some (gv g),some (.int day),some (.int d),some (.int (pL.1+pL.2)),some (.int f),some (.int (d / 5))]) rfl ?_;have fin:T42 (day+3-d / 5 % f):=by
   have h1:=Int.emod_nonneg (d / 5) (show f≠0 by omega);have h2:=Int.emod_lt_of_pos (d / 5) (show 0<f by omega);exact ⟨by omega,by omega⟩
  refine ⟨_,rfl,rfl,_,rfl,?_⟩
  cases g with
  | none =>
   refine qdw ?_;refine ⟨_,rfl,_,_,rfl,rfl,_,rfl,_,rfl,_,_,rfl,rfl,by walk_at "c",_,_,rfl,rfl,q _ H1 n1.same fin⟩
  | some gz =>
   refine qck ?_;refine ⟨_,rfl,d,73,rfl,by decide,by decide,λm3 _ _=>⟨_,_,rfl,rfl,by decide,rfl,_,rfl,?_⟩⟩;have gzb:=pb.gb gz rfl;have gz0:=(pb.P.gb gz rfl).1;refine qew (λz=>?_) λz=>?_
   ·have hl1:=n1.same _ _ hl
    have hL1:=n1.same _ _ hL;have h1:=Int.emod_nonneg (d / 5) (show 2*pL.2+3≠0 by omega);have h2:=Int.emod_lt_of_pos (d / 5) (show 0<2*pL.2+3 by omega);have fin2:T42 (day-gz-d / 5 % (2*pL.2+3)+pL.2):=⟨by omega,by omega⟩;have e1:gv (some gz)=V.int gz:=rfl;refine qjr (σ':=[some (.ref l),some (.int gz),some (.int day),some (.int d),some (.int (pL.1+pL.2)),some (.int f),some (.int (d / 5))]) rfl ?_
    walk_at "r"
    exact q _ H1 n1.same fin2
   ·refine ⟨_,rfl,_,_,rfl,rfl,_,rfl,_,rfl,_,_,rfl,rfl,by walk_at "c",_,_,rfl,rfl,q _ H1 n1.same fin⟩
def qmt:Sp:=λvs H Q _=>∃ d,vs=[.int d]/\∀ v,-(10 ^ 40)<=v->v<=10 ^ 40->Q (.int v) H
include T in
theorem qlr:qba P w K mg base 2 "_law_value" ["_law_draw"] qmt:=by
 obtain ⟨f,fd,F,hm⟩:=T.f__law_value;have nd:=sc__law_value.nd;refine F.def_ hm (F.ok sc__law_value (λvs H Q E h=>?_) (λcdv A outer s H vs Q E hr h=>?_)) (F.binds λ_ _ _ _ _ _ us hl=>by obtain ⟨_,rfl⟩:=L2.lq1 hl;rfl)
 ·obtain ⟨d,rfl,_⟩:=h;rfl
 ·obtain ⟨d,rfl,q⟩:=h
  refine ⟨_,(jB3 (jS 1 nd (jF (qah T) hr (jA2 (pv 0) qaa))) (qa7 (jC qec (qae qar (pv 1) qaa) qaa) (qad (qak (qae qc5 (qae qar (qae qcd (pv 0) qaa) (qae qbl qaa (qae qfd qaa qaa))) (qae qfd qaa qaa)))) qap) (qak (qae qc5 (qae qar (qae qcd (pv 1) qaa) qaa) qaa))),?_⟩;refine ⟨_,rfl,d,74,rfl,by decide,by decide,λm m0 m1=>qan ?_⟩;refine qjr (σ':=[some (.int d),some (.int m)]) rfl ?_;have d40:0<=d / 3 % (2*10 ^ 40)/\d / 3 % (2*10 ^ 40)<2*10 ^ 40:=⟨Int.emod_nonneg _ (by decide),Int.emod_lt_of_pos _ (by decide)⟩
  walk_at "r"
  refine qew (λz=>?_) λz=>?_
  ·walk_at "r"
   exact q (d / 3 % (2*10 ^ 40)-10 ^ 40) (by omega) (by omega)
  ·walk_at "r"
   exact q (m / 4 % 19-9) (by omega) (by omega)
theorem qDx (m n a:Int) (hn:0<=n) (ha:0<=a/\a<10 ^ 30):∃ z,atI [V.int 1,V.int 1,V.int (1+n / 5 % 5),V.int (1+a),V.int 2] (m % 5)=some (.int z)/\1<=z/\z<=10 ^ 31:=by
 rcases (show m % 5=0\/m % 5=1\/m % 5=2\/m % 5=3\/m % 5=4 by omega) with e|e|e|e|e<;>rw[e]
 ·exact ⟨_,rfl,by decide,by decide⟩
 ·exact ⟨_,rfl,by decide,by decide⟩
 ·exact ⟨_,rfl,by omega,by omega⟩
 ·exact ⟨_,rfl,by omega,by omega⟩
 ·exact ⟨_,rfl,by decide,by decide⟩
def qpk:Sp:=λvs H Q _=>∃ d,vs=[.int d]/\∀ m H',Same H H'->1<=m->m<=10 ^ 31->Q (.int m) H'
include T in
theorem qmu:qba P w K mg base 2 "_law_many" ["_law_draw"] qpk:=by
 obtain ⟨f,fd,F,hm⟩:=T.f__law_many;have nd:=sc__law_many.nd;refine F.def_ hm (F.ok sc__law_many (λvs H Q E h=>?_) (λcdv A outer s H vs Q E hr h=>?_)) (F.binds λ_ _ _ _ _ _ us hl=>by obtain ⟨_,rfl⟩:=L2.lq1 hl;rfl)
 ·obtain ⟨d,rfl,_⟩:=h;rfl
 ·obtain ⟨d,rfl,q⟩:=h
  refine ⟨_,(jB2 (jS 1 nd (jF (qah T) hr (jA2 (pv 0) qaa))) (qak (jI (qay (jA5 qaa qaa (qae qat qaa (qae qar (qae qcd (pv 1) qaa) qaa)) (qae qat qaa (qae qar (qae qcd (pv 0) qaa) (qae qfd qaa qaa))) qaa)) (qae qar (pv 1) qaa)))),?_⟩;refine ⟨_,rfl,d,75,rfl,by decide,by decide,λm m0 m1=>qan ?_⟩;refine qjr (σ':=[some (.int d),some (.int m)]) rfl ?_;have d30:0<=d / 3 % 10 ^ 30/\d / 3 % 10 ^ 30<10 ^ 30:=⟨Int.emod_nonneg _ (by decide),Int.emod_lt_of_pos _ (by decide)⟩
  walk_at "r"
  intro p1 H1 n1;obtain ⟨z,hz,z0,z1⟩:=qDx m m (d / 3 % 10 ^ 30) m0.1 d30
  walk_at "r"
  exact q z H1 n1.same z0 z1
def RdN (H:Hp) (v:V) (r:List Nat×Rd3):Prop:=∃ a,v=.ref a/\H a=some (.tup [tS r.1,.int r.2.1,.int r.2.2.1,.int r.2.2.2])
def RdNs (H:Hp) (ys:List V) (rs:List (List Nat×Rd3)):Prop:=Paired (RdN H) ys rs
theorem RdNs.tupS {H H':Hp} (s:TupS H H'):∀ {ys:List V} {rs:List (List Nat×Rd3)},RdNs H ys rs->RdNs H' ys rs
 | _,_,.nil=>.nil
 | _,_,.cons ⟨a,e,q⟩ t=>.cons ⟨a,e,s _ _ q⟩ (RdNs.tupS s t)
theorem RdNs.snoc {H:Hp} {v:V} {r:List Nat×Rd3} (h:RdN H v r):∀ {ys:List V} {rs:List (List Nat×Rd3)},RdNs H ys rs->RdNs H (ys ++ [v]) (rs ++ [r])
 | _,_,.nil=>.cons h .nil
 | _,_,.cons b t=>.cons b (RdNs.snoc h t)
theorem RdNs.length {H:Hp}:∀ {ys:List V} {rs:List (List Nat×Rd3)},RdNs H ys rs->ys.length=rs.length
 | _,_,.nil=>rfl
 | _,_,.cons _ t=>by rw[List.length_cons,List.length_cons,RdNs.length t]
def RL63 (r:Rd3):Prop:=T42 r.1/\(-(10 ^ 40)<=r.2.1/\r.2.1<=10 ^ 40)/\1<=r.2.2/\r.2.2<=10 ^ 31
inductive qhg (vs:List V) (H:Hp) (Q:VK) (E_:XK):Prop
 | mk:∀ (lc ln ls:Addr) (cs:List Int) (nms:List (List Nat)) (xs:List V) (ps:List (Int×Int)) (g:Option Int) (day:Int),vs=[.ref lc,.ref ln,.ref ls,gv g,.int day]->H lc=some (.lst (cs.map V.int))->cs.length<=63->H ln=some (.lst (nms.map tS))->1<=nms.length->nms.length<=60->H ls=some (.lst xs)->Pairs H xs ps->PrB ps g->(-(10 ^ 31)<=day/\day<=10 ^ 31)->(∀ l ys rs H',Same H H'->H l=none->H' l=some (.lst ys)->RdNs H' ys rs->rs.length=cs.length->(∀ r∈rs,r.1∈nms/\RL63 r.2)->Q (.ref l) H')->qhg vs H Q E_
include T in
theorem qhh:qba P w K mg base 3 "_law_readings" ["_law_cells", "_law_names", "_law_steps", "_law_gone", "_law_day"] qhg:=by
 obtain ⟨f,fd,F,hm⟩:=T.f__law_readings;have nd:=sc__law_readings.nd;refine F.def_ hm (F.ok sc__law_readings (λvs H Q E h=>?_) (λcdv A outer s H vs Q E hr h=>?_)) (F.binds λ_ _ _ _ _ _ us hl=>by obtain ⟨_,_,_,_,_,rfl⟩:=L2.lq5 hl;rfl)
 ·obtain ⟨lc,ln,ls,cs,nms,xs,ps,g,day,rfl,_⟩:=h;rfl
 ·obtain ⟨lc,ln,ls,cs,nms,xs,ps,g,day,rfl,hc,hcl,hn,n1',n60,hl,hp,pb,hd,q⟩:=h
  refine ⟨_,(jB3 (jS 5 nd (qay qbn)) (qb8 PassesOwn.never rfl (qa8 (pv 0)) (jN 6 nd) (jB2 (jS 7 nd (jI (pv 1) (qae qar (jF (qah T) hr (jA2 (pv 6) qaa)) (qai qa0 rfl T.b_len qch (jA1 (pv 1)))))) (qa4 (qee PySem.F.plainAttrs_list PySem.F.slot_list_append PySem.F.type_list_append qbd (pv 5) (jA1 (qaq (jA4 (pv 7) (jF (qms T) hr (jA4 (pv 2) (pv 3) (pv 4) (pv 6))) (jF (qlr T) hr (jA1 (pv 6))) (jF (qmu T) hr (jA1 (pv 6)))))))))) (qak (pv 5))),?_⟩;refine ⟨Nat.zero_le _,λlf H1 n1=>qan ?_⟩;refine qjr (σ':=[some (.ref lc),some (.ref ln),some (.ref ls),some (gv g),some (.int day),some (.ref lf),none,none]) rfl ?_;refine ⟨_,rfl,lc,rfl,⟨_,SqL.of (n1.same _ _ hc)⟩,qb2 (xs:=cs.map V.int) (λi σ H2=>Same H H2/\∃ (ys:List V) (rs:List (List Nat×Rd3)) (v6 v7:Option V),H2 lf=some (.lst ys)/\RdNs H2 ys rs/\rs.length=i/\(∀ r∈rs,r.1∈nms/\RL63 r.2)/\σ=[some (.ref lc),some (.ref ln),some (.ref ls),some (gv g),some (.int day),some (.ref lf),v6,v7]) ⟨n1.same,[],[],_,_,n1.at_,.nil,rfl,by simp,rfl⟩ (λi σ H2 _ h2=>SqL.of (h2.1 _ _ hc)) ?_ ?_⟩
  ·rintro i x σ H2 hi ⟨s2,ys,rs,v6,v7,hf,hr,hrl,hrs,rfl⟩
   obtain ⟨d,rfl⟩:∃ d,x=V.int d:=by
    obtain ⟨d,_,e⟩:=List.mem_map.mp (List.mem_of_getElem? hi);exact ⟨d,e.symm⟩
   have ic:i<cs.length:=by have:=(List.getElem?_eq_some_iff.mp hi).1;rw[List.length_map] at this;exact this
   refine qan (qjr (σ':=[some (.ref lc),some (.ref ln),some (.ref ls),some (gv g),some (.int day),some (.ref lf),some (.int d),v7]) rfl ?_);refine ⟨_,rfl,_,rfl,d,76,rfl,by decide,by decide,λm m0 m1=>?_⟩;have hm1:=Int.emod_nonneg m (show (nms.length:Int)≠0 by omega);have hm2:=Int.emod_lt_of_pos m (show (0:Int)<nms.length by omega);obtain ⟨j,hj⟩:=Int.eq_ofNat_of_zero_le hm1;have jl:j<nms.length:=by omega
   have hnj:(nms.map tS)[j]?=some (tS nms[j]):=by simp[jl]
   have hnm:nms[j]∈nms:=List.getElem_mem jl
   generalize nms[j]=nm at hnj hnm
   refine ⟨_,rfl,ln,_,rfl,.inl (SqL.of (s2 _ _ hn)),?_⟩;rw[List.length_map];refine ⟨_,_,rfl,rfl,by omega,?_⟩;rw[hj];refine ⟨ln,_,_,_,rfl,rfl,SqL.of (s2 _ _ hn),qdc hnj,qan ?_⟩;refine qjr (σ':=[some (.ref lc),some (.ref ln),some (.ref ls),some (gv g),some (.int day),some (.ref lf),some (.int d),some (tS nm)]) rfl ?_;refine ⟨_,rfl,.inl ⟨rfl,_,SqL.of hf⟩,_,rfl,_,rfl,_,rfl,_,rfl,_,rfl,ls,xs,ps,g,day,d,rfl,s2 _ _ hl,hp.same s2,pb,hd,λt H3 s3 ht=>?_⟩;refine ⟨_,rfl,d,rfl,λva va0 va1=>⟨_,rfl,d,rfl,λmm H4 s4 mm0 mm1=>?_⟩⟩;refine ⟨qbf (by simp),λta H5 n5=>?_⟩;have s25:=s3.trans (s4.trans n5.same);have hf5:=s25 _ _ hf;refine ⟨lf,_,_,rfl,rfl,hf5,qam (by have:=hr.length;omega),λH6 b6 h6=>?_⟩;refine ⟨b6.same (s2.trans s25) n1.fresh,_,rs ++ [(nm,t,va,mm)],_,_,h6,?_,by simp[hrl],λr hr'=>?_,rfl⟩
   ·exact ((RdNs.tupS (Same.tup s25) hr).tupS (b6.tup hf5 qr0)).snoc ⟨ta,rfl,b6 _ _ n5.at_ (qav n5.at_ hf5 (by intro z;cases z))⟩
   ·rcases List.mem_append.mp hr' with z|z
    ·exact hrs r z
    ·rw[List.mem_singleton.mp z];exact ⟨hnm,ht,⟨va0,va1⟩,mm0,mm1⟩
  ·rintro σ H2 ⟨s2,ys,rs,v6,v7,hf,hr,hrl,hrs,rfl⟩
   rw[List.length_map] at hrl;exact ⟨_,rfl,q lf ys rs H2 s2 n1.fresh hf hr hrl hrs⟩
def qCe (H:Hp) (v:V) (n:List Nat×List (List Nat)):Prop:=∃ a l,v=.ref a/\H a=some (.tup [tS n.1,.ref l])/\H l=some (.lst (n.2.map tS))
def NmsAt (H:Hp) (ys:List V) (NM:List (List Nat×List (List Nat))):Prop:=Paired (qCe H) ys NM
theorem NmsAt.same {H H':Hp} (s:Same H H'):∀ {ys:List V} {NM:List (List Nat×List (List Nat))},NmsAt H ys NM->NmsAt H' ys NM
 | _,_,.nil=>.nil
 | _,_,.cons ⟨a,l,e,h1,h2⟩ t=>.cons ⟨a,l,e,s _ _ h1,s _ _ h2⟩ (NmsAt.same s t)
theorem NmsAt.length {H:Hp}:∀ {ys:List V} {NM:List (List Nat×List (List Nat))},NmsAt H ys NM->ys.length=NM.length
 | _,_,.nil=>rfl
 | _,_,.cons _ t=>by rw[List.length_cons,List.length_cons,NmsAt.length t]
theorem NmsAt.get {H:Hp}:∀ {ys:List V} {NM:List (List Nat×List (List Nat))} {i:Nat} {y:V},NmsAt H ys NM->ys[i]?=some y->∃ n,NM[i]?=some n/\qCe H y n
 | _,_,_,_,.nil,h=>by simp at h
 | _,_,0,_,.cons b t,h=>by cases h;exact ⟨_,rfl,b⟩
 | _,_,i+1,_,.cons b t,h=>NmsAt.get (i:=i) t h
theorem RdNs.get {H:Hp}:∀ {ys:List V} {rs:List (List Nat×Rd3)} {i:Nat} {y:V},RdNs H ys rs->ys[i]?=some y->∃ r,rs[i]?=some r/\RdN H y r
 | _,_,_,_,.nil,h=>by simp at h
 | _,_,0,_,.cons b t,h=>by cases h;exact ⟨_,rfl,b⟩
 | _,_,i+1,_,.cons b t,h=>RdNs.get (i:=i) t h
def qin (RS:List (List Nat×Rd3)) (x:List Nat):List Rd3:=(RS.filter λr=>decide (r.1=x)).map (·.2)
theorem qls (RS:List (List Nat×Rd3)) (r:List Nat×Rd3) (x:List Nat):qin (RS ++ [r]) x=if x=r.1 then qin RS x ++ [r.2] else qin RS x:=by
 unfold qin;rw[List.filter_append,List.map_append]
 by_cases h:x=r.1
 ·rw[if_pos h,List.filter_cons,decide_eq_true h.symm];rfl
 ·rw[if_neg h,List.filter_cons,decide_eq_false (λe=>h e.symm)];simp
theorem qf7 (RS:List (List Nat×Rd3)) (x:List Nat):(qin RS x).length<=RS.length:=by
 unfold qin;rw[List.length_map];exact List.length_filter_le _ _
structure NmOk (NM:List (List Nat×List (List Nat))):Prop where
 nd:(NM.map (·.1)).Nodup
 sm:∀ n∈NM,qas 12 n.1
 mm:∀ n∈NM,qbm (n.2.map tS)
 ln:NM.length<=20
section
variable {C CR R N M b l:Addr} {L:List Addr} {B:qc2} {es:List Int} {ge:Option Int} {X:qcq} {H:Hp} {Q:VK} {E:XK} {x:List Nat} {ms:List (List Nat)} {vs:List V}
theorem qz4 (hv:vs=[.ref b,tS x,.ref l]) (Ar:BkC C CR R (rmS H L) b B es ge X) (hL:LsL H L) (xk:XOk X) (lx:x.length<=3000) (lX:X.length<=60) (hl:H l=some (.lst (ms.map tS))) (tm:∀ m∈ms,m.length<=3000) (lm:ms.length<=60)
  (k1:(¬ qas 12 x\/x∈X.map (·.1))->∀ H',Same H H'->E (.ref N) none H') (k2:¬ (¬ qas 12 x\/x∈X.map (·.1))->¬ qbm (ms.map tS)->∀ H',Same H H'->E (.ref M) none H')
  (k:¬ (¬ qas 12 x\/x∈X.map (·.1))->qbm (ms.map tS)->∀ ro c H',But2 B.dm B.dr H H'->H c.dy=none->H c.dh=none->BkC C CR R (rmS H' L) b B es ge (X ++ [(x,(ro,c,[],ms))])->XOk (X ++ [(x,(ro,c,[],ms))])->Q .non H'):qep C CR R N M vs H Q E:=by
 have A:=Ar.same qc3;have bad:(qbz 12 (tS x)=false\/qhr X (tS x))->(¬ qas 12 x\/x∈X.map (·.1)):=λz=>by
  rcases z with z|⟨y,e,_,hy⟩
  ·rw[qcp] at z;exact .inl (of_decide_eq_false z)
  ·exact .inr (qc7 e ▸ hy)
 have bad':(¬ qas 12 x\/x∈X.map (·.1))->(qbz 12 (tS x)=false\/qhr X (tS x)):=λz=>by
  by_cases hs:qas 12 x
  ·exact .inr ⟨x,rfl,hs,z.resolve_left λw=>w hs⟩
  ·exact .inl (by rw[qcp];exact decide_eq_false hs)
 refine ⟨b,B,es,ge,X,tS x,.ref l,_,hv,A,.inl ⟨x,rfl,lx⟩,.inr ⟨l,rfl,hl⟩,λu hu=>?_,by rw[List.length_map];exact lm,lX,λz=>k1 (bad z),λz=>k2 λw=>z (bad' w),λy2 ms2 ey2 hs hn eu mk ro c H' b' c1 c2 _ B'=>?_⟩
 ·obtain ⟨m,hm',rfl⟩:=List.mem_map.mp hu
  exact .inl ⟨m,rfl,tm m hm'⟩
 have ey2:=qc7 ey2;subst ey2;have ems:ms=ms2:=qvn eu;subst ems;exact k (λz=>z.elim (λw=>w hs) hn) mk ro c H' b' c1 c2 (B' L hL Ar) (xk.snoc A hn c1 c2)
theorem putY {r:Rd3} (hv:vs=[.ref b,tS x,.int r.1,.int r.2.1,.int r.2.2]) (Ar:BkC C CR R (rmS H L) b B es ge X) (hL:LsL H L) (xk:XOk X) (lx:x.length<=3000) (hl:∀ x e,(x,e)∈X->e.2.2.1.length<60) (tb:qje r.1) (hlt:1<=r.2.2->RLt r)
  (k1:¬ (qas 12 x/\x∈X.map (·.1))->∀ H',Same H H'->E (.ref N) none H') (k2:(qas 12 x/\x∈X.map (·.1))->r.2.2<1->∀ H',Same H H'->E (.ref M) none H')
  (k:∀ e,qas 12 x->(x,e)∈X->1<=r.2.2->∀ H',But2 e.2.1.dy e.2.1.dh H H'->BkC C CR R (rmS H' L) b B es ge (X.map (qlg x r))->Q (.bl (qct (B.ps.map (·.2)) es ge r.1).isSome) H'):qf6 C CR R N M vs H Q E:=by
 have A:=Ar.same qc3;refine ⟨b,B,es,ge,X,tS x,r.1,r.2.1,r.2.2,hv,A,.inl ⟨x,rfl,lx⟩,tb,hlt,hl,λz=>k1 λw=>z ⟨x,rfl,w.1,w.2⟩,λy e' ey hy he' h1=>?_,λy e' ey hy he' h1 H' b' R'=>?_⟩
 ·have ey:=qc7 ey
  subst ey;exact k2 ⟨hy,List.mem_map.mpr ⟨_,he',rfl⟩⟩ h1
 ·have ey:=qc7 ey
  subst ey;obtain ⟨⟨Y,hY⟩,⟨Z,hZ⟩⟩:=A.dicts he';exact k e' hy he' h1 H' b' (Ar.putR hL xk he' b' hY hZ R')
theorem BkC.begunR {H':Hp} (h:BkC C CR R H' b B es ge []) (hL:LsL H L) (s:Same H H') (f1:H b=none) (f2:H B.le=none) (f3:H B.dm=none) (f4:H B.dr=none) (ru:RuleAt R (rmS H L) B.ru B.rl B.ps B.g):BkC C CR R (rmS H' L) b B es ge []:=by
 have out:∀ {c:Addr},H c=none->c ∉ L:=fun {c} e z=>by obtain ⟨zs,q⟩:=hL c z;rw[e] at q;cases q
 obtain ⟨dx,o⟩:=h.ob;obtain ⟨km,hkm,enm⟩:=h.ms;obtain ⟨kr,hkr,enr⟩:=h.rs;refine ⟨⟨dx,qbe o (out f1)⟩,ru.same (qjm s),qbe h.ed (out f2),⟨km,qbe hkm (out f3),?_⟩,⟨kr,qbe hkr (out f4),?_⟩,h.ne,h.ok⟩
 ·cases enm;exact .nil
 ·cases enr;exact .nil
end
abbrev NmR:=List Nat×List (List Nat)
open Classical in
noncomputable def qb7:List (List Nat)->List NmR->Nat
 | _,[]=>0
 | seen,n :: t=>if ¬ qas 12 n.1\/n.1∈seen then 1 else if qbm (n.2.map tS) then qb7 (seen ++ [n.1]) t else 2
open Classical in
noncomputable def qds (ns:List (List Nat)):List (List Nat×Rd3)->Nat
 | []=>0
 | r :: t=>if qas 12 r.1/\r.1∈ns then (if r.2.2.2<1 then 3 else qds ns t) else 1
noncomputable def qjs (ps:List (Int×Int)) (EV:List V) (NM:List NmR) (RS:List (List Nat×Rd3)):Nat:=if EV.length=ps.length+1 then (if qb7 [] NM=0 then qds (NM.map (·.1)) RS else qb7 [] NM) else 4
theorem qjn {ps:List (Int×Int)} {EV:List V} {NM:List NmR} {RS:List (List Nat×Rd3)} {c:Nat} (hl:EV.length=ps.length+1) (h:qb7 [] NM=c) (hc:c≠0):qjs ps EV NM RS=c:=by
 unfold qjs;rw[if_pos hl,h,if_neg hc]
theorem qe7 {ps:List (Int×Int)} {EV:List V} {NM:List NmR} {RS:List (List Nat×Rd3)} {c:Nat} (hl:EV.length=ps.length+1) (h0:qb7 [] NM=0) (h:qds (NM.map (·.1)) RS=c):qjs ps EV NM RS=c:=by
 unfold qjs;rw[if_pos hl,if_pos h0,h]
theorem qxs {α:Type} {l:List α} {j:Nat} {a:α} (h:l[j]?=some a):l.drop j=a :: l.drop (j+1):=by
 obtain ⟨hj,e⟩:=List.getElem?_eq_some_iff.mp h;rw[List.drop_eq_getElem_cons hj,e]
def qDy (a b c d:Addr) (k:Nat):Addr:=if k=1 then a else if k=2 then b else if k=3 then c else d
structure NmT (NM:List NmR):Prop where
 nx:∀ n∈NM,n.1.length<=3000
 mx:∀ n∈NM,n.2.length<=60/\∀ m∈n.2,m.length<=3000
 ln:NM.length<=20
structure RdT (RS:List (List Nat×Rd3)):Prop where
 rx:∀ r∈RS,r.1.length<=3000/\qje r.2.1/\(1<=r.2.2.2->RLt r.2)
 ln:RS.length<=40
inductive qob (C CR R NN NK NU NR:Addr) (vs:List V) (H:Hp) (Q:VK) (E:XK):Prop
 | mk:∀ (ru rl e lnm lrd:Addr) (ps:List (Int×Int)) (g:Option Int) (day:Int) (EV:List V) (fs:List Int) (fg:Option Int) (ys zs:List V) (NM:List NmR) (RS:List (List Nat×Rd3)) (L:List Addr),vs=[.ref ru,.int day,.ref e,.ref lnm,.ref lrd]->RuleAt R H ru rl ps g->Pr ps g->(∀ p∈ps,p.2<=10 ^ 35)->Bd day->H e=some (.lst EV)->(∀ v∈EV,Ed v)->(EV.length=ps.length+1->qA3 ps g day EV fs fg)->H lnm=some (.lst ys)->NmsAt H ys NM->NmT NM->H lrd=some (.lst zs)->RdNs H zs RS->RdT RS->LsL H L->rl ∉ L->(∀ c,qjs ps EV NM RS=c->c≠0->∀ H',Same H H'->E (.ref (qDy NN NK NU NR c)) none H')->(qjs ps EV NM RS=0->∀ b le dm dr X H',BkC C CR R (rmS H' L) b ⟨ru,rl,le,dm,dr,ps,g,day⟩ fs fg X->XOk X->X.map (λp=>(p.1,p.2.2.2.2))=NM->(∀ p∈X,p.2.2.2.1=qin RS p.1)->(∀ p∈X,H p.2.2.1.dy=none/\H p.2.2.1.dh=none)->Same H H'->H b=none->H le=none->H dm=none->H dr=none->Q (.ref b) H')->qob C CR R NN NK NU NR vs H Q E
include T in
theorem qlt:qwg P w K mg base 8 "book_of" ["rule", "day", "edges", "names", "readings"] [] (qob C_Book C_Roll C_Rule C_NoName C_NoMark C_NoNumber C_NoRule):=by
 obtain ⟨f,fd,F,hm⟩:=T.f_book_of;have nd:=sc_book_of.nd;refine ⟨f,fd,(F.okX sc_book_of (λvs H Q E h=>?_) (λcdv A outer s H vs Q E hr h=>?_)),hm,F.kp,(F.binds λ_ _ _ _ _ _ us hl=>by obtain ⟨_,_,_,_,_,rfl⟩:=L2.lq5 hl;rfl)⟩
 ·obtain ⟨ru,rl,e,lnm,lrd,ps,g,day,EV,fs,fg,ys,zs,NM,RS,L,rfl,_⟩:=h;rfl
 ·obtain ⟨ru,rl,e,lnm,lrd,ps,g,day,EV,fs,fg,ys,zs,NM,RS,L,rfl,R,Pg,wb,hd,he,eV0,eok,hnm,tnm,nt,hrd,trd,rt,hL,nL,qE,q⟩:=h
  refine ⟨_,(jB4 (jS 5 nd (jW (qlp T) hr (jA3 (pv 0) (pv 1) (pv 2)))) (qb8 (qne ⟨rfl,rfl,rfl⟩) rfl (qa8 (pv 3)) (jG2 (jN 6 nd) (jN 7 nd)) (qad (qa4 (qff (qa1 ⟨rfl,rfl,rfl⟩) (pv 5) T.cl_Book (qhs T) (hr.mono (by decide)) .nil (jA2 (pv 6) (pv 7)))))) (qb8 (qne ⟨rfl,rfl,rfl⟩) rfl (qa8 (pv 4)) (jG4 (jN 6 nd) (jN 8 nd) (jN 9 nd) (jN 10 nd)) (qad (qa4 (qff (qa1 ⟨rfl,rfl,rfl⟩) (pv 5) T.cl_Book (qlk T) (hr.mono (by decide)) .nil (jA4 (pv 6) (pv 8) (pv 9) (pv 10)))))) (qak (pv 5))),?_⟩;refine qc8 λN hN=>?_
  refine ⟨_,rfl,_,rfl,_,rfl,ru,rl,e,ps,g,day,EV,rfl,R,Pg,wb,hd,he,eV0,λhne H' s'=>qE 4 (by unfold qjs;rw[if_neg hne]) (by decide) H' s',λhlen=>⟨fs,fg,eok hlen,λb le dm dr H1 B1 s1 g1 g2 g3 g4=>qan (hN _ _ ?_)⟩⟩;refine qes (σ':=[some (.ref ru),some (.int day),some (.ref e),some (.ref lnm),some (.ref lrd),some (.ref b),none,none,none,none,none]) rfl ?_;refine qc8 λN hN=>?_
  have k20:=nt.ln;have B1r:=B1.begunR hL s1 g1 g2 g3 g4 (R.rmS hL nL);refine ⟨_,rfl,lnm,rfl,⟨_,SqL.of (s1 _ _ hnm)⟩,qb2 (xs:=ys) (λj σ H'=>∃ (X:qcq) (v6 v7:Option V),Same H H'/\BkC C_Book C_Roll C_Rule (rmS H' L) b ⟨ru,rl,le,dm,dr,ps,g,day⟩ fs fg X/\XOk X/\X.map (λp=>(p.1,p.2.2.2.2))=NM.take j/\qb7 [] NM=qb7 (X.map (·.1)) (NM.drop j)/\(∀ p∈X,p.2.2.2.1=[])/\(∀ p∈X,H p.2.2.1.dy=none/\H p.2.2.1.dh=none)/\σ=[some (.ref ru),some (.int day),some (.ref e),some (.ref lnm),some (.ref lrd),some (.ref b),v6,v7,none,none,none]) ⟨[],_,_,s1,B1r,.nil,rfl,rfl,(by intro p h;cases h),(by intro p h;cases h),rfl⟩ (λj σ H' _ ⟨_,_,_,z,_⟩=>SqL.of (z _ _ hnm)) ?_ ?_⟩
  ·rintro j y σ H2 hyj ⟨X,v6,v7,s2,B2,xk,nm,no,r0,fr,rfl⟩
   obtain ⟨⟨x,ms⟩,hxn,a,l,rfl,ha,hl⟩:=tnm.get hyj;have hmem:=List.mem_of_getElem? hxn;have lX:X.length<=20:=by
    have:=congrArg List.length nm;rw[List.length_map,List.length_take] at this;omega
   rw[qxs hxn] at no;refine ⟨a,_,rfl,SqT.of (s2 _ _ ha),rfl,_,_,rfl,_,_,rfl,rfl,?_⟩;refine qes (σ':=[some (.ref ru),some (.int day),some (.ref e),some (.ref lnm),some (.ref lrd),some (.ref b),some (tS x),some (.ref l),none,none,none]) rfl ?_;obtain ⟨dx,hob⟩:=(B2.same qc3).ob;refine ⟨_,rfl,b,dx,_,rfl,hob,bno,_,rfl,_,rfl,qz4 rfl B2 (hL.same s2) xk (nt.nx _ hmem) (by omega) (s2 _ _ hl) (nt.mx _ hmem).2 (nt.mx _ hmem).1 (λz H' s'=>qE 1 (qjn hlen (no.trans (if_pos z)) (by decide)) (by decide) H' (s2.trans s')) (λz1 z2 H' s'=>qE 2 (qjn hlen (no.trans ((if_neg z1).trans (if_neg z2))) (by decide)) (by decide) H' (s2.trans s')) λz1 z2 ro c H3 b3 c1 c2 B3 xk3=>?_⟩;refine ⟨X ++ [(x,(ro,c,[],ms))],_,_,λz o e=>b3 _ _ (s2 _ _ e) (qal e g3) (qal e g4),B3,xk3,?_,?_,λp hp=>?_,λp hp=>?_,rfl⟩
   ·rw[List.map_append,nm,List.take_add_one,hxn];rfl
   ·rw[List.map_append];exact no.trans ((if_neg z1).trans (if_pos z2))
   ·rcases List.mem_append.mp hp with z|z
    ·exact r0 p z
    ·rw[List.mem_singleton.mp z]
   ·rcases List.mem_append.mp hp with z|z
    ·exact fr p z
    ·rw[List.mem_singleton.mp z];exact ⟨s2.free c1,s2.free c2⟩
  rintro σ H2 ⟨X,v6,v7,s2,B2,xk,nm,no,r0,fr,rfl⟩;rw[tnm.length,List.drop_length] at no;rw[tnm.length,List.take_length] at nm;have no:qb7 [] NM=0:=no;refine hN _ _ ?_;refine qc8 λN hN=>?_
  refine ⟨_,rfl,lrd,rfl,⟨_,SqL.of (s2 _ _ hrd)⟩,qb2 (xs:=zs) (λj σ H'=>∃ (X:qcq) (v6 v8 v9 v10:Option V),Same H H'/\BkC C_Book C_Roll C_Rule (rmS H' L) b ⟨ru,rl,le,dm,dr,ps,g,day⟩ fs fg X/\XOk X/\X.map (λp=>(p.1,p.2.2.2.2))=NM/\qds (NM.map (·.1)) RS=qds (NM.map (·.1)) (RS.drop j)/\(∀ p∈X,p.2.2.2.1=qin (RS.take j) p.1)/\(∀ p∈X,H p.2.2.1.dy=none/\H p.2.2.1.dh=none)/\σ=[some (.ref ru),some (.int day),some (.ref e),some (.ref lnm),some (.ref lrd),some (.ref b),v6,v7,v8,v9,v10]) ⟨X,_,_,_,_,s2,B2,xk,nm,rfl,λp hp=>by rw[r0 p hp];rfl,fr,rfl⟩ (λj σ H' _ ⟨_,_,_,_,_,z,_⟩=>SqL.of (z _ _ hrd)) ?_ ?_⟩
  ·clear B2 xk nm r0 fr s2
   rintro j y σ H3 hyj ⟨X,v6,v8,v9,v10,s3,B3,xk,nm,ro,rr,fr,rfl⟩;obtain ⟨⟨x,t,va,m⟩,hrj,a,rfl,ha⟩:=trd.get hyj;have hmem:=List.mem_of_getElem? hrj;obtain ⟨lx,tb,hlt⟩:=rt.rx _ hmem;have r40:=rt.ln;rw[qxs hrj] at ro;have nmf:X.map (·.1)=NM.map (·.1):=by
    have:=congrArg (List.map Prod.fst) nm;rw[List.map_map] at this;exact this
   refine ⟨a,_,rfl,SqT.of (s3 _ _ ha),rfl,_,_,rfl,_,_,rfl,_,_,rfl,_,_,rfl,rfl,?_⟩;refine qes (σ':=[some (.ref ru),some (.int day),some (.ref e),some (.ref lnm),some (.ref lrd),some (.ref b),some (tS x),v7,some (.int t),some (.int va),some (.int m)]) rfl ?_;obtain ⟨dx,hob⟩:=(B3.same qc3).ob;refine ⟨_,rfl,b,dx,_,rfl,hob,bno,_,rfl,_,rfl,_,rfl,_,rfl,putY (r:=(t,va,m)) rfl B3 (hL.same s3) xk lx (λy e' he'=>?_) tb hlt (λz H' s'=>qE 1 (qe7 hlen no (ro.trans (if_neg (by rw[<- nmf];exact z)))) (by decide) H' (s3.trans s')) (λz1 z2 H' s'=>qE 3 (qe7 hlen no (ro.trans ((if_pos (by rw[<- nmf];exact z1)).trans (if_pos z2)))) (by decide) H' (s3.trans s')) λe' hsx he' h1 H4 b4 B4=>?_⟩
   ·rw[show e'.2.2.1=qin (RS.take j) y from rr (y,e') he']
    have:=qf7 (RS.take j) y;rw[List.length_take] at this;omega
   have fe:=fr (x,e') he';have hin:x∈NM.map (·.1):=by rw[<- nmf];exact List.mem_map.mpr ⟨_,he',rfl⟩
   refine ⟨_,_,_,_,_,λz o e=>b4 _ _ (s3 _ _ e) (qal e fe.1) (qal e fe.2),B4,xk.add x _,?_,ro.trans ((if_pos ⟨hsx,hin⟩).trans (if_neg (by show ¬ m<1;have h1:1<=m:=h1;omega))),λp hp=>?_,λp hp=>?_,rfl⟩
   ·rw[List.map_map,<- nm]
    exact List.map_congr_left λp _=>by show ((qlg x (t,va,m) p).1,(qlg x (t,va,m) p).2.2.2.2)=_;rw[qih,qvm]
   ·obtain ⟨p0,h0,rfl⟩:=List.mem_map.mp hp
    rw[qih,List.take_add_one,hrj]
    show _=qin (RS.take j ++ [(x,t,va,m)]) p0.1
    rw[qls];unfold qlg
    by_cases h:p0.1=x
    ·rw[if_pos h,if_pos h]
     show p0.2.2.2.1 ++ [_]=_
     rw[rr p0 h0]
    ·rw[if_neg h,if_neg h];exact rr p0 h0
   ·obtain ⟨p0,h0,rfl⟩:=List.mem_map.mp hp
    rw[qsk];exact fr p0 h0
  ·rintro σ H3 ⟨X,v6,v8,v9,v10,s3,B3,xk,nm,ro,rr,fr,rfl⟩
   rw[trd.length,List.drop_length] at ro;rw[trd.length,List.take_length] at rr;exact hN _ _ ⟨_,rfl,q (qe7 hlen no ro) b le dm dr X H3 B3 xk nm rr fr s3 g1 g2 g3 g4⟩
theorem qxt {ps:List (Int×Int)} {EV:List V} {NM:List NmR} {RS:List (List Nat×Rd3)}:qjs ps EV NM RS=0\/qjs ps EV NM RS=1\/qjs ps EV NM RS=2\/qjs ps EV NM RS=3\/qjs ps EV NM RS=4:=by
 have n:∀ (NM:List NmR) seen,qb7 seen NM=0\/qb7 seen NM=1\/qb7 seen NM=2:=by
  intro NM
  induction NM with
  | nil=>intro _;exact .inl rfl
  | cons a t ih =>
   intro seen;unfold qb7
   split
   ·exact .inr (.inl rfl)
   ·split
    ·exact ih _
    ·exact .inr (.inr rfl)
 have r:∀ (RS:List (List Nat×Rd3)) ns,qds ns RS=0\/qds ns RS=1\/qds ns RS=3:=by
  intro RS
  induction RS with
  | nil=>intro _;exact .inl rfl
  | cons a t ih =>
   intro ns;unfold qds
   split
   ·split
    ·exact .inr (.inr rfl)
    ·exact ih _
   ·exact .inr (.inl rfl)
 unfold qjs
 split
 ·split
  ·rcases r RS (NM.map (·.1)) with h|h|h<;>omega
  ·rcases n NM [] with h|h|h<;>omega
 ·omega
def qz5 (c:Nat):Str:=if c=0 then Str.ofString "" else if c=1 then Str.ofString "name" else if c=2 then Str.ofString "mark" else if c=3 then Str.ofString "number" else Str.ofString "rule"
inductive qe8 (R:Addr) (vs:List V) (H:Hp) (Q:VK) (E_:XK):Prop
 | mk:∀ (ru rl e lnm lrd:Addr) (ps:List (Int×Int)) (g:Option Int) (day:Int) (EV:List V) (fs:List Int) (fg:Option Int) (ys zs:List V) (NM:List NmR) (RS:List (List Nat×Rd3)),vs=[.ref ru,.int day,.ref e,.ref lnm,.ref lrd]->RuleAt R H ru rl ps g->Pr ps g->(∀ p∈ps,p.2<=10 ^ 35)->Bd day->H e=some (.lst EV)->(∀ v∈EV,Ed v)->(EV.length=ps.length+1->qA3 ps g day EV fs fg)->H lnm=some (.lst ys)->NmsAt H ys NM->NmT NM->H lrd=some (.lst zs)->RdNs H zs RS->RdT RS->(∀ H',Same H H'->Q (.str (qz5 (qjs ps EV NM RS))) H')->qe8 R vs H Q E_
include T in
theorem qbg:qba P w K mg base 9 "_law_refused" ["_law_made", "_law_day", "_law_edges_here", "_law_names", "_law_readings_here"] (qe8 C_Rule):=by
 obtain ⟨f,fd,F,hm⟩:=T.f__law_refused;have nd:=sc__law_refused.nd;refine F.def_ hm (F.ok sc__law_refused (λvs H Q E h=>?_) (λcdv A outer s H vs Q E hr h=>?_)) (F.binds λ_ _ _ _ _ _ us hl=>by obtain ⟨_,_,_,_,_,rfl⟩:=L2.lq5 hl;rfl)
 ·obtain ⟨ru,rl,e,lnm,lrd,ps,g,day,EV,fs,fg,ys,zs,NM,RS,rfl,_⟩:=h;rfl
 ·obtain ⟨ru,rl,e,lnm,lrd,ps,g,day,EV,fs,fg,ys,zs,NM,RS,rfl,R,Pg,wb,hd,he,eV0,eok,hnm,tnm,nt,hrd,trd,rt,q⟩:=h
  refine ⟨_,(jB2 (qw2 (j:=5) ⟨rfl,rfl,rfl⟩ nd rfl rfl rfl rfl T.mg_BookError T.kx_BookError.kt (λ_ _=>(qad (qa4 (jW (qlt T) hr (jA5 (pv 0) (pv 1) (pv 2) (pv 3) (pv 4)))))) (λ_ _=>(jB2 (jS 6 nd (qay (jA4 (qai (qei (K:=K) rfl) rfl T.b_isinstance qaz (jA2 (pv 5) (qcw (v:=.ref C_NoRule) rfl T.mg_NoRule rfl))) (qai (qei (K:=K) rfl) rfl T.b_isinstance qaz (jA2 (pv 5) (qcw (v:=.ref C_NoName) rfl T.mg_NoName rfl))) (qai (qei (K:=K) rfl) rfl T.b_isinstance qaz (jA2 (pv 5) (qcw (v:=.ref C_NoNumber) rfl T.mg_NoNumber rfl))) (qai (qei (K:=K) rfl) rfl T.b_isinstance qaz (jA2 (pv 5) (qcw (v:=.ref C_NoMark) rfl T.mg_NoMark rfl)))))) (qa7 (jC qec (qai (qrs (K:=K) rfl rfl) rfl T.b_sum qqn (jA1 (qzk (vars:=[ "_law_mark_here" ]) (frees:=[]) (fv:=[]) rfl (jL0 rfl) trivial (qtx (K:=K) rfl (pv 6)) (qco (by decide)) (λ_ _ _ _=>(jM 0 [ "_law_mark_here" ])) (λ_ _ _ _=>qa5) (λ_ _ _ _=>(qbk qjx rfl T.b_int qm9 (jA1 (pv 0))))))) qaa) (qad (qak (ql6 (show IxR _ (qyg K) from qiu) (qay (jA4 qbb qbb qbb qbb)) (qzh (K:=K) rfl PySem.F.plainAttrs_list PySem.F.slot_list_index PySem.F.type_list_index qrt (pv 6) (jA1 qet)) (λ_ _=>rfl)))) qap)))) (qak qbb)),?_⟩;refine ⟨_,rfl,_,rfl,_,rfl,_,rfl,_,rfl,ru,rl,e,lnm,lrd,ps,g,day,EV,fs,fg,ys,zs,NM,RS,[],rfl,R,Pg,wb,hd,he,eV0,eok,hnm,tnm,nt,hrd,trd,rt,(λ_ z=>by cases z),(by simp),λc hc h0 H1 s1=>?_,λh0 b le dm dr X H1 _ _ _ _ _ s1 _ _ _ _=>?_⟩
  ·rcases qxt (ps:=ps) (EV:=EV) (NM:=NM) (RS:=RS) with z|z|z|z|z
   ·exact absurd (hc.symm.trans z) h0
   ·obtain rfl:=hc.symm.trans z
    refine ⟨⟨C_NoName,rfl,T.kx_NoName.kt,T.hit_NoName_BookError⟩,λex H2 n2=>?_⟩;refine ⟨_,rfl,ex,C_NoName,none,.ref C_NoRule,false,rfl,n2.at_,T.kx_NoName,(λ_ z=>by cases z),T.is_NoName_NoRule,?_⟩;refine ⟨_,rfl,ex,C_NoName,none,.ref C_NoName,true,rfl,n2.at_,T.kx_NoName,(λ_ z=>by cases z),T.is_NoName_NoName,?_⟩;refine ⟨_,rfl,ex,C_NoName,none,.ref C_NoNumber,false,rfl,n2.at_,T.kx_NoName,(λ_ z=>by cases z),T.is_NoName_NoNumber,?_⟩;refine ⟨_,rfl,ex,C_NoName,none,.ref C_NoMark,false,rfl,n2.at_,T.kx_NoName,(λ_ z=>by cases z),T.is_NoName_NoMark,?_⟩;refine ⟨qbf (by simp),λl3 H3 n3=>qan ?_⟩;refine ⟨_,rfl,l3,rfl,⟨_,SqL.of n3.at_⟩,?_⟩;refine qf4 (xs:=[false,true,false,false].map V.bl) (λi ys H'=>Same H3 H'/\ys=([false,true,false,false].take i).map λb=>V.int (if b then 1 else 0)) (qbf (by simp)) ⟨Same.refl _,rfl⟩ (λi ys H' h'=>⟨SqL.of (h'.1 _ _ n3.at_),by rw[h'.2,List.length_map,List.length_take];omega⟩) (λys H' h'=>⟨_,h'.1 _ _ (n3.same _ _ n2.at_)⟩) ?_ ?_
    ·rintro i x ys H4 hx ⟨s4,rfl⟩
     rw[List.getElem?_map] at hx;obtain ⟨b,hb,rfl⟩:=Option.map_eq_some_iff.mp hx;refine qan (qhy (qck ⟨_,rfl,.inr ⟨b,rfl,s4,?_⟩⟩));rw[List.take_add_one,hb,List.map_append];rfl
    ·rintro ys H4 p ⟨s4,rfl⟩ hn
     have n5:=qax (o:=.lst (([false,true,false,false].take ([false,true,false,false].map V.bl).length).map λb=>V.int (if b then 1 else 0))) hn;refine ⟨p,[0,1,0,0],_,rfl,SqL.of n5.at_,n5.same _ _ (s4 _ _ (n3.same _ _ n2.at_)),?_⟩
     generalize upd H4 p _=H5 at n5 ⊢
     refine ⟨rfl,true,rfl,qck ⟨qbf (by simp),λl6 H6 n6=>?_⟩⟩;have s36:=s4.trans (n5.same.trans n6.same);refine ⟨_,rfl,.inl ⟨rfl,_,SqL.of (s36 _ _ n3.at_)⟩,l3,[false,true,false,false],1,rfl,rfl,s36 _ _ n3.at_,rfl,by decide,by decide,l6,_,_,_,rfl,rfl,SqL.of n6.at_,rfl,?_⟩;have q':=q H6 (s1.trans (n2.same.trans (n3.same.trans s36)));rw[z] at q';exact q'
   ·obtain rfl:=hc.symm.trans z
    refine ⟨⟨C_NoMark,rfl,T.kx_NoMark.kt,T.hit_NoMark_BookError⟩,λex H2 n2=>?_⟩;refine ⟨_,rfl,ex,C_NoMark,none,.ref C_NoRule,false,rfl,n2.at_,T.kx_NoMark,(λ_ z=>by cases z),T.is_NoMark_NoRule,?_⟩;refine ⟨_,rfl,ex,C_NoMark,none,.ref C_NoName,false,rfl,n2.at_,T.kx_NoMark,(λ_ z=>by cases z),T.is_NoMark_NoName,?_⟩;refine ⟨_,rfl,ex,C_NoMark,none,.ref C_NoNumber,false,rfl,n2.at_,T.kx_NoMark,(λ_ z=>by cases z),T.is_NoMark_NoNumber,?_⟩;refine ⟨_,rfl,ex,C_NoMark,none,.ref C_NoMark,true,rfl,n2.at_,T.kx_NoMark,(λ_ z=>by cases z),T.is_NoMark_NoMark,?_⟩;refine ⟨qbf (by simp),λl3 H3 n3=>qan ?_⟩;refine ⟨_,rfl,l3,rfl,⟨_,SqL.of n3.at_⟩,?_⟩;refine qf4 (xs:=[false,false,false,true].map V.bl) (λi ys H'=>Same H3 H'/\ys=([false,false,false,true].take i).map λb=>V.int (if b then 1 else 0)) (qbf (by simp)) ⟨Same.refl _,rfl⟩ (λi ys H' h'=>⟨SqL.of (h'.1 _ _ n3.at_),by rw[h'.2,List.length_map,List.length_take];omega⟩) (λys H' h'=>⟨_,h'.1 _ _ (n3.same _ _ n2.at_)⟩) ?_ ?_
    ·rintro i x ys H4 hx ⟨s4,rfl⟩
     rw[List.getElem?_map] at hx;obtain ⟨b,hb,rfl⟩:=Option.map_eq_some_iff.mp hx;refine qan (qhy (qck ⟨_,rfl,.inr ⟨b,rfl,s4,?_⟩⟩));rw[List.take_add_one,hb,List.map_append];rfl
    ·rintro ys H4 p ⟨s4,rfl⟩ hn
     have n5:=qax (o:=.lst (([false,false,false,true].take ([false,false,false,true].map V.bl).length).map λb=>V.int (if b then 1 else 0))) hn;refine ⟨p,[0,0,0,1],_,rfl,SqL.of n5.at_,n5.same _ _ (s4 _ _ (n3.same _ _ n2.at_)),?_⟩
     generalize upd H4 p _=H5 at n5 ⊢
     refine ⟨rfl,true,rfl,qck ⟨qbf (by simp),λl6 H6 n6=>?_⟩⟩;have s36:=s4.trans (n5.same.trans n6.same);refine ⟨_,rfl,.inl ⟨rfl,_,SqL.of (s36 _ _ n3.at_)⟩,l3,[false,false,false,true],3,rfl,rfl,s36 _ _ n3.at_,rfl,by decide,by decide,l6,_,_,_,rfl,rfl,SqL.of n6.at_,rfl,?_⟩;have q':=q H6 (s1.trans (n2.same.trans (n3.same.trans s36)));rw[z] at q';exact q'
   ·obtain rfl:=hc.symm.trans z
    refine ⟨⟨C_NoNumber,rfl,T.kx_NoNumber.kt,T.hit_NoNumber_BookError⟩,λex H2 n2=>?_⟩;refine ⟨_,rfl,ex,C_NoNumber,none,.ref C_NoRule,false,rfl,n2.at_,T.kx_NoNumber,(λ_ z=>by cases z),T.is_NoNumber_NoRule,?_⟩;refine ⟨_,rfl,ex,C_NoNumber,none,.ref C_NoName,false,rfl,n2.at_,T.kx_NoNumber,(λ_ z=>by cases z),T.is_NoNumber_NoName,?_⟩;refine ⟨_,rfl,ex,C_NoNumber,none,.ref C_NoNumber,true,rfl,n2.at_,T.kx_NoNumber,(λ_ z=>by cases z),T.is_NoNumber_NoNumber,?_⟩;refine ⟨_,rfl,ex,C_NoNumber,none,.ref C_NoMark,false,rfl,n2.at_,T.kx_NoNumber,(λ_ z=>by cases z),T.is_NoNumber_NoMark,?_⟩;refine ⟨qbf (by simp),λl3 H3 n3=>qan ?_⟩;refine ⟨_,rfl,l3,rfl,⟨_,SqL.of n3.at_⟩,?_⟩;refine qf4 (xs:=[false,false,true,false].map V.bl) (λi ys H'=>Same H3 H'/\ys=([false,false,true,false].take i).map λb=>V.int (if b then 1 else 0)) (qbf (by simp)) ⟨Same.refl _,rfl⟩ (λi ys H' h'=>⟨SqL.of (h'.1 _ _ n3.at_),by rw[h'.2,List.length_map,List.length_take];omega⟩) (λys H' h'=>⟨_,h'.1 _ _ (n3.same _ _ n2.at_)⟩) ?_ ?_
    ·rintro i x ys H4 hx ⟨s4,rfl⟩
     rw[List.getElem?_map] at hx;obtain ⟨b,hb,rfl⟩:=Option.map_eq_some_iff.mp hx;refine qan (qhy (qck ⟨_,rfl,.inr ⟨b,rfl,s4,?_⟩⟩));rw[List.take_add_one,hb,List.map_append];rfl
    ·rintro ys H4 p ⟨s4,rfl⟩ hn
     have n5:=qax (o:=.lst (([false,false,true,false].take ([false,false,true,false].map V.bl).length).map λb=>V.int (if b then 1 else 0))) hn;refine ⟨p,[0,0,1,0],_,rfl,SqL.of n5.at_,n5.same _ _ (s4 _ _ (n3.same _ _ n2.at_)),?_⟩
     generalize upd H4 p _=H5 at n5 ⊢
     refine ⟨rfl,true,rfl,qck ⟨qbf (by simp),λl6 H6 n6=>?_⟩⟩;have s36:=s4.trans (n5.same.trans n6.same);refine ⟨_,rfl,.inl ⟨rfl,_,SqL.of (s36 _ _ n3.at_)⟩,l3,[false,false,true,false],2,rfl,rfl,s36 _ _ n3.at_,rfl,by decide,by decide,l6,_,_,_,rfl,rfl,SqL.of n6.at_,rfl,?_⟩;have q':=q H6 (s1.trans (n2.same.trans (n3.same.trans s36)));rw[z] at q';exact q'
   ·obtain rfl:=hc.symm.trans z
    refine ⟨⟨C_NoRule,rfl,T.kx_NoRule.kt,T.hit_NoRule_BookError⟩,λex H2 n2=>?_⟩;refine ⟨_,rfl,ex,C_NoRule,none,.ref C_NoRule,true,rfl,n2.at_,T.kx_NoRule,(λ_ z=>by cases z),T.is_NoRule_NoRule,?_⟩;refine ⟨_,rfl,ex,C_NoRule,none,.ref C_NoName,false,rfl,n2.at_,T.kx_NoRule,(λ_ z=>by cases z),T.is_NoRule_NoName,?_⟩;refine ⟨_,rfl,ex,C_NoRule,none,.ref C_NoNumber,false,rfl,n2.at_,T.kx_NoRule,(λ_ z=>by cases z),T.is_NoRule_NoNumber,?_⟩;refine ⟨_,rfl,ex,C_NoRule,none,.ref C_NoMark,false,rfl,n2.at_,T.kx_NoRule,(λ_ z=>by cases z),T.is_NoRule_NoMark,?_⟩;refine ⟨qbf (by simp),λl3 H3 n3=>qan ?_⟩;refine ⟨_,rfl,l3,rfl,⟨_,SqL.of n3.at_⟩,?_⟩;refine qf4 (xs:=[true,false,false,false].map V.bl) (λi ys H'=>Same H3 H'/\ys=([true,false,false,false].take i).map λb=>V.int (if b then 1 else 0)) (qbf (by simp)) ⟨Same.refl _,rfl⟩ (λi ys H' h'=>⟨SqL.of (h'.1 _ _ n3.at_),by rw[h'.2,List.length_map,List.length_take];omega⟩) (λys H' h'=>⟨_,h'.1 _ _ (n3.same _ _ n2.at_)⟩) ?_ ?_
    ·rintro i x ys H4 hx ⟨s4,rfl⟩
     rw[List.getElem?_map] at hx;obtain ⟨b,hb,rfl⟩:=Option.map_eq_some_iff.mp hx;refine qan (qhy (qck ⟨_,rfl,.inr ⟨b,rfl,s4,?_⟩⟩));rw[List.take_add_one,hb,List.map_append];rfl
    ·rintro ys H4 p ⟨s4,rfl⟩ hn
     have n5:=qax (o:=.lst (([true,false,false,false].take ([true,false,false,false].map V.bl).length).map λb=>V.int (if b then 1 else 0))) hn;refine ⟨p,[1,0,0,0],_,rfl,SqL.of n5.at_,n5.same _ _ (s4 _ _ (n3.same _ _ n2.at_)),?_⟩
     generalize upd H4 p _=H5 at n5 ⊢
     refine ⟨rfl,true,rfl,qck ⟨qbf (by simp),λl6 H6 n6=>?_⟩⟩;have s36:=s4.trans (n5.same.trans n6.same);refine ⟨_,rfl,.inl ⟨rfl,_,SqL.of (s36 _ _ n3.at_)⟩,l3,[true,false,false,false],0,rfl,rfl,s36 _ _ n3.at_,rfl,by decide,by decide,l6,_,_,_,rfl,rfl,SqL.of n6.at_,rfl,?_⟩;have q':=q H6 (s1.trans (n2.same.trans (n3.same.trans s36)));rw[z] at q';exact q'
  ·have:=q H1 s1
   rw[h0] at this;exact this
theorem qz6 {ps:List (Int×Int)} (G:Good ps) {i j:Nat} {p q:Int×Int} (hij:i<=j) (hp:ps[i]?=some p) (hq:ps[j]?=some q):p.2<=q.2:=by
 obtain ⟨k,rfl⟩:=Nat.exists_eq_add_of_le hij;have:=(G.each _ q hq).2;exact Int.le_of_dvd (by omega) (qg3 G k i p q hp hq).2
theorem qCf {ps:List (Int×Int)} (G:Good ps) {es:List Int} (hn:es.length=ps.length) (t:Int):(wl (ps.map (·.2)) es t).Pairwise (· <= ·):=by
 have p1:(ps.map (·.2)).Pairwise (· <= ·):=by
  rw[List.pairwise_map,List.pairwise_iff_getElem];intro i j hi hj hij;exact qz6 G (Nat.le_of_lt hij) (List.getElem?_eq_getElem hi) (List.getElem?_eq_getElem hj)
 unfold wl;refine p1.sublist ((List.filter_sublist.map _).trans ?_);rw[List.map_fst_zip (by rw[List.length_map];omega)];exact List.Sublist.refl _
theorem qz7 {ps:List (Int×Int)} (G:Good ps) {es:List Int} (hn:es.length=ps.length) {t m w':Int} (hm:m∈wl (ps.map (·.2)) es t) (hM:∀ y∈wl (ps.map (·.2)) es t,y<=m) (hw:(wl (ps.map (·.2)) es t)[(wl (ps.map (·.2)) es t).length-1]?=some w'):m=w':=by
 have pw:=List.pairwise_iff_getElem.mp (qCf G hn t);obtain ⟨i,hi,rfl⟩:=List.getElem_of_mem hm;obtain ⟨hl,rfl⟩:=List.getElem?_eq_some_iff.mp hw;refine Int.le_antisymm ?_ (hM _ (List.getElem_mem hl))
 by_cases z:i=(wl (ps.map (·.2)) es t).length-1
 ·subst z;exact Int.le_refl _
 ·exact pw i _ hi hl (by omega)
inductive qio (vs:List V) (H:Hp) (Q:VK) (E_:XK):Prop
 | mk:∀ (e:Addr) (EV:List V) (es:List Int) (ge:Option Int) (l:Addr) (xs:List V) (ps:List (Int×Int)) (t:Int),vs=[.ref l,.ref e,.int t]->H e=some (.lst EV)->EdS EV es ge->es.length=ps.length->H l=some (.lst xs)->Pairs H xs ps->qrx ps->1<=ps.length->ps.length<=5->Good ps->qje t->(∀ v o H',CellOf (ps.map (·.2)) es ge t o->qvc H' v o->Same H H'->Q v H')->qio vs H Q E_
include T in
theorem qmv:qba P w K mg base 1 "_law_cell" ["_law_steps", "_law_edges_here", "_law_time_here"] qio:=by
 obtain ⟨f,fd,F,hm⟩:=T.f__law_cell;have nd:=sc__law_cell.nd;refine F.def_ hm (F.ok sc__law_cell (λvs H Q E h=>?_) (λcdv A outer s H vs Q E hr h=>?_)) (F.binds λ_ _ _ _ _ _ us hl=>by obtain ⟨_,_,_,rfl⟩:=L2.lq3 hl;rfl)
 ·obtain ⟨e,EV,es,ge,l,xs,ps,t,rfl,_⟩:=h;rfl
 ·obtain ⟨e,EV,es,ge,l,xs,ps,t,rfl,he,E,hn,hl,hp,S,h1,h5,G,tb,q⟩:=h
  rw[E.eq] at he;have hlen:=hp.length;obtain ⟨e0,h0⟩:∃ e0,es[0]?=some e0:=⟨_,List.getElem?_eq_getElem (by omega)⟩;have hi0:atI (es.map V.int ++ [gv ge]) 0=some (.int e0):=qdc (j:=0) (by rw[List.getElem?_append_left (by simp;omega),List.getElem?_map,h0];rfl);have hlast:(es.map V.int ++ [gv ge])[(es.map V.int ++ [gv ge]).length-1]?=some (gv ge):=by simp
  obtain ⟨J,eJ⟩:∃ J:St->Hp->Prop,J=λσ H'=>H'=H/\¬ qel ge t/\σ=[some (.ref l),some (.ref e),some (.int t),none]:=⟨_,rfl⟩
  refine ⟨_,(qaj (qa7 (jC qyf (pv 2) (jI (pv 1) qaa)) (qad (qak (qaq (jA2 (pv 2) qaa)))) qap) (qwm J (qa7 (PW.pt (qpw (jC qgc (jI (pv 1) (qd5 qce qaa)) qbj) (ql1 (jC qhm (pv 2) (jI (pv 1) (qd5 qce qaa)))))) (qad (qak qbj)) qap) (jB2 (jS 3 nd (qai (qj9 rfl) rfl T.b_max qh0 (jA1 (qdf (vars:=[ "_law_k" ]) (frees:=[ "_law_time_here", "_law_edges_here", "_law_steps" ]) (fv:=[2,1,0]) rfl (jL3 rfl) ⟨⟨rfl,.inl rfl,rfl,.inl rfl⟩,⟨⟨rfl,.inl rfl,rfl,.inl rfl⟩,⟨⟨rfl,.inl rfl,rfl,.inl rfl⟩,trivial⟩⟩⟩ (qcc rfl T.b_range (jA1 (qai qa0 rfl T.b_len qch (jA1 (pv 0))))) (qco (by decide)) (λ_ _ _ _=>(jM 0 [ "_law_k", "_law_time_here", "_law_edges_here", "_law_steps" ])) (λ_ _ _ _=>(qi3 (jC qhm (pv 1) (ql6 (show IxR _ (qyg K) from qiu) (pv 2) (pv 0) (λ_ _=>rfl))))) (λ_ _ _ _=>(ql6 (show IxR _ (qAu K) from qqe) (ql6 (show IxR _ (qyg K) from qiu) (pv 3) (pv 0) (λ_ _=>rfl)) qaa (λ_ _=>rfl))))))) (qak (qaq (jA2 (qae qbl (qae qf0 (pv 2) (pv 3)) (pv 3)) (pv 3))))))),?_⟩
  walk_at "r"
  refine qew (λz=>?_) λz=>?_
  ·have z':e0<=t:=by simpa using z
   walk_at "r";intro p H1 n1
   exact q (.ref p) _ H1 (CellOf.a h0 z') ⟨p,rfl,n1.at_⟩ n1.same
  have z':t<e0:=by simpa using z
  refine And.intro ?_ ?_
  ·cases ge with
   | none =>
    walk_at "r"
    show J _ _
    rw[eJ];exact ⟨rfl,fun ⟨z,e,_⟩=>(by cases e),rfl⟩
   | some y =>
    walk_at "r"
    refine qew (λz=>?_) λz=>?_
    ·have z2:t<y:=by simpa using z
     exact q .non none H (CellOf.b h0 z' ⟨y,rfl,z2⟩) rfl (Same.refl _)
    ·have z2:¬ t<y:=by simpa using z
     show J _ _
     rw[eJ];exact ⟨rfl,fun ⟨z,e,h'⟩=>(by cases e;exact z2 h'),rfl⟩
  intro σ' H' j;rw[eJ] at j;obtain ⟨rfl,hg,rfl⟩:=j
  walk_at "r"
  refine qek (n:=xs.length) (λi zs H2=>H2=H'/\zs=((((((ps.map (·.2)).zip es).take i).filter λx=>decide (t<x.2)).map (·.1)).map V.int)) (Nat.le_of_lt (qam (by omega))) ⟨rfl,rfl⟩ (λi zs H2 h2=>by rw[h2.2,List.length_map];exact qvb _ _ _ _) ?_ ?_
  ·rintro i zs H2 hi ⟨rfl,rfl⟩
   rw[Int.zero_add];have hei:es[i]?=some es[i]:=List.getElem?_eq_getElem (by omega);obtain ⟨pi,hpi⟩:∃ pi,ps[i]?=some pi:=⟨_,List.getElem?_eq_getElem (by omega)⟩;obtain ⟨x,hxi,a,rfl,ha⟩:=hp.get' hpi;have hwi:(ps.map (·.2))[i]?=some pi.2:=by rw[List.getElem?_map,hpi];rfl
   have hx1:(es.map V.int ++ [gv ge])[i]?=some (V.int es[i]):=by rw[List.getElem?_append_left (by simp;omega),List.getElem?_map,hei];rfl
   walk_at "r"
   refine qew (λz=>?_) λz=>?_
   ·have z2:t<es[i]:=by simpa using z
    walk_at "r"
    rw[qCp hwi hei z2,List.map_append];rfl
   ·have z2:¬ t<es[i]:=by simpa using z
    exact ⟨rfl,by rw[qCq hwi hei z2]⟩
  ·rintro zs H2 p H3 ⟨rfl,rfl⟩ n3
   rw[qva (by rw[List.length_zip,List.length_map];omega)] at n3;have hne:1<=(wl (ps.map (·.2)) es t).length:=qzp (w0:=(ps[0]'(by omega)).2) (by rw[List.getElem?_map,List.getElem?_eq_getElem (by omega:0<ps.length)];rfl) h0 z';obtain ⟨w',hw'⟩:∃ w',(wl (ps.map (·.2)) es t)[(wl (ps.map (·.2)) es t).length-1]?=some w':=⟨_,List.getElem?_eq_getElem (by omega)⟩;have hla:((wl (ps.map (·.2)) es t).map V.int)[((wl (ps.map (·.2)) es t).map V.int).length-1]?=some (V.int w'):=by rw[List.length_map,List.getElem?_map,hw'];rfl
   have hwb:1<=w'/\w'<10 ^ 45:=by
    obtain ⟨pp,hpp,rfl⟩:=List.mem_map.mp (qr1 (List.mem_of_getElem? hw'));obtain ⟨i,hi,ei⟩:=List.getElem_of_mem hpp;exact (S i pp (by rw[<- ei];exact List.getElem?_eq_getElem hi)).2.2
   refine ⟨p,wl (ps.map Prod.snd) es t,rfl,SqL.of n3.at_,Nat.lt_of_lt_of_le Nat.zero_lt_one hne,λm hm hM=>qan ?_⟩;have em:=qz7 G hn hm hM hw';subst em;have hb:=qt0 hwb.1 (by decide:(0:Int)<=10 ^ 46) tb.1 tb.2;refine ⟨_,rfl,_,rfl,_,_,rfl,rfl,⟨by have:=tb.1;omega,by have:=tb.2;omega⟩,_,rfl,_,_,rfl,rfl,⟨⟨by omega,by omega⟩,by omega,by omega⟩,_,rfl,qbf (by simp),λp4 H4 n4=>?_⟩;exact q (.ref p4) _ H4 (CellOf.c h0 z' hg hw') ⟨p4,rfl,n4.at_⟩ (n3.same.trans n4.same)
theorem qlu {kvs:KV} {ks:List (List Int)} (d:DKeys kvs ks) {i:Nat} {k:List Key} {v:V} (h:kvs[i]?=some (k,v)):∃ key,ks[i]?=some key/\k=kI key/\key.length=2/\qbu kvs (kI key)=some v:=by
 have this:(kvs.map (·.1))[i]?=(ks.map kI)[i]?:=congrArg (λz=>z[i]?) d.eq;have e1:(kvs.map (·.1))[i]?=some k:=by rw[List.getElem?_map,h];rfl
 rw[e1,List.getElem?_map] at this;obtain ⟨key,h1,h2⟩:=Option.map_eq_some_iff.mp this.symm;have nd:(kvs.map (·.1)).Nodup:=by rw[d.eq];exact qt6 d.nd
 exact ⟨key,h1,h2.symm,d.ne key (List.mem_of_getElem? h1),by rw[h2];exact qsa nd h⟩
theorem quf {s:Abs} {ks:List (List Int)}:∀ k∈ks.map (qo7 s),k≠[]:=λk hk=>by obtain ⟨j,hj,rfl⟩:=List.mem_map.mp hk;unfold qo7;simp
theorem qug {s:Abs} {ks:List (List Int)}:∀ k∈ks.map (qo8 s),k≠[]:=λk hk=>by obtain ⟨j,hj,rfl⟩:=List.mem_map.mp hk;unfold qo8 i4;simp
theorem qsn {kvs:KV} {ks:List (List Int)} (h:DKeys kvs ks):kvs.length=ks.length:=by
 have:=congrArg List.length h.eq
 rwa [List.length_map,List.length_map] at this
theorem qz8 {s:Abs} {ks:List (List Int)} {kvs:KV} (dk:DKeys kvs ks) (h:∀ k,qbu kvs (kI k)≠none↔s.y k≠none) {R:List (List Int)} (pR:R.Perm (ks.map (qo7 s))) (sR:R.Pairwise λk l=>blt k l=true):R=qd9 s:=by
 obtain ⟨ms,sk,_⟩:=qn3 (f:=s.y) dk.nd λk=>by rw[dk.mem,h]
 have pm:=qsb sk dk h;rw[<- qjg sk];exact qks (qo7 s) (qn5 s) (λk hk=>dk.ne k (pm.mem_iff.mp hk)) sk.srt pm pR sR
theorem qz9 {s:Abs} {ks:List (List Int)} {kvs:KV} (dk:DKeys kvs ks) (h:∀ k,qbu kvs (kI k)≠none↔s.z k≠none) {R:List (List Int)} (pR:R.Perm (ks.map (qo8 s))) (sR:R.Pairwise λk l=>blt k l=true):R=qfw s:=by
 obtain ⟨ms,sk,_⟩:=qn3 (f:=s.z) dk.nd λk=>by rw[dk.mem,h]
 have pm:=qsb sk dk h;rw[<- qjh sk];exact qks (qo8 s) (qn6 s) (λk hk=>dk.ne k (pm.mem_iff.mp hk)) sk.srt pm pR sR
theorem RAbs.zv {H:Hp} {D:qa2} {s:Abs} {LY LZ:List (List Int)} (h:RAbs H D s LY LZ) (k:List Int):qbu D.Z (kI k)≠none↔s.z k≠none:=by
 cases e:s.z k with
 | none=>rw[h.zn k e];simp
 | some x=>obtain ⟨a,e1,_⟩:=h.zs k x e;rw[e1];simp
theorem RAbs.yv' {H:Hp} {D:qa2} {s:Abs} {LY LZ:List (List Int)} (h:RAbs H D s LY LZ) (k:List Int):qbu D.Y (kI k)≠none↔s.y k≠none:=by
 rw[h.yv];cases s.y k<;>simp
inductive qip (vs:List V) (H:Hp) (Q:VK) (E_:XK):Prop
 | mk:∀ (e:Addr) (EV:List V) (es:List Int) (ge:Option Int) (l:Addr) (xs:List V) (ps:List (Int×Int)) (lr:Addr) (ys:List V) (rs:List Rd3),vs=[.ref l,.ref e,.ref lr]->H e=some (.lst EV)->EdS EV es ge->es.length=ps.length->H l=some (.lst xs)->Pairs H xs ps->qrx ps->1<=ps.length->ps.length<=5->Good ps->H lr=some (.lst ys)->Tups H ys (rs.map l3)->rs.length<=60->(∀ r∈rs,qje r.1/\qpq r.2)->(∀ p l1 l2 xs1 xs2 H',Same H H'->H l1=none->H l2=none->H' p=some (.tup [.ref l1,.ref l2])->H' l1=some (.lst xs1)->Tups H' xs1 (qd9 (qdh (qct (ps.map (·.2)) es ge) rs))->H' l2=some (.lst xs2)->Tups H' xs2 (qfw (qdh (qct (ps.map (·.2)) es ge) rs))->(qd9 (qdh (qct (ps.map (·.2)) es ge) rs)).length<=60->(qfw (qdh (qct (ps.map (·.2)) es ge) rs)).length<=60->Q (.ref p) H')->qip vs H Q E_
include T in
theorem qmw:qba P w K mg base 2 "_law_roll" ["_law_steps", "_law_edges_here", "_law_readings_here"] qip:=by
 obtain ⟨f,fd,F,hm⟩:=T.f__law_roll;have nd:=sc__law_roll.nd;refine F.def_ hm (F.ok sc__law_roll (λvs H Q E h=>?_) (λcdv A outer s H vs Q E hr h=>?_)) (F.binds λ_ _ _ _ _ _ us hl=>by obtain ⟨_,_,_,rfl⟩:=L2.lq3 hl;rfl)
 ·obtain ⟨e,EV,es,ge,l,xs,ps,lr,ys,rs,rfl,_⟩:=h;rfl
 ·obtain ⟨e,EV,es,ge,l,xs,ps,lr,ys,rs,rfl,he,E,hn5,hl,hp,S,h1,h5,G,hlr,hy,hn,hrd,q⟩:=h
  have hyl:ys.length=rs.length:=by rw[hy.length,List.length_map]
  have hes:1<=es.length:=by omega
  have w1:∀ w∈ps.map (·.2),1<=w:=λw hw=>by
   obtain ⟨pp,hpp,rfl⟩:=List.mem_map.mp hw;obtain ⟨i,hi,ei⟩:=List.getElem_of_mem hpp;exact (S i pp (by rw[<- ei];exact List.getElem?_eq_getElem hi)).2.2.1
  refine ⟨_,(jB5 (jS 3 nd qf1) (jS 4 nd qf1) (qb8 PassesOwn.never rfl (qa8 (pv 2)) (jG3 (jN 5 nd) (jN 6 nd) (jN 7 nd)) (jB2 (jS 8 nd (jF (qmv T) hr (jA3 (pv 0) (pv 1) (pv 5)))) (qa7 (PW.pt (qpw (jC qgc (pv 8) qbj) (ql1 (jC qec (jT (pv 8) qaa) qaa)))) (qad (qd6 (qda hr) (pv 3) (qaq (jA2 (pv 5) (pv 6))) (qae qat (qiz (qda hr) (pv 3) (qaq (jA2 (pv 5) (pv 6))) qaa ⟨rfl,rfl,rfl,rfl⟩) (pv 7)) rfl)) (qad (qa7 (jC qgc (pv 8) qbj) (jB2 (qm0 (qiz (qda hr) (pv 4) (pv 8) (qaq (jA4 qaa qaa (pv 6) (pv 6))) ⟨rfl,rfl,rfl,rfl⟩) (jG4 (jN 9 nd) (jN 10 nd) (jN 11 nd) (jN 12 nd))) (qd6 (qda hr) (pv 4) (pv 8) (qaq (jA4 (qae qat (pv 9) (pv 7)) (qae qat (pv 10) (qae qbl (pv 6) (pv 7))) (qai (qjw rfl) rfl T.b_min qqz (jA2 (pv 11) (pv 6))) (qai (qed rfl) rfl T.b_max qh0 (jA2 (pv 12) (pv 6))))) rfl)) qap))))) (jS 13 nd (qai qfh rfl T.b_sorted qb3 (jA1 (qrd (qdf (vars:=[ "_law_time_here", "_law_value_here", "_law_many_here" ]) (frees:=[]) (fv:=[]) rfl (jL0 rfl) trivial (qnl (pv 3)) (qw6 (by decide) (by decide) (by decide)) (λ_ _ _ _=>(jG2 (jG2 (jM 0 [ "_law_time_here", "_law_value_here", "_law_many_here" ]) (jM 1 [ "_law_time_here", "_law_value_here", "_law_many_here" ])) (jM 2 [ "_law_time_here", "_law_value_here", "_law_many_here" ]))) (λ_ _ _ _=>qa5) (λ_ _ _ _=>(qaq (jA3 (pv 0) (pv 1) (pv 2))))))))) (qak (qaq (jA2 (pv 13) (qai qfh rfl T.b_sorted qb3 (jA1 (qrd (qdf (vars:=[ "_law_here", "_law_heap" ]) (frees:=[]) (fv:=[]) rfl (jL0 rfl) trivial (qnl (pv 4)) (qci (by decide) (by decide)) (λ_ _ _ _=>(jG2 (jM 0 [ "_law_here", "_law_heap" ]) (jM 1 [ "_law_here", "_law_heap" ]))) (λ_ _ _ _=>qa5) (λ_ _ _ _=>(qae (show OpR _ _ (qnh K) from qi4) (pv 0) (pv 1))))))))))),?_⟩;intro dY H1 n1;intro dZ H2 n2;have s02:=n1.same.trans n2.same;have fY:H dY=none:=n1.fresh;have fZ:H dZ=none:=n1.same.free n2.fresh;have nYZ:dY≠dZ:=qal n1.at_ n2.fresh;have hY2:=n2.same _ _ n1.at_;have hZ2:=n2.at_;clear n1 n2
  generalize ec:qct (ps.map (·.2)) es ge=cell at q
  refine ⟨_,rfl,lr,rfl,⟨_,SqL.of (s02 _ _ hlr)⟩,qb2 (xs:=ys) (λi σ H3=>Same H H3/\∃ (Y Z:KV) (a0 a1 a2 a3 a4 a5 a6 a7 a8:Option V),H3 dY=some (.dT Y)/\H3 dZ=some (.dT Z)/\RAbs H3 (dd Y Z) (qdh cell (rs.take i)) (rs.map qCt) (rs.map (qx5 cell))/\σ=[some (.ref l),some (.ref e),some (.ref lr),some (.ref dY),some (.ref dZ),a0,a1,a2,a3,a4,a5,a6,a7,a8]) ⟨s02,[],[],none,none,none,none,none,none,none,none,none,hY2,hZ2,RAbs.zero rfl rfl,rfl⟩ (λi σ H3 _ h3=>SqL.of (h3.1 _ _ hlr)) ?_ ?_⟩
  ·rintro i x σ H3 hi ⟨s3,Y,Z,a0,a1,a2,a3,a4,a5,a6,a7,a8,hY,hZ,L,rfl⟩
   have hil:i<ys.length:=(List.getElem?_eq_some_iff.mp hi).1;obtain ⟨r3,hri,p,rfl,hp'⟩:=hy.get hi;rw[List.getElem?_map] at hri;obtain ⟨r,hr',rfl⟩:=Option.map_eq_some_iff.mp hri;have hrm:=List.mem_of_getElem? hr';obtain ⟨tm,v,m⟩:=r;have hp3:H3 p=some (.tup [.int tm,.int v,.int m]):=s3 _ _ hp';obtain ⟨htm,rok⟩:=hrd _ hrm;have htm:qje tm:=htm;have rok:qpq (v,m):=rok;have hyk:[tm,v]∈rs.map qCt:=List.mem_map.mpr ⟨_,hrm,rfl⟩;have hzk:∀ a w,cell tm=some (a,w)->[a,w]∈rs.map (qx5 cell):=λa w e=>List.mem_map.mpr ⟨_,hrm,by unfold qx5;rw[e]⟩
   have yl:=L.ylen;have zl:=L.zlen;rw[List.length_map] at yl zl;have yl:Y.length<=rs.length:=yl;have zl:Z.length<=rs.length:=zl;rw[qjd rs i _ hr',qh8]
   generalize qdh cell (rs.take i)=sa at L ⊢
   have hb:=rok;have hv1:=hb.1;have hm1:1<=m:=hb.2.1;have hm2:m<10 ^ 45:=hb.2.2;dsimp only at hv1;have cm:CMulB v m:=by
    unfold CMulB;omega
   refine ⟨p,_,rfl,SqT.of hp3,rfl,_,_,rfl,_,_,rfl,_,_,rfl,rfl,?_⟩
   walk_at "r"
   refine ⟨e,EV,es,ge,l,xs,ps,tm,rfl,s3 _ _ he,E,hn5,s3 _ _ hl,hp.same s3,S,h1,h5,G,htm,λhv o H4 hc cat s4=>?_⟩;have eo:cell tm=o:=by rw[<- ec];exact qn2 hes hc
   have L4:=L.same s4;have hY4:=s4 _ _ hY;have hZ4:=s4 _ _ hZ;have s04:=s3.trans s4;clear L hY hZ s3 s4 hp3 hp'
   cases o with
   | none =>
    cases (show hv=.non from cat)
    walk_at "r"
    exact ⟨Y,Z,_,_,_,_,_,_,_,_,_,hY4,hZ4,L4.put (.inl ⟨rfl,rfl⟩) eo (λ_ _ z=>z) hyk (λa w z=>hzk a w (eo.trans z)),rfl⟩
   | some pr =>
    obtain ⟨c,rfl,hcv⟩:=cat;have hcs:=CellOf.some_ hc hes w1;obtain ⟨a,w⟩:=pr;clear hc
    rcases hcs with z|hw
    ·cases z
     walk_at "r"
     refine ⟨.inr ⟨_,.inl hY4⟩,?_⟩
     walk_at "r";intro p5 H5 n5
     refine ⟨_,DGet.t (k:=kk tm v) (n5.same _ _ hY4) n5.at_,?_⟩;rw[qve (Y:=Y) L4.YOk]
     walk_at "r";intro p6 H6 n6
     have s46:=n5.same.trans n6.same;have s06:=s04.trans s46;have hY6:=s46 _ _ hY4;refine ⟨dY,_,rfl,DPut.t (k:=kk tm v) hY6 n6.at_ (qam (by omega)),?_⟩;refine ⟨but_upd.same s06 fY,_,Z,_,_,_,_,_,_,_,_,_,qau,by rw[qao nYZ.symm];exact s46 _ _ hZ4,?_,rfl⟩;exact L4.put (.inr (.inl ⟨rfl,rfl⟩)) eo (λx xs e=>by rw[qao (qav (s46 _ _ e) hY6 (by intro z;cases z))];exact s46 _ _ e) hyk (λa w z=>hzk a w (eo.trans z))
    ·have hw:1<=w:=hw
     walk_at "r"
     refine qew (λz=>?_) λz=>?_
     ·have z2:w=0:=by simpa using z
      omega
     have hcv':H4 c=some (.tup ((kk a w).map kV)):=hcv
     walk_at "r"
     refine ⟨.inr ⟨_,.inl hZ4⟩,?_⟩
     walk_at "r";intro p5 H5 n5
     have hZ5:=n5.same _ _ hZ4;have hcv5:=n5.same _ _ hcv';have s05:=s04.trans n5.same;refine ⟨_,DGet.t (k:=kk a w) hZ5 hcv5,?_⟩;have one:qko [(v,m)] m (v*m) v v:=⟨by simp[rN,qB5],by simp[rT,qB6],by simp[qm5],by simp[qm5],by simp[qm5],by simp[qm5]⟩;obtain ⟨pa,m0,t0,lo0,hi0,ea,hpa,po⟩:∃ (pa:Addr) (m0 t0 lo0 hi0:Int),(qbu Z (kk a w)).getD (.ref p5)=.ref pa/\H5 pa=some (.tup [.int m0,.int t0,.int lo0,.int hi0])/\qvf H4 Z (kk a w) v m (m0+m) (t0+v*m) (if v<lo0 then v else lo0) (if v>hi0 then v else hi0):=by
      cases e:qbu Z (kk a w) with
      | none=>exact ⟨p5,0,0,v,v,rfl,n5.at_,.inl ⟨e,by simpa using one⟩⟩
      | some x =>
       obtain ⟨h0,m0,t0,lo0,hi0,rfl,hh0⟩:=L4.ZOk _ _ e;exact ⟨h0,m0,t0,lo0,hi0,rfl,n5.same _ _ hh0,.inr ⟨h0,m0,t0,lo0,hi0,m,v*m,v,v,e,hh0,one,rfl,rfl,rfl,rfl⟩⟩
     rw[ea];refine ⟨pa,_,rfl,SqT.of hpa,rfl,_,_,rfl,_,_,rfl,_,_,rfl,_,_,rfl,rfl,?_⟩
     walk_at "r";intro p6 H6 n6
     have hZ6:=n6.same _ _ hZ5;have s46:=n5.same.trans n6.same;refine ⟨_,rfl,_,rfl,dZ,_,rfl,DPut.t (k:=kk a w) hZ6 (n6.same _ _ hcv5) (qam (by omega)),?_⟩;have hne:p6≠dZ:=(qal hZ5 n6.fresh).symm;refine ⟨but_upd.same (s05.trans n6.same) fZ,Y,_,_,_,_,_,_,_,_,_,_,by rw[qao nYZ];exact s46 _ _ hY4,qau,?_,rfl⟩;exact L4.put (.inr (.inr ⟨a,w,p6,_,_,_,_,rfl,hw,rfl,by rw[qao hne];exact n6.at_,po⟩)) eo (λx xs e=>by rw[qao (qav (s46 _ _ e) hZ6 (by intro z;cases z))];exact s46 _ _ e) hyk (λa w z=>hzk a w (eo.trans z))
  rintro σ H3 ⟨s3,Y,Z,a0,a1,a2,a3,a4,a5,a6,a7,a8,hY,hZ,L,rfl⟩;rw[hyl,List.take_length] at L
  generalize qdh cell rs=sa at L q
  have yl0:=L.ylen;have zl0:=L.zlen;rw[List.length_map] at yl0 zl0;have yl0:Y.length<=rs.length:=yl0;have zl0:Z.length<=rs.length:=zl0;obtain ⟨ks,dk,_⟩:=L.yk;obtain ⟨js,dj,_⟩:=L.zk;have yl:Y.length=ks.length:=qsn dk;have zl:Z.length=js.length:=qsn dj;clear hrd hy hlr;refine ⟨_,rfl,dY,Y,rfl,hY,λob nf=>qnm (H:=H3) (λi ys H4=>But dY H3 H4/\H4 dY=some (.frz ob (.dT Y))/\Tups H4 ys ((ks.take i).map (qo7 sa))) (Nat.le_of_lt (qam (by omega))) nf ⟨but_upd,qau,.nil⟩ (λi ys H4 h4=>⟨h4.2.1,by rw[h4.2.2.length,List.length_map,List.length_take];omega⟩) ?_ ?_⟩
  ·rintro i k v b p ys H4 H5 hkv hb n5 ⟨b4,f4,ty⟩
   obtain ⟨key,hki,rfl,hk2,hval⟩:=qlu dk hkv;obtain ⟨n,hn',ev⟩:∃ n,sa.y key=some n/\v=.int n:=by
    rw[L.yv] at hval;obtain ⟨n,h1,h2⟩:=Option.map_eq_some_iff.mp hval;exact ⟨n,h1,h2.symm⟩
   subst ev;rw[qt4] at hb;have hb5:=n5.same _ _ hb;obtain ⟨k0,k1,rfl⟩:∃ k0 k1,key=[k0,k1]:=by
    match key,hk2 with
    | [x,y],_=>exact ⟨x,y,rfl⟩
   refine ⟨p,_,rfl,SqT.of n5.at_,rfl,_,_,rfl,?_⟩;refine ⟨b,_,rfl,SqT.of hb5,rfl,_,_,rfl,_,_,rfl,rfl,?_⟩;refine ⟨_,_,rfl,rfl,?_⟩;refine qhy (qck ?_)
   walk_at "r";intro p7 H7 n7
   have s47:Same H4 H7:=n5.same.trans n7.same;refine ⟨λx o e hx=>s47 _ _ (b4 x o e hx),s47 _ _ f4,?_⟩;rw[qjd _ i _ hki,List.map_append];refine Tups.snoc ⟨p7,rfl,?_⟩ (ty.same s47);rw[n7.at_]
   show some (HO.tup [V.int k0,V.int k1,V.int n])=some (.tup (([k0,k1] ++ [(sa.y [k0,k1]).getD 0]).map V.int))
   rw[hn'];rfl
  rintro ys4 H4 p H5 ⟨b4,f4,ty⟩ n5 f5;rw[yl,List.take_length] at ty;have sT:Same H3 (upd H5 dY (.dT Y)):=qkx (λx o e hx=>n5.same _ _ (b4 x o e hx)) hY;have tT:Tups (upd H5 dY (.dT Y)) ys4 (ks.map (qo7 sa)):=(ty.same n5.same).tupS (TupS.frz f5);have hpT:upd H5 dY (.dT Y) p=some (.lst ys4):=by rw[qao (qav n5.at_ f5 (by intro z;cases z))];exact n5.at_
  generalize upd H5 dY (.dT Y)=H6 at sT tT hpT ⊢
  clear b4 f4 ty n5 f5;refine ⟨p,ys4,ks.map (qo7 sa),rfl,SqL.of hpT,tT,by rw[List.length_map];omega,qia (qn5 sa) dk.ne dk.nd,quf,λRw zs l7 H7 pR sR tz n7=>?_⟩;have eR:=qz8 dk L.yv' pR sR;have lR:Rw.length<=60:=by rw[pR.length_eq,List.length_map];omega
  subst eR;have t7:Tups H7 zs (qd9 sa):=Tups.same n7.same (show Tups H6 zs (qd9 sa) from tz);have h7:=n7.at_;have s37:=sT.trans n7.same;have L7:=L.same s37;have hZ7:=s37 _ _ hZ;have s07:=s3.trans s37;have f7:H l7=none:=(s3.trans sT).free n7.fresh;clear n7 tz pR sR sT tT hpT L hY hZ s37 s3;refine ⟨_,rfl,_,rfl,dZ,Z,rfl,hZ7,λob nf=>qnm (H:=H7) (λi ys H4=>But dZ H7 H4/\H4 dZ=some (.frz ob (.dT Z))/\Tups H4 ys ((js.take i).map (qo8 sa))) (Nat.le_of_lt (qam (by omega))) nf ⟨but_upd,qau,.nil⟩ (λi ys H4 h4=>⟨h4.2.1,by rw[h4.2.2.length,List.length_map,List.length_take];omega⟩) ?_ ?_⟩
  ·rintro i k v b p ys H8 H9 hkv hb n9 ⟨b8,f8,ty⟩
   obtain ⟨key,hki,rfl,hk2,hval⟩:=qlu dj hkv;obtain ⟨hz,ez,la,e1,hla⟩:∃ hz,sa.z key=some hz/\∃ la,v=.ref la/\H7 la=some (.tup (v4 hz)):=by
    cases ez:sa.z key with
    | none=>rw[L7.zn key ez] at hval;cases hval
    | some hz =>
     obtain ⟨la,e1,e2⟩:=L7.zs key hz ez;rw[hval] at e1;exact ⟨hz,rfl,la,Option.some.inj e1,e2⟩
   subst e1;rw[qt4] at hb;have hb9:=n9.same _ _ hb;have hne:la≠dZ:=qav hla hZ7 (by intro z;cases z);have hla9:=n9.same _ _ (b8 _ _ hla hne);refine ⟨p,_,rfl,SqT.of n9.at_,rfl,_,_,rfl,_,_,rfl,rfl,?_⟩;refine qhy (qck ?_);refine ⟨_,rfl,_,rfl,b,la,_,_,rfl,rfl,SqT.of hb9,SqT.of hla9,(by intro z;have:=congrArg List.length z;rw[List.length_map,hk2] at this;cases this),(by intro z;cases z),(by rw[List.length_map,hk2];show 2+4<=sizeLine;decide),λp7 H11 n11=>?_⟩;have s8:Same H8 H11:=n9.same.trans n11.same;refine ⟨λx o e hx=>s8 _ _ (b8 x o e hx),s8 _ _ f8,?_⟩;rw[qjd _ i _ hki,List.map_append];refine Tups.snoc ⟨p7,rfl,?_⟩ (ty.same s8);rw[n11.at_]
   show some (HO.tup (key.map V.int ++ v4 hz))=some (.tup ((key ++ i4 ((sa.z key).getD (0,0,0,0))).map V.int))
   rw[ez,List.map_append];rfl
  rintro ys8 H8 p H9 ⟨b8,f8,ty⟩ n9 f9;rw[zl,List.take_length] at ty;have sT:Same H7 (upd H9 dZ (.dT Z)):=qkx (λx o e hx=>n9.same _ _ (b8 x o e hx)) hZ7;have tT:Tups (upd H9 dZ (.dT Z)) ys8 (js.map (qo8 sa)):=(ty.same n9.same).tupS (TupS.frz f9);have hpT:upd H9 dZ (.dT Z) p=some (.lst ys8):=by rw[qao (qav n9.at_ f9 (by intro z;cases z))];exact n9.at_
  generalize upd H9 dZ (.dT Z)=H10 at sT tT hpT ⊢
  clear b8 f8 ty n9 f9;refine ⟨p,ys8,js.map (qo8 sa),rfl,SqL.of hpT,tT,by rw[List.length_map];omega,qia (qn6 sa) dj.ne dj.nd,qug,λRz zz l11 H11 pR sR tz n11=>?_⟩;have eR:=qz9 dj L7.zv pR sR;have lZ:Rz.length<=60:=by rw[pR.length_eq,List.length_map];omega
  subst eR;have s711:=sT.trans n11.same
  walk_at "r";intro tt H12 n12
  exact q tt l7 l11 zs zz H12 (s07.trans (s711.trans n12.same)) f7 ((s07.trans sT).free n11.fresh) n12.at_ (n12.same _ _ (s711 _ _ h7)) (t7.same (s711.trans n12.same)) (n12.same _ _ n11.at_) ((show Tups H10 zz (qfw sa) from tz).same (n11.same.trans n12.same)) lR lZ
structure qAa (X:qcq) (n:Nat):Prop where
 ok:XOk X
 sm:∀ p∈X,qas 12 p.1
 mm:∀ p∈X,qbm (p.2.2.2.2.map tS)
 ln:X.length<=20
 rs:∀ p∈X,p.2.2.2.1.length<=n
abbrev TR:=List Nat×List (List Nat)×Abs
abbrev TRA:=TR×Addr×Addr×Addr
def TRowA (H:Hp) (v:V) (r:TRA):Prop:=∃ (a:Addr) (ys zs:List V),v=.ref a/\H a=some (.tup [tS r.1.1,.ref r.2.1,.ref r.2.2.1,.ref r.2.2.2])/\H r.2.1=some (.lst (r.1.2.1.map tS))/\H r.2.2.1=some (.lst ys)/\Tups H ys (qd9 r.1.2.2)/\H r.2.2.2=some (.lst zs)/\Tups H zs (qfw r.1.2.2)
def TRowsA (H:Hp) (vs:List V) (rows:List TRA):Prop:=Paired (TRowA H) vs rows
theorem TRowA.same {H H':Hp} {v:V} {r:TRA} (h:TRowA H v r) (s:Same H H'):TRowA H' v r:=by
 obtain ⟨a,ys,zs,e,h0,h1,h2,t2,h3,t3⟩:=h;exact ⟨a,ys,zs,e,s _ _ h0,s _ _ h1,s _ _ h2,t2.same s,s _ _ h3,t3.same s⟩
theorem TRowsA.same {H H':Hp} (s:Same H H') {vs:List V} {rows:List TRA} (h:TRowsA H vs rows):TRowsA H' vs rows:=by
 unfold TRowsA at h ⊢
 induction h with
 | nil=>exact .nil
 | cons a _ ih=>exact .cons (a.same s) ih
theorem TRowsA.snoc {H:Hp} {v:V} {r:TRA} (h:TRowA H v r) {vs:List V} {rows:List TRA} (t:TRowsA H vs rows):TRowsA H (vs ++ [v]) (rows ++ [r]):=by
 unfold TRowsA at t ⊢
 induction t with
 | nil=>exact .cons h .nil
 | cons a _ ih=>exact .cons a ih
theorem TRowsA.length {H:Hp} {vs:List V} {rows:List TRA} (t:TRowsA H vs rows):vs.length=rows.length:=by
 unfold TRowsA at t
 induction t with
 | nil=>rfl
 | cons _ _ ih=>rw[List.length_cons,List.length_cons,ih]
def lsA (rs:List TRA):List Addr:=rs.flatMap λr=>[r.2.1,r.2.2.1,r.2.2.2]
theorem qf8 (rs:List TRA) (r:TRA):lsA (rs ++ [r])=lsA rs ++ [r.2.1,r.2.2.1,r.2.2.2]:=by unfold lsA;rw[List.flatMap_append];rfl
structure Fr74 (H0 H:Hp) (lf:Addr) (rs:List TRA):Prop where
 nd:(lf :: lsA rs).Nodup
 fr:∀ l∈lf :: lsA rs,H0 l=none
 ex:∀ l∈lf :: lsA rs,H l≠none
theorem Fr74.one {H0 H:Hp} {lf:Addr} {o:HO} (f:H0 lf=none) (h:H lf=some o):Fr74 H0 H lf []:=
 ⟨List.nodup_cons.mpr ⟨by unfold lsA;simp,.nil⟩,λl hl=>by rw[List.mem_singleton.mp hl];exact f,λl hl=>by rw[List.mem_singleton.mp hl,h];simp⟩
theorem Fr74.snoc {H0 H H1 H2 H':Hp} {lf l1 l2 l3:Addr} {rs:List TRA} {r:TR} (h:Fr74 H0 H lf rs) (s0:Same H0 H) (s1:Same H H1) (s2:Same H1 H2) (f1:H l1=none) (e1:H1 l1≠none) (f2:H1 l2=none) (e2:H2 l2≠none) (f3:H2 l3=none) (ex:∀ l,H2 l≠none\/l=l3->H' l≠none):Fr74 H0 H' lf (rs ++ [(r,l1,l2,l3)]):=by
 have up:∀ {A B:Hp} {l:Addr},Same A B->A l≠none->B l≠none:=fun {A B l} s n z=>by
  cases hh:A l with
  | none=>exact n hh
  | some o=>rw[s _ _ hh] at z;cases z
 have sp:∀ l,l∈lf :: lsA (rs ++ [(r,l1,l2,l3)])->l∈lf :: lsA rs\/l=l1\/l=l2\/l=l3:=λl hl=>by
  rw[qf8,<- List.cons_append] at hl
  rcases List.mem_append.mp hl with z|z
  ·exact .inl z
  ·exact .inr (by simpa using z)
 refine ⟨?_,λl hl=>?_,λl hl=>ex l ?_⟩
 ·rw[qf8,<- List.cons_append,List.nodup_append]
  have n12:l1≠l2:=λz=>e1 (z ▸ f2)
  have n13:l1≠l3:=λz=>up s2 e1 (z ▸ f3)
  have n23:l2≠l3:=λz=>e2 (z ▸ f3)
  refine ⟨h.nd,by simp[n12,n13,n23],λa ha c hc z=>?_⟩;have:=h.ex a ha;subst z;simp only[List.mem_cons,List.not_mem_nil,or_false] at hc
  rcases hc with z|z|z
  ·exact this (z ▸ f1)
  ·exact up s1 this (z ▸ f2)
  ·exact up s2 (up s1 this) (z ▸ f3)
 ·rcases sp l hl with z|z|z|z
  ·exact h.fr l z
  ·rw[z];exact s0.free f1
  ·rw[z];exact s0.free (s1.free f2)
  ·rw[z];exact s0.free (s1.free (s2.free f3))
 ·rcases sp l hl with z|z|z|z
  ·exact .inl (up s2 (up s1 (h.ex l z)))
  ·rw[z];exact .inl (up s2 e1)
  ·rw[z];exact .inl e2
  ·exact .inr z
def qvo (X:qcq) (cell:Int->Option (Int×Int)) (rows:List TR):Prop:=rows.map (·.1)=qby (X.map (·.1))/\∀ r∈rows,∃ e:RC,(r.1,e)∈X/\r.2.1=qby e.2.2.2/\r.2.2=qdh cell e.2.2.1
inductive qoc (C CR R:Addr) (vs:List V) (H:Hp) (Q:VK) (E_:XK):Prop
 | mk:∀ (b:Addr) (B:qc2) (es:List Int) (ge:Option Int) (X:qcq),vs=[.ref b]->BkC C CR R H b B es ge X->qAa X 60->(∀ l ws rows H',Same H H'->H' l=some (.lst ws)->TRowsA H' ws rows->Fr74 H H' l rows->(∀ r∈rows,(qd9 r.1.2.2).length<=900)->qvo X (qct (B.ps.map (·.2)) es ge) (rows.map (·.1))->Q (.ref l) H')->qoc C CR R vs H Q E_
include T in
theorem qvp:qba P w K mg base 5 "told" ["book"] (qoc C_Book C_Roll C_Rule):=by
 obtain ⟨f,fd,F,hm⟩:=T.f_told;have nd:=sc_told.nd;refine F.def_ hm (F.ok sc_told (λvs H Q E h=>?_) (λcdv A outer s H vs Q E hr h=>?_)) (F.binds λ_ _ _ _ _ _ us hl=>by obtain ⟨_,rfl⟩:=L2.lq1 hl;rfl)
 ·obtain ⟨b,B,es,ge,X,rfl,_⟩:=h;rfl
 ·obtain ⟨b,B,es,ge,X,rfl,A',XG,q⟩:=h
  obtain ⟨dx,hob⟩:=A'.ob;have x20:=XG.ln;have snm:∀ y∈qby (X.map (·.1)),y∈X.map (·.1):=λy hy=>(qb1 _).mem_iff.mp hy
  refine ⟨_,(jB3 (jS 1 nd (qay qbn)) (qb8 PassesOwn.never rfl (qa8 (qfe (pv 0) T.cl_Book (qli T) (hr.mono (by decide)))) (jN 2 nd) (jB2 (jS 3 nd (qff (qgj ⟨rfl,rfl,rfl⟩) (pv 0) T.cl_Book (qdq T) (hr.mono (by decide)) .nil (jA1 (pv 2)))) (qa4 (qee PySem.F.plainAttrs_list PySem.F.slot_list_append PySem.F.type_list_append qbd (pv 1) (jA1 (qaq (jA4 (pv 2) (qff (qgj ⟨rfl,rfl,rfl⟩) (pv 0) T.cl_Book (qln T) (hr.mono (by decide)) .nil (jA1 (pv 2))) (qfe (pv 3) T.cl_Roll (qla T) (hr.mono (by decide))) (qfe (pv 3) T.cl_Roll (qlb T) (hr.mono (by decide)))))))))) (qak (pv 1))),?_⟩;refine qc8 λN hN=>?_
  refine ⟨Nat.zero_le _,λlf H1 n1=>qan (hN _ _ ?_)⟩;refine qes (σ':=[some (.ref b),some (.ref lf),none,none]) rfl ?_;refine qc8 λN hN=>?_
  refine ⟨_,rfl,b,dx,_,rfl,n1.same _ _ hob,bno,b,B,es,ge,X,rfl,A'.same n1.same,by omega,λln H2 n2=>?_⟩;have nlf:ln≠lf:=λz=>by have:=n2.fresh;rw[z,n1.at_] at this;cases this
  refine ⟨ln,rfl,⟨_,SqL.of n2.at_⟩,qb2 (xs:=(qby (X.map (·.1))).map tS) (λj σ H'=>∃ (ws:List V) (rows:List TRA) (v2 v3:Option V),Same H H'/\H' ln=some (.lst ((qby (X.map (·.1))).map tS))/\H' lf=some (.lst ws)/\TRowsA (rmS H' [lf]) ws rows/\Fr74 H H' lf rows/\(∀ r∈rows,(qd9 r.1.2.2).length<=900)/\rows.map (·.1.1)=(qby (X.map (·.1))).take j/\(∀ r∈rows,∃ e:RC,(r.1.1,e)∈X/\r.1.2.1=qby e.2.2.2/\r.1.2.2=qdh (qct (B.ps.map (·.2)) es ge) e.2.2.1)/\σ=[some (.ref b),some (.ref lf),v2,v3]) ⟨[],[],_,_,n1.same.trans n2.same,n2.at_,n2.same _ _ n1.at_,.nil,.one n1.fresh (n2.same _ _ n1.at_),(by intro p h;cases h),rfl,(by intro p h;cases h),rfl⟩ (λj σ H' _ ⟨_,_,_,_,_,z,_⟩=>SqL.of z) ?_ ?_⟩
  ·rintro j x' σ H3 hxj ⟨ws,rows,v2,v3,s3,hln,hlf,tr,fa,yb,nm,en,rfl⟩
   obtain ⟨x,hxs,rfl⟩:∃ x,(qby (X.map (·.1)))[j]?=some x/\x'=tS x:=by
    rw[List.getElem?_map] at hxj;obtain ⟨x,e1,e2⟩:=Option.map_eq_some_iff.mp hxj;exact ⟨x,e1,e2.symm⟩
   obtain ⟨⟨x0,e0⟩,he0,ex0⟩:=List.mem_map.mp (snm x (List.mem_of_getElem? hxs));have ex0:x0=x:=ex0;subst ex0;have hsx:=XG.sm _ he0;have tx:∀ {H:Hp},TextV H (tS x0):=.inl ⟨x0,rfl,by have:=hsx.2.1;dsimp only at this;omega⟩;have inx:qhr X (tS x0):=⟨x0,rfl,hsx,List.mem_map.mpr ⟨_,he0,rfl⟩⟩;have rl:rows.length<=20:=by
    have:=congrArg List.length nm;rw[List.length_map,List.length_take,(qb1 _).length_eq,List.length_map] at this;omega
   refine qan ?_;refine qes (σ':=[some (.ref b),some (.ref lf),some (tS x0),v3]) rfl ?_;refine qc8 λN hN=>?_
   refine ⟨_,rfl,b,dx,_,rfl,s3 _ _ hob,bno,_,rfl,b,B,es,ge,X,tS x0,rfl,A'.same s3,tx,λy e' ey hy hm re H4 s4=>qan (hN _ _ ?_),λz=>absurd inx z⟩;have ey:=qc7 ey;subst ey;have ee:=XG.ok.one hm he0;subst ee;obtain ⟨LY,LZ,R3⟩:=re.ex;have R4:=R3.same s4;have l1:=R4.ly;have l2:=R4.lz;have l5:=XG.rs _ he0;dsimp only at l5;refine qes (σ':=[some (.ref b),some (.ref lf),some (tS x0),some (.ref e'.1)]) rfl ?_;have s04:=s3.trans s4;refine ⟨_,rfl,.inl ⟨rfl,_,SqL.of (s4 _ _ hlf)⟩,_,rfl,_,rfl,b,dx,_,rfl,s04 _ _ hob,bno,_,rfl,b,B,es,ge,X,tS x0,rfl,A'.same s04,tx,λy5 e5 ey5 hy5 hm5 lm H5 s5 f5 h5=>?_,λz=>absurd inx z⟩;have ey5:=qc7 ey5;subst ey5;have ee5:=XG.ok.one hm5 he0;subst ee5;have R5:=R4.same s5;obtain ⟨dxo,hro⟩:=R5.R.obj;refine ⟨_,rfl,e5.1,dxo,_,rfl,hro,qr3 _ _ _ _ _,?_⟩;simp only[qm2,List.cons_append,List.nil_append,List.append_nil];refine R5.R.young (by omega) λa1 as1 H6 s6 g6 ha1 ta1 ro1=>?_
   refine ⟨_,rfl,e5.1,dxo,_,rfl,s6 _ _ hro,qr4 _ _ _ _ _,?_⟩;simp only[qm2,List.cons_append,List.nil_append,List.append_nil];refine (R5.R.same s6).heaps (by omega) λa2 as2 H7 s7 g7 ha2 ta2 _=>?_
   refine ⟨qbf (by simp),λta H8 n8=>?_⟩;have s38:=s4.trans (s5.trans (s6.trans (s7.trans n8.same)));have hlf8:=s38 _ _ hlf;refine ⟨lf,ws,_,rfl,rfl,hlf8,qam (by have:=tr.length;omega),λH9 b9 h9=>?_⟩;have nf:∀ {c:Addr} {G:Hp},Same H3 G->G c=none->c ∉ [lf]:=fun {c G} sg hc z=>by
    rw[List.mem_singleton.mp z,sg _ _ hlf] at hc;cases hc
   have up:∀ {c:Addr} {o:HO},H8 c=some o->c ∉ [lf]->rmS H9 [lf] c=some o:=fun {c o} e n=>qbe (b9 _ _ e (λz=>n (List.mem_singleton.mpr z))) n
   have tu:∀ {vs:List V} {rs:List (List Int)},Tups H8 vs rs->Tups (rmS H9 [lf]) vs rs:=λt=>t.tupS λc xs e=>up e (λz=>by rw[List.mem_singleton.mp z,hlf8] at e;cases e)
   refine ⟨_,rows ++ [((x0,qby e5.2.2.2,qdh (qct (B.ps.map (·.2)) es ge) e5.2.2.1),lm,a1,a2)],_,_,b9.same (s3.trans s38) n1.fresh,?_,h9,?_,?_,λr hr=>?_,?_,λr hr=>?_,rfl⟩
   ·exact b9 _ _ (s38 _ _ hln) nlf
   ·refine TRowsA.snoc ⟨ta,as1,as2,rfl,up n8.at_ (nf (s4.trans (s5.trans (s6.trans s7))) n8.fresh),up (n8.same _ _ (s7 _ _ (s6 _ _ h5))) (nf s4 f5),up (n8.same _ _ (s7 _ _ ha1)) (nf (s4.trans s5) g6),tu ((ta1.same s7).same n8.same),up (n8.same _ _ ha2) (nf (s4.trans (s5.trans s6)) g7),tu (ta2.same n8.same)⟩ (tr.same ?_)
    exact λc o e=>up (s38 _ _ (qbi e).1) (qbi e).2
   ·refine fa.snoc (H1:=H5) (H2:=H6) s3 (s4.trans s5) s6 (s4.free f5) (by rw[h5];simp) g6 (by rw[ha1];simp) g7 λl hl=>?_
    have kk:∀ l o,H8 l=some o->H9 l≠none:=λl o e=>by
     by_cases z:l=lf
     ·rw[z,h9];simp
     ·rw[b9 _ _ e z];simp
    rcases hl with z|z
    ·cases hh:H6 l with
     | none=>exact absurd hh z
     | some o=>exact kk l o (n8.same _ _ (s7 _ _ hh))
    ·rw[z];exact kk a2 _ (n8.same _ _ ha2)
   ·rcases List.mem_append.mp hr with z|z
    ·exact yb r z
    ·rw[List.mem_singleton.mp z];exact ro1.1
   ·rw[List.map_append,nm,List.take_add_one,hxs];rfl
   ·rcases List.mem_append.mp hr with z|z
    ·exact en r z
    ·rw[List.mem_singleton.mp z];exact ⟨e5,he0,rfl,rfl⟩
  ·rintro σ H3 ⟨ws,rows,v2,v3,s3,hln,hlf,tr,fa,yb,nm,en,rfl⟩
   rw[List.length_map,List.take_length] at nm;refine hN _ _ ⟨_,rfl,q lf ws rows H3 s3 hlf (tr.same qc3) fa yb ⟨by rw[List.map_map];exact nm,λr hr=>?_⟩⟩;obtain ⟨r',hr',rfl⟩:=List.mem_map.mp hr;exact en r' hr'
include T in
theorem qdr:qba P w K mg base 1 "_law_edges" ["_law_steps", "_law_gone", "_law_day"] qr2:=by
 obtain ⟨f,fd,F,hm⟩:=T.f__law_edges;have nd:=sc__law_edges.nd;refine F.def_ hm (F.ok sc__law_edges (λvs H Q E h=>?_) (λcdv A outer s H vs Q E hr h=>?_)) (F.binds λ_ _ _ _ _ _ us hl=>by obtain ⟨_,_,_,rfl⟩:=L2.lq3 hl;rfl)
 ·obtain ⟨l,xs,ps,g,d,rfl,_⟩:=h;rfl
 ·obtain ⟨l,xs,ps,g,d,rfl,hl,hx,Pg,hd,q⟩:=h
  have hlen:=hx.length;have h5:=Pg.good.hi;obtain ⟨p,hp,ep⟩:=Pg.last;refine ⟨_,(jB3 (qef (i:=3) (vars:=[ "_law_age", "_law_width" ]) (frees:=[ "_law_day" ]) (fv:=[2]) nd rfl (Or.inl rfl) rfl (jL1 rfl) ⟨⟨rfl,.inl rfl,rfl,.inl rfl⟩,trivial⟩ (qa8 (pv 0)) (qci (by decide) (by decide)) (λ_ _ _ _=>(jG2 (jM 0 [ "_law_age", "_law_width", "_law_day" ]) (jM 1 [ "_law_age", "_law_width", "_law_day" ]))) (λ_ _ _ _=>qa5) (λ_ _ _ _=>(qae qbl (qae qf0 (qae qc5 (pv 2) (pv 0)) (pv 1)) (pv 1)))) (qa7 (jC qdv (pv 1) qbj) (qad (qak (qae qc0 (pv 3) (qay (jA1 qbj))))) qap) (qak (qae qc0 (pv 3) (qay (jA1 (qae qbl (qae qf0 (qae qc5 (pv 2) (pv 1)) (jT (jI (pv 0) (qd5 qce qaa)) qaa)) (jT (jI (pv 0) (qd5 qce qaa)) qaa))))))),?_⟩;refine ⟨_,rfl,l,rfl,⟨_,SqL.of hl⟩,qca (xs:=xs) (λi ys H2=>Same H H2/\ys=(ps.take i).map λp=>V.int (cut d p.1 p.2)) (Nat.le_of_lt (qam (by omega))) ⟨Same.refl _,rfl⟩ (λi ys H2 h2=>⟨SqL.of (h2.1 _ _ hl),by rw[h2.2];simp;omega⟩) ?_ ?_⟩
  ·rintro i x ys H2 hi ⟨s2,rfl⟩
   obtain ⟨p,hpi,a,rfl,ha⟩:=hx.get hi;have hs:=Pg.size i p hpi;unfold Bd at hd;have hb:=qt0 (x:=d-p.1) (B:=10 ^ 46) hs.2.2.1 (by decide) (by omega) (by omega);refine ⟨a,_,rfl,SqT.of (s2 _ _ ha),rfl,_,_,rfl,_,_,rfl,rfl,qhy (qck ?_)⟩;refine ⟨_,rfl,_,rfl,_,_,rfl,rfl,_,rfl,_,_,rfl,rfl,⟨by show 0<p.2;omega,by show p.2<_;omega⟩,_,rfl,_,_,rfl,rfl,⟨⟨by omega,by omega⟩,by omega,by omega⟩,s2,?_⟩;exact (qA1 _ ps i p hpi).symm
  ·rintro ys H2 c1 H3 ⟨s2,rfl⟩ n3
   rw[hlen,List.take_length] at n3;have s3:Same H H3:=s2.trans n3.same
   cases g with
   | none =>
    refine ⟨_,rfl,rfl,_,rfl,qck ?_⟩
    walk_at "r";intro c2 H4 n4
    refine ⟨c1,c2,_,_,rfl,rfl,n4.same _ _ n3.at_,n4.at_,Nat.le_of_lt (qam (by simp;omega)),λz H6 n6=>?_⟩;exact q z H6 (New.after (s3.trans n4.same) n6)
   | some z =>
    refine ⟨_,rfl,rfl,_,rfl,qdw ?_⟩;obtain ⟨v,hv,a,rfl,ha⟩:=hx.get' hp;have hz:=Pg.gb z rfl;have hs:=Pg.size _ p hp;unfold Bd at hd;have hb:=qt0 (x:=d-z) (B:=10 ^ 46) hs.2.2.1 (by decide) (by omega) (by omega);have hat:atI xs (-1)=some (.ref a):=qnv (by rw[hlen];exact hv)
    walk_at "r";intro c2 H4 n4
    refine ⟨c1,c2,_,_,rfl,rfl,n4.same _ _ n3.at_,n4.at_,Nat.le_of_lt (qam (by simp;omega)),λy H6 n6=>?_⟩;have e:eV ps (some z) d=(ps.map λp=>V.int (cut d p.1 p.2)) ++ [V.int ((d-z) / p.2*p.2)]:=by
     show (ps.map λp=>V.int (cut d p.1 p.2)) ++ [V.int (cut d z (lw ps))]=_
     rw[ep];rfl
    refine q y H6 ?_;rw[e];exact New.after (s3.trans n4.same) n6
theorem qjo {σ:St} {H:Hp} {K:List V->Hp->Prop} (h:K [] H):qm2 σ H K:=h
include T in
theorem qd3:qba P w K mg base 1 "_law_greater" ["_law_one", "_law_other"] qgw:=by
 obtain ⟨f,fd,F,hm⟩:=T.f__law_greater;have nd:=sc__law_greater.nd;refine F.def_ hm (F.ok sc__law_greater (λvs H Q E h=>?_) (λcdv A outer s H vs Q E hr h=>?_)) (F.binds λ_ _ _ _ _ _ us hl=>by obtain ⟨_,_,rfl⟩:=L2.lq2 hl;rfl)
 ·obtain ⟨a,b,xs,ys,rfl,_⟩:=h;rfl
 ·obtain ⟨a,b,xs,ys,rfl,ha,hb,hx,hy,hxy,hz,q⟩:=h
  have hzl:(List.zipWith gE xs ys).length=xs.length:=by rw[List.length_zipWith];omega
  refine ⟨_,(jB3 (jS 2 nd (qay qbn)) (qb8 PassesOwn.never rfl (qm8 rfl T.b_zip (jA2 (pv 0) (pv 1))) (jG2 (jN 3 nd) (jN 4 nd)) (qad (qa7 (PW.pt (qhl (jC qdv (pv 3) qbj) (qfb (jC qdv (pv 4) qbj)))) (qad (qa4 (qee PySem.F.plainAttrs_list PySem.F.slot_list_append PySem.F.type_list_append qbd (pv 2) (jA1 (jI (qay (jA2 (pv 3) (pv 4))) (qbk qjx rfl T.b_int qm9 (jA1 (jD qdv (pv 3) qbj)))))))) (qad (qa4 (qee PySem.F.plainAttrs_list PySem.F.slot_list_append PySem.F.type_list_append qbd (pv 2) (jA1 (qai (qed rfl) rfl T.b_max qh0 (jA2 (pv 3) (pv 4)))))))))) (qak (pv 2))),?_⟩
  walk_at "r";intro l H1 n1;walk_at "r"
  refine ⟨a,b,xs,ys,rfl,SqL.of (n1.same _ _ ha),SqL.of (n1.same _ _ hb),qnb (xs:=xs) (λi σ H2=>Same H H2/\∃ v3 v4,H2 l=some (.lst ((List.zipWith gE xs ys).take i))/\σ=[some (.ref a),some (.ref b),some (.ref l),v3,v4]) ⟨n1.same,none,none,n1.at_,rfl⟩ (λi σ H2 h2=>⟨SqL.of (h2.1 _ _ ha),SqL.of (h2.1 _ _ hb)⟩) ?_ ?_⟩
  ·rintro i x y σ H2 p H3 hxi hyi n3 ⟨s2,v3,v4,hl,rfl⟩
   have hzi:=zip_get hxi hyi;have hl3:=n3.same _ _ hl;have s3:=s2.trans n3.same;have hsm:((List.zipWith gE xs ys).take i).length<sizeLine:=qam (by rw[List.length_take];omega);have fin:∀ H6 H7,Same H3 H6->But l H6 H7->H7 l=some (.lst ((List.zipWith gE xs ys).take i ++ [gE x y]))->Same H H7/\∃ v3 v4,H7 l=some (.lst ((List.zipWith gE xs ys).take (i+1)))/\[some (V.ref a),some (V.ref b),some (V.ref l),some x,some y]=[some (V.ref a),some (V.ref b),some (V.ref l),v3,v4]:=λH6 H7 s6 b7 h7=>⟨b7.same (s3.trans s6) n1.fresh,_,_,by rw[qjd _ i _ hzi];exact h7,rfl⟩
   refine ⟨p,_,rfl,SqT.of n3.at_,rfl,_,_,rfl,_,_,rfl,rfl,?_⟩
   rcases hx x (List.mem_of_getElem? hxi) with rfl|⟨i1,rfl⟩
   ·walk_at "r"
    intro p6 H6 n6;have hl6:=n6.same _ _ hl3
    walk_at "r"
    refine qjo (.inr ⟨true,rfl,p6,_,_,_,rfl,rfl,SqL.of n6.at_,rfl,?_⟩);exact qjo ⟨l,_,_,rfl,rfl,hl6,hsm,λH7 b7 h7=>fin H6 H7 n6.same b7 h7⟩
   ·rcases hy y (List.mem_of_getElem? hyi) with rfl|⟨j1,rfl⟩
    ·walk_at "r"
     intro p6 H6 n6;have hl6:=n6.same _ _ hl3
     walk_at "r"
     refine qjo (.inr ⟨false,rfl,p6,_,_,_,rfl,rfl,SqL.of n6.at_,rfl,?_⟩);exact qjo ⟨l,_,_,rfl,rfl,hl6,hsm,λH7 b7 h7=>fin H6 H7 n6.same b7 h7⟩
    ·walk_at "r"
     exact λH7 b7 h7=>fin H3 H7 (Same.refl _) b7 h7
  ·rintro i σ H2 hi ⟨s2,v3,v4,hl,rfl⟩
   have e:(List.zipWith gE xs ys).take i=List.zipWith gE xs ys:=List.take_of_length_le (by rw[List.length_zipWith,hi];exact Nat.le_refl _);rw[e] at hl;exact ⟨_,rfl,q l H2 ⟨s2,n1.fresh,hl⟩⟩
theorem qDz (m w:Int) (h0:1<=w) (h1:w<=10 ^ 20):∃ z,atI [V.int 1,V.int 3,V.int 10,V.int w] (m % 4)=some (.int z)/\1<=z/\z<=10 ^ 20:=by
 rcases (show m % 4=0\/m % 4=1\/m % 4=2\/m % 4=3 by omega) with e|e|e|e<;>rw[e]
 ·exact ⟨_,rfl,by decide,by decide⟩
 ·exact ⟨_,rfl,by decide,by decide⟩
 ·exact ⟨_,rfl,by decide,by decide⟩
 ·exact ⟨_,rfl,h0,h1⟩
inductive qod (vs:List V) (H:Hp) (Q:VK) (E_:XK):Prop
 | mk:∀ (ls:Addr) (xs:List V) (ps:List (Int×Int)) (g:Option Int) (d:Int),vs=[.ref ls,.int d]->H ls=some (.lst xs)->Pairs H xs ps->PrB ps g->(∀ t l ys qs g2 H',Same H H'->H l=none->H' t=some (.tup [.ref l,gv g2])->H' l=some (.lst ys)->Pairs H' ys qs->PrB qs g2->qs.map (·.2)=ps.map (·.2)->Q (.ref t) H')->qod vs H Q E_
include T in
theorem qe9:qba P w K mg base 2 "_law_other_ages" ["_law_steps", "_law_draw"] qod:=by
 obtain ⟨f,fd,F,hm⟩:=T.f__law_other_ages;have nd:=sc__law_other_ages.nd;refine F.def_ hm (F.ok sc__law_other_ages (λvs H Q E h=>?_) (λcdv A outer s H vs Q E hr h=>?_)) (F.binds λ_ _ _ _ _ _ us hl=>by obtain ⟨_,_,rfl⟩:=L2.lq2 hl;rfl)
 ·obtain ⟨ls,xs,ps,g,d,rfl,_⟩:=h;rfl
 ·obtain ⟨ls,xs,ps,g,d,rfl,hls,hps,pb,q⟩:=h
  have lo:=pb.P.good.lo;have hi5:=pb.P.good.hi;have xl:=hps.length;refine ⟨_,(jB6 (jS 2 nd (jI (qay (jA4 qaa qaa qaa (qae qat qaa (qae qar (qae qcd (pv 1) qaa) (qae qfd qaa qaa))))) (qae qar (jF (qah T) hr (jA2 (pv 1) qaa)) qaa))) (jS 3 nd (qae qdu (qae qar (jF (qah T) hr (jA2 (pv 1) qaa)) qaa) (pv 2))) (jS 4 nd (qay qbn)) (qb8 PassesOwn.never rfl (qcc rfl T.b_range (jA1 (qai qa0 rfl T.b_len qch (jA1 (pv 0))))) (jN 5 nd) (jB2 (qa4 (qee PySem.F.plainAttrs_list PySem.F.slot_list_append PySem.F.type_list_append qbd (pv 4) (jA1 (qaq (jA2 (pv 3) (jT (jI (pv 0) (pv 5)) qaa)))))) (jS 3 nd (qae qat (pv 3) (qae qdu (qae qar (jF (qah T) hr (jA2 (pv 1) (qae qat qaa (pv 5)))) qaa) (pv 2)))))) (qa7 (jC qec (qae qar (jF (qah T) hr (jA2 (pv 1) qaa)) qaa) qaa) (qad (qak (qaq (jA2 (pv 4) qbj)))) qap) (qak (qaq (jA2 (pv 4) (qae qat (pv 3) (qae qdu (qae qar (jF (qah T) hr (jA2 (pv 1) qaa)) qaa) (pv 2))))))),?_⟩;have w20:0<=d / 7 % 10 ^ 20/\d / 7 % 10 ^ 20<10 ^ 20:=⟨Int.emod_nonneg _ (by decide),Int.emod_lt_of_pos _ (by decide)⟩
  walk_at "r";intro p0 H0 n0
  walk_at "r";intro m0 m00 m01
  obtain ⟨z,hz,z0,z1⟩:=qDz m0 (1+d / 7 % 10 ^ 20) (by omega) (by omega);refine ⟨_,_,rfl,rfl,by decide,p0,_,_,_,rfl,rfl,SqL.of n0.at_,hz,qan ?_⟩;refine qjr (σ':=[some (.ref ls),some (.int d),some (.int z),none,none,none]) rfl ?_;refine ⟨_,rfl,d,81,rfl,by decide,by decide,λm1 m10 m11=>?_⟩;have ma:=qpi (x:=m1 % 5) (k:=4) (by omega) (by omega) z0 z1;refine ⟨_,_,rfl,rfl,by decide,_,rfl,_,_,rfl,rfl,.inl ⟨by omega,by omega⟩,qan ?_⟩
  generalize m1 % 5*z=age0 at ma
  refine qjr (σ':=[some (.ref ls),some (.int d),some (.int z),some (.int age0),none,none]) rfl ?_;refine ⟨Nat.zero_le _,λl H1 n1=>qan ?_⟩;refine qjr (σ':=[some (.ref ls),some (.int d),some (.int z),some (.int age0),some (.ref l),none]) rfl ?_;have fl:H l=none:=n0.same.free n1.fresh;have s01:=n0.same.trans n1.same;have nls:ls≠l:=qal hls fl;refine ⟨_,rfl,ls,xs,rfl,.inl (SqL.of (s01 _ _ hls)),_,rfl,by omega,by omega,qgb (n:=xs.length) (λi σ H2=>Same H H2/\∃ (qs:List (Int×Int)) (ys:List V) (a w':Int) (v5:Option V),H2 l=some (.lst ys)/\Pairs H2 ys qs/\qs.length=i/\qs.map (·.2)=(ps.map (·.2)).take i/\Chn qs a w'/\(∀ p,ps[i]?=some p->w'=p.2)/\(0<=a/\a<=(4+4*i)*10 ^ 20)/\σ=[some (.ref ls),some (.int d),some (.int z),some (.int a),some (.ref l),v5]) ⟨s01,[],[],age0,((ps[0]?).getD (0,1)).2,_,n1.at_,.nil,rfl,rfl,Chn.nil _ _,λp e=>by rw[e];rfl,⟨ma.1,by have:=ma.2;simpa using this⟩,rfl⟩ ?_ ?_⟩
  ·rintro i σ H2 hi ⟨s2,qs,ys,a,w',v5,hl,hp,hq,hw,ch,wn,ab,rfl⟩
   rw[Int.zero_add];have ip:i<ps.length:=by omega
   obtain ⟨aP,pi,eP,mP,hpi,hP⟩:=hps.at (i:=i) ip;have w1:=pb.P.good.each i pi hpi;have w2:=pb.b pi mP;have ew:=wn pi hpi;subst ew;have yl:=hp.length;have hat:atI xs (i:Int)=some (.ref aP):=qdc eP;refine qan (qjr (σ':=[some (.ref ls),some (.int d),some (.int z),some (.int a),some (.ref l),some (.int i)]) rfl ?_);refine ⟨_,rfl,.inl ⟨rfl,_,SqL.of hl⟩,_,rfl,_,rfl,_,rfl,ls,xs,_,_,rfl,rfl,SqL.of (s2 _ _ hls),hat,aP,_,_,_,rfl,rfl,SqT.of (s2 _ _ hP),rfl,qbf (by simp),λt H3 n3=>?_⟩;refine ⟨l,_,_,rfl,rfl,n3.same _ _ hl,qam (by omega),λH4 b4 h4=>?_⟩;refine ⟨_,rfl,_,rfl,_,rfl,_,_,rfl,rfl,d,_,rfl,by omega,by omega,λm4 m40 m41=>?_⟩;have mb:=qpi (x:=m4 % 5) (k:=4) (by omega) (by omega) z0 z1;refine ⟨_,_,rfl,rfl,by decide,_,rfl,_,_,rfl,rfl,.inl ⟨by omega,by omega⟩,_,_,rfl,rfl,qan ?_⟩
   generalize m4 % 5*z=ad at mb
   obtain ⟨k,hk⟩:∃ k,∀ p,ps[i+1]?=some p->pi.2*k=p.2:=by
    cases hn:ps[i+1]? with
    | none=>exact ⟨1,λp e=>by cases e⟩
    | some pj =>
     have:=(pb.P.good.next i pi pj hpi hn).2;exact ⟨pj.2 / pi.2,λp e=>by cases e;exact Int.mul_ediv_cancel' (Int.dvd_of_emod_eq_zero this)⟩
   refine ⟨b4.same (s2.trans n3.same) fl,qs ++ [(a,pi.2)],_,a+ad,pi.2*k,_,h4,?_,by simp[hq],?_,ch.snoc ab.1 (by omega) w1.2 w2.2 (by omega),hk,⟨by omega,by have:=mb.2;omega⟩,rfl⟩
   ·exact ((hp.same n3.same).but b4 (n3.same _ _ hl) qr0).snoc ⟨t,rfl,b4 _ _ n3.at_ (qav n3.at_ (n3.same _ _ hl) (by intro z;cases z))⟩
   ·rw[List.map_append,hw,List.take_add_one,List.getElem?_map,hpi];rfl
  ·rintro σ H2 ⟨s2,qs,ys,a,w',v5,hl,hp,hq,hw,ch,wn,ab,rfl⟩
   have n5:1<=qs.length/\qs.length<=5:=by omega
   have ew:qs.map (·.2)=ps.map (·.2):=by rw[hw];exact List.take_of_length_le (by rw[List.length_map];omega)
   refine ⟨_,rfl,d,88,rfl,by decide,by decide,λm6 m60 m61=>?_⟩;refine ⟨_,_,rfl,rfl,by decide,rfl,_,rfl,?_⟩;refine qew (λz=>?_) λz'=>?_
   ·refine ⟨_,rfl,qbf (by simp),λt H3 n3=>?_⟩
    exact q t l ys qs none H3 (s2.trans n3.same) fl n3.at_ (n3.same _ _ hl) (hp.same n3.same) (ch.pr n5.1 n5.2 λz e=>by cases e) ew
   ·refine ⟨_,rfl,_,rfl,_,rfl,d,89,rfl,by decide,by decide,λm7 m70 m71=>?_⟩
    have mb:=qpi (x:=m7 % 9) (k:=8) (by omega) (by omega) z0 z1;refine ⟨_,_,rfl,rfl,by decide,_,rfl,_,_,rfl,rfl,.inl ⟨by omega,by omega⟩,_,_,rfl,rfl,qbf (by simp),λt H3 n3=>?_⟩;refine q t l ys qs (some (a+m7 % 9*z)) H3 (s2.trans n3.same) fl n3.at_ (n3.same _ _ hl) (hp.same n3.same) (ch.pr n5.1 n5.2 λy e=>?_) ew;cases e;have:=ab.2;exact ⟨by omega,by omega⟩
def GivOk (ps:List (Int×Int)) (g:Option Int) (day:Int) (EV:List V) (fs:List Int) (fg:Option Int):Prop:=EV=fs.map V.int ++ [gv fg]/\fs.length=ps.length/\qCa ps g day EV fs fg fs fg
theorem GivOk.of {ps:List (Int×Int)} {g:Option Int} (P:Pr ps g) {D:Int} (hD:Bd D) {es:List Int} {ge:Option Int} {EV:List V} (E:EdS EV es ge) (F:Fall (ps.map (·.2)) es ge):∃ fs fg,GivOk ps g D (List.zipWith gE (eV ps g D) EV) fs fg:=by
 obtain ⟨fs,fg,U⟩:=qDu P hD E F;refine ⟨fs,fg,U.eq,?_,?_⟩
 ·have:=U.F.len
  rw[List.length_map] at this;omega
 ·rw[U.eq]
  exact ⟨by rw[U.dom];exact U.E,U.F,qpe _ _,U.dom,U.dom,U.E⟩
theorem GivOk.day {ps:List (Int×Int)} {g:Option Int} (P:Pr ps g) {D:Int} (hD:Bd D):∃ fs fg,GivOk ps g D (eV ps g D) fs fg:=by
 have:=GivOk.of P hD (EdS.of P hD) (Fall.of P D)
 rwa [qjj (EdS.of P hD).ed] at this
inductive qiq (vs:List V) (H:Hp) (Q:VK) (E_:XK):Prop
 | mk:∀ (l:Addr) (xs:List V) (ps:List (Int×Int)) (g:Option Int) (day d:Int),vs=[.ref l,gv g,.int day,.int d]->H l=some (.lst xs)->Pairs H xs ps->PrB ps g->(-(10 ^ 31)<=day/\day<=10 ^ 31)->(∀ e EV fs fg H',Same H H'->H e=none->H' e=some (.lst EV)->GivOk ps g day EV fs fg->Q (.ref e) H')->qiq vs H Q E_
include T in
theorem qlv:qba P w K mg base 3 "_law_given" ["_law_steps", "_law_gone", "_law_day", "_law_draw"] qiq:=by
 obtain ⟨f,fd,F,hm⟩:=T.f__law_given;have nd:=sc__law_given.nd;refine F.def_ hm (F.ok sc__law_given (λvs H Q E h=>?_) (λcdv A outer s H vs Q E hr h=>?_)) (F.binds λ_ _ _ _ _ _ us hl=>by obtain ⟨_,_,_,_,rfl⟩:=L2.lq4 hl;rfl)
 ·obtain ⟨l,xs,ps,g,day,d,rfl,_⟩:=h;rfl
 ·obtain ⟨l,xs,ps,g,day,d,rfl,hl,hp,pb,hd,q⟩:=h
  have lo:=pb.P.good.lo;have xl:=hp.length;obtain ⟨aL,pL,eL,mL,_,hL⟩:=hp.at (i:=ps.length-1) (by omega);rw[<- xl] at eL;have bL:=pb.b pL mL;obtain ⟨iL,hiL,eiL⟩:=List.getElem_of_mem mL;have gL:=pb.P.good.each iL pL (by rw[<- eiL];exact List.getElem?_eq_getElem hiL);have hB:Bd day:=⟨by omega,by omega⟩;refine ⟨_,(jB5 (jS 4 nd (jF (qdr T) hr (jA3 (pv 0) (pv 1) (pv 2)))) (jS 5 nd (qae qar (jF (qah T) hr (jA2 (pv 3) qaa)) qaa)) (qa7 (jC qec (pv 5) qaa) (qad (jS 4 nd (jF (qd3 T) hr (jA2 (pv 4) (jF (qdr T) hr (jA3 (pv 0) (pv 1) (qae qat (pv 2) (qae qar (qae qcd (pv 3) qaa) (qae qat (qae qbl qaa (jT (jI (pv 0) (qd5 qce qaa)) qaa)) qaa))))))))) qap) (qa7 (jC qec (pv 5) qaa) (jB2 (qm0 (jF (qe9 T) hr (jA2 (pv 0) (pv 3))) (jG2 (jN 6 nd) (jN 7 nd))) (jS 4 nd (jF (qd3 T) hr (jA2 (pv 4) (jF (qdr T) hr (jA3 (pv 6) (pv 7) (pv 2))))))) qap) (qak (pv 4))),?_⟩
  walk_at "r"
  refine ⟨l,xs,ps,g,day,rfl,hl,hp,pb.P,hB,λe H1 n1=>qan ?_⟩
  walk_at "r"
  intro m hm hm2
  walk_at "r"
  have hl1:=n1.same _ _ hl;have hp1:=hp.same n1.same;have hL1:=n1.same _ _ hL;have hEd:=(EdS.of pb.P hB).ed;have el:(eV ps g day).length=ps.length+1:=by unfold eV;simp
  have l5:=pb.P.good.hi;refine qew (λz=>?_) λz=>?_
  ·have z':m % 3=1:=by simpa using z
   have cm:CMulB 4 pL.2:=by
    unfold CMulB;omega
   walk_at "r"
   have hw:0<4*pL.2+9:=by omega
   have hk0:=Int.emod_nonneg (d / 3) (show 4*pL.2+9≠0 by omega);have hk1:=Int.emod_lt_of_pos (d / 3) hw
   generalize d / 3 % (4*pL.2+9)=k at hk0 hk1 ⊢
   have hB2:Bd (day+k):=⟨by omega,by omega⟩;refine qjo ⟨l,xs,ps,g,day+k,rfl,hl1,hp1,pb.P,hB2,λe2 H2 n2=>qjo ⟨e,e2,eV ps g day,eV ps g (day+k),rfl,n2.same _ _ n1.at_,n2.at_,hEd,(EdS.of pb.P hB2).ed,by unfold eV;simp,by omega,λe3 H3 n3=>qan ?_⟩⟩;obtain ⟨fs,fg,G⟩:=GivOk.of pb.P hB (EdS.of pb.P hB2) (Fall.of pb.P (day+k));have s13:=n2.same.trans n3.same
   walk_at "r"
   refine qew (λz=>?_) λz=>?_
   ·have z2:m % 3=2:=by simpa using z
    omega
   walk_at "r"
   exact q e3 _ fs fg H3 (n1.same.trans s13) (n1.same.free (n2.same.free n3.fresh)) n3.at_ G
  have z':m % 3≠1:=by simpa using z
  walk_at "r"
  refine qew (λz=>?_) λz=>?_
  ·walk_at "r"
   refine qjo ⟨l,xs,ps,g,d,rfl,hl1,hp1,pb,λt l2 ys qs g2 H2 s2 _ ht hl2 hq qb ew=>?_⟩;refine ⟨t,_,rfl,SqT.of ht,rfl,_,_,rfl,_,_,rfl,rfl,?_⟩;have ql:qs.length=ps.length:=by have:=congrArg List.length ew;rwa [List.length_map,List.length_map] at this
   have he2:=s2 _ _ n1.at_
   walk_at "r"
   refine qjo ⟨l2,ys,qs,g2,day,rfl,hl2,hq,qb.P,hB,λe2 H3 n3=>qjo ⟨e,e2,eV ps g day,eV qs g2 day,rfl,n3.same _ _ he2,n3.at_,hEd,(EdS.of qb.P hB).ed,by unfold eV;simp[ql],by omega,λe3 H4 n4=>qan ?_⟩⟩;have FQ:=Fall.of qb.P day;rw[ew] at FQ;obtain ⟨fs,fg,G⟩:=GivOk.of pb.P hB (EdS.of qb.P hB) FQ
   walk_at "r"
   exact q e3 _ fs fg H4 (n1.same.trans (s2.trans (n3.same.trans n4.same))) (n1.same.free (s2.free (n3.same.free n4.fresh))) n4.at_ G
  obtain ⟨fs,fg,G⟩:=GivOk.day pb.P hB
  walk_at "r"
  exact q e _ fs fg H1 n1.same n1.fresh n1.at_ G
inductive qlw (vs:List V) (H:Hp) (Q:VK) (E_:XK):Prop
 | mk:∀ (l:Addr) (ys:List V) (ks:List (List Int)),vs=[.ref l]->H l=some (.lst ys)->Tups H ys ks->Q (.bl true) H->qlw vs H Q E_
include T in
theorem qeq:qba P w K mg base 1 "_law_wholes" ["_law_rows"] qlw:=by
 obtain ⟨f,fd,F,hm⟩:=T.f__law_wholes;have nd:=sc__law_wholes.nd;refine F.def_ hm (F.ok sc__law_wholes (λvs H Q E h=>?_) (λcdv A outer s H vs Q E hr h=>?_)) (F.binds λ_ _ _ _ _ _ us hl=>by obtain ⟨_,rfl⟩:=L2.lq1 hl;rfl)
 ·obtain ⟨l,ys,ks,rfl,_⟩:=h;rfl
 ·obtain ⟨l,ys,ks,rfl,hl,hy,q⟩:=h
  refine ⟨_,(jB2 (qb8 PassesOwn.never rfl (qa8 (pv 0)) (jN 1 nd) (qad (qb8 PassesOwn.never rfl (qyd (pv 1)) (jN 2 nd) (qad (qa7 (PW.pt (qhl (qdt (qc4 (qai qcy rfl T.b_isinstance qaz (jA2 (pv 2) (qd4 (v:=.ty "int") rfl T.b_int qm9 rfl))))) (qfb (qc4 (qai qcy rfl T.b_isinstance qaz (jA2 (pv 2) (qd4 (v:=.ty "bool") rfl T.b_bool qqo rfl))))))) (qad (qak qet)) qap))))) (qak qet)),?_⟩;refine ⟨_,rfl,l,rfl,⟨_,SqL.of hl⟩,qb2 (xs:=ys) (λi σ H3=>H3=H/\∃ (a0 a1:Option V),σ=[some (.ref l),a0,a1]) ⟨rfl,none,none,rfl⟩ (λi σ H3 _ h3=>by rw[h3.1];exact SqL.of hl) ?_ ?_⟩
  ·rintro i x σ H3 hi ⟨rfl,a0,a1,rfl⟩
   obtain ⟨k,hk,p,rfl,hp⟩:=hy.get hi;refine qan ?_;refine ⟨_,rfl,p,rfl,⟨_,SqT.of hp⟩,qvv (xs:=k.map V.int) (λj σ H4=>H4=H3/\∃ (a0 a1:Option V),σ=[some (.ref l),some (.ref p),a1]) ⟨rfl,none,a1,rfl⟩ (λi σ H4 _ h4=>by rw[h4.1];exact SqT.of hp) ?_ ?_⟩
   ·rintro j x σ H4 hj ⟨rfl,b0,b1,rfl⟩
    rw[List.getElem?_map] at hj;obtain ⟨n,_,rfl⟩:=Option.map_eq_some_iff.mp hj;refine qan ?_;refine ⟨_,rfl,_,_,_,_,rfl,TyOf.int n,qd7 K,_,rfl,?_⟩;refine qdw ?_;refine ⟨_,rfl,_,_,_,_,rfl,TyOf.int n,qde K,_,rfl,?_⟩;exact qdw ⟨rfl,none,_,rfl⟩
   ·rintro σ H4 ⟨rfl,b0,b1,rfl⟩
    exact ⟨rfl,_,_,rfl⟩
  ·rintro σ H3 ⟨rfl,a0,a1,rfl⟩
   exact q
theorem qxu {F:Frag} {nv i j l m:Nat} (hi:i<nv) (hj:j<nv) (hl:l<nv) (hm:m<nv):qgi nv (qsx F 4 (qcl (qcr i) (qcl (qcr j) (qcl (qcr l) (qcl (qcr m) qsw))))):=λx σ H K ⟨a,xs,e,hq,hl',v,r,e1,v2,r2,e2,v3,r3,e3,v4,r4,e4,e5,q⟩ =>
 ⟨a,xs,e,hq,hl',v,r,e1,v2,r2,e2,v3,r3,e3,v4,r4,e4,e5,q,by simp,λk hk=>by rw[List.getElem?_set_ne (by omega),List.getElem?_set_ne (by omega),List.getElem?_set_ne (by omega),List.getElem?_set_ne (by omega)]⟩
theorem qhi {α β:Type} {R:α->β->Prop} {a0:α} {b0:β} {xs:List α} {ys:List β} (h:∀ (i:Nat) (x:α),xs[i]?=some x->∃ y,ys[i]?=some y/\R x y):∀ {idx:List Nat},(∀ i∈idx,i<xs.length)->Paired R (pick idx xs a0) (pick idx ys b0)
 | [],_=>.nil
 | i :: idx,hi=>by
  obtain ⟨y,e,r⟩:=h i _ (List.getElem?_eq_getElem (hi i List.mem_cons_self));have h2:=qhi (a0:=a0) (b0:=b0) h (idx:=idx) λj hj=>hi j (List.mem_cons_of_mem _ hj)
  refine .cons ?_ h2
  show R (xs.getD i a0) (ys.getD i b0)
  rw[List.getD_eq_getElem?_getD,List.getD_eq_getElem?_getD,e,List.getElem?_eq_getElem (hi i List.mem_cons_self)];exact r
theorem quh {α β:Type} {f:α->β} {d:α} {e:β} (h:f d=e) (idx:List Nat) (xs:List α):(pick idx xs d).map f=pick idx (xs.map f) e:=by
 unfold pick;rw[List.map_map];refine List.map_congr_left λi _=>?_
 show f (xs.getD i d)=(xs.map f).getD i e
 rw[List.getD_eq_getElem?_getD,List.getD_eq_getElem?_getD,List.getElem?_map,<- h]
 cases xs[i]?<;>rfl
def qxv (NM:List NmR) (RS:List (List Nat×Rd3)) (cell:Int->Option (Int×Int)) (rows:List TR):Prop:=rows.map (·.1)=qby (NM.map (·.1))/\∀ r∈rows,∃ ms,(r.1,ms)∈NM/\r.2.1=qby ms/\r.2.2=qdh cell (qin RS r.1)
inductive qoe (vs:List V) (H:Hp) (Q:VK) (E_:XK):Prop
 | mk:∀ (e:Addr) (EV:List V) (es:List Int) (ge:Option Int) (l:Addr) (xs:List V) (ps:List (Int×Int)) (lnm lrd:Addr) (ys zs:List V) (NM:List NmR) (RS:List (List Nat×Rd3)),vs=[.ref l,.ref e,.ref lnm,.ref lrd]->H e=some (.lst EV)->EdS EV es ge->es.length=ps.length->H l=some (.lst xs)->Pairs H xs ps->qrx ps->1<=ps.length->ps.length<=5->Good ps->H lnm=some (.lst ys)->NmsAt H ys NM->NmOk NM->(∀ n∈NM,n.2.length<=60)->H lrd=some (.lst zs)->RdNs H zs RS->RS.length<=40->(∀ r∈RS,qje r.2.1/\qpq r.2.2)->(∀ lf ws rows H',Same H H'->H' lf=some (.lst ws)->TRowsA H' ws rows->(∀ l∈lf :: lsA rows,H l=none)->qxv NM RS (qct (ps.map (·.2)) es ge) (rows.map (·.1))->Q (.ref lf) H')->qoe vs H Q E_
include T in
theorem qpl:qba P w K mg base 3 "_law_due" ["_law_steps", "_law_edges_here", "_law_names", "_law_readings_here"] qoe:=by
 obtain ⟨f,fd,F,hm⟩:=T.f__law_due;have nd:=sc__law_due.nd;refine F.def_ hm (F.ok sc__law_due (λvs H Q E h=>?_) (λcdv A outer s H vs Q E hr h=>?_)) (F.binds λ_ _ _ _ _ _ us hl=>by obtain ⟨_,_,_,_,rfl⟩:=L2.lq4 hl;rfl)
 ·obtain ⟨e,EV,es,ge,l,xs,ps,lnm,lrd,ys,zs,NM,RS,rfl,_⟩:=h;rfl
 ·obtain ⟨e,EV,es,ge,l,xs,ps,lnm,lrd,ys,zs,NM,RS,rfl,he,E,hn5,hl,hp,S',h1,h5,G,hnm,tnm,nok,m60,hrd,trd,r40,rok,q⟩:=h
  have nl:=tnm.length;have n20:=nok.ln;have zl:zs.length=RS.length:=trd.length;refine ⟨_,(jB3 (jS 4 nd (qay qbn)) (qb8 PassesOwn.never rfl (qa8 (qai qki rfl T.b_sorted qb3 (jA1 (pv 2)))) (jG2 (qga (i:=5) nd rfl (Or.inr rfl)) (jN 6 nd)) (jB3 (qef (i:=7) (vars:=[ "_law_one", "_law_time_here", "_law_value_here", "_law_many_here" ]) (frees:=[ "_law_name_here" ]) (fv:=[5]) nd rfl (Or.inl rfl) rfl (jL1 rfl) ⟨⟨rfl,.inl rfl,rfl,.inl rfl⟩,trivial⟩ (qa8 (pv 3)) (qxu (by decide) (by decide) (by decide) (by decide)) (λ_ _ _ _=>(jG4 (jM 0 [ "_law_one", "_law_time_here", "_law_value_here", "_law_many_here", "_law_name_here" ]) (jM 1 [ "_law_one", "_law_time_here", "_law_value_here", "_law_many_here", "_law_name_here" ]) (jM 2 [ "_law_one", "_law_time_here", "_law_value_here", "_law_many_here", "_law_name_here" ]) (jM 3 [ "_law_one", "_law_time_here", "_law_value_here", "_law_many_here", "_law_name_here" ]))) (λ_ _ _ _=>(qi3 (jC qec (pv 0) (pv 4)))) (λ_ _ _ _=>(qaq (jA3 (pv 1) (pv 2) (pv 3))))) (qm0 (jF (qmw T) hr (jA3 (pv 0) (pv 1) (pv 7))) (jG2 (jN 8 nd) (jN 9 nd))) (qa4 (qee PySem.F.plainAttrs_list PySem.F.slot_list_append PySem.F.type_list_append qbd (pv 4) (jA1 (qaq (jA4 (pv 5) (qai qej rfl T.b_sorted qb3 (jA1 (pv 6))) (pv 8) (pv 9)))))))) (qak (pv 4))),?_⟩;refine qc8 λN hN=>?_
  refine ⟨Nat.zero_le _,λlf H1 n1=>qan (hN _ _ ?_)⟩;refine qes (σ':=[some (.ref l),some (.ref e),some (.ref lnm),some (.ref lrd),some (.ref lf),none,none,none,none,none]) rfl ?_;refine qc8 λN hN=>?_
  refine ⟨_,rfl,lnm,ys,NM.map (·.1),rfl,SqL.of (n1.same _ _ hnm),by rw[nl,List.length_map],?_,by rw[List.length_map];omega,nok.nd,?_,λidx ln H2 pi pw n2=>?_⟩
  ·intro i x k hx hk
   obtain ⟨n,hn,a,lm,rfl,ha,_⟩:=tnm.get hx;rw[List.getElem?_map,hn] at hk;cases hk;exact ⟨a,_,rfl,n1.same _ _ ha⟩
  ·intro k hk
   obtain ⟨n,hn,rfl⟩:=List.mem_map.mp hk;have:=(nok.sm n hn).1;intro z;rw[z] at this
   simp at this
  have ilt:∀ i∈idx,i<ys.length:=λi hi=>by
   have:=List.mem_range.mp (pi.mem_iff.mp hi);rw[List.length_map] at this;omega
  have tn:NmsAt H (pick idx ys .non) (pick idx NM ([],[])):=qhi (λi x hx=>tnm.get hx) ilt;have ep:=quh (f:=λn:NmR=>n.1) (d:=([],[])) rfl idx NM;rw[<- ep] at pw;have pp:(pick idx NM ([],[])).Perm NM:=qgm (by rwa [List.length_map] at pi);have es':(pick idx NM ([],[])).map (·.1)=qby (NM.map (·.1)):=qns (pp.map _) (pw.imp fun {a b} h=>decide_eq_true (List.le_of_lt (of_decide_eq_true h)));have sub:∀ n∈pick idx NM ([],[]),n∈NM:=λn hn=>pp.mem_iff.mp hn
  have pl:=pp.length_eq
  generalize pick idx NM ([],[])=NS at tn ep es' sub pp pl pw
  generalize pick idx ys .non=yS at tn n2
  clear pw pp ep pi;have s02:=n1.same.trans n2.same;have hlf2:=n2.same _ _ n1.at_;have nlf:ln≠lf:=λz=>by have:=n2.fresh;rw[z,n1.at_] at this;cases this
  have yl:=tn.length
  generalize ec:qct (ps.map (·.2)) es ge=cell at q
  refine ⟨ln,rfl,⟨_,SqL.of n2.at_⟩,qb2 (xs:=yS) (λj σ H'=>∃ (ws:List V) (rows:List TRA) (v5 v6 v7 v8 v9:Option V),Same H H'/\H' ln=some (.lst yS)/\H' lf=some (.lst ws)/\TRowsA (rmS H' [lf]) ws rows/\(∀ l∈lf :: lsA rows,H l=none)/\rows.map (·.1.1)=(NS.map (·.1)).take j/\(∀ r∈rows,∃ ms,(r.1.1,ms)∈NM/\r.1.2.1=qby ms/\r.1.2.2=qdh cell (qin RS r.1.1))/\σ=[some (.ref l),some (.ref e),some (.ref lnm),some (.ref lrd),some (.ref lf),v5,v6,v7,v8,v9]) ⟨[],[],none,none,none,none,none,s02,n2.at_,hlf2,.nil,(λl hl=>by rw[List.mem_singleton.mp hl];exact n1.fresh),rfl,(λr hr=>by cases hr),rfl⟩ (λi σ H3 _ h3=>by obtain ⟨_,_,_,_,_,_,_,_,h,_⟩:=h3;exact SqL.of h) ?_ ?_⟩
  ·rintro j x' σ H3 hxj ⟨ws,rows,v5,v6,v7,v8,v9,s3,hln,hlf,tr,fa,nm,en,rfl⟩
   obtain ⟨n,hnj,a,lm,rfl,ha,hlm⟩:=tn.get hxj;have hnm':=sub n (List.mem_of_getElem? hnj);obtain ⟨x,ms⟩:=n;have rl:rows.length<=20:=by
    have:=congrArg List.length nm;rw[List.length_map,List.length_take,List.length_map] at this;omega
   refine ⟨a,_,rfl,SqT.of (s3 _ _ ha),rfl,_,_,rfl,_,_,rfl,rfl,?_⟩;refine qes (σ':=[some (.ref l),some (.ref e),some (.ref lnm),some (.ref lrd),some (.ref lf),some (tS x),some (.ref lm),v7,v8,v9]) rfl ?_;refine qc8 λN hN=>?_
   have rlen:=qf7 RS x;refine ⟨_,rfl,lrd,rfl,⟨_,SqL.of (s3 _ _ hrd)⟩,qca (xs:=zs) (λi vs H2=>Same H3 H2/\Tups H2 vs ((qin (RS.take i) x).map l3)) (qbf (by omega)) ⟨Same.refl _,.nil⟩ (λi vs H2 h2=>⟨SqL.of (h2.1 _ _ (s3 _ _ hrd)),by rw[h2.2.length,List.length_map];have:=qf7 (RS.take i) x;rw[List.length_take] at this;omega⟩) ?_ ?_⟩
   ·rintro i y vs H6 hi ⟨s6,t6⟩
    obtain ⟨t,hti,a,rfl,ha⟩:=trd.get hi;refine ⟨a,_,rfl,SqT.of (s6 _ _ (s3 _ _ ha)),rfl,_,_,rfl,_,_,rfl,_,_,rfl,_,_,rfl,rfl,?_⟩;have e1:(qin (RS.take (i+1)) x).map l3=(qin (RS.take i) x).map l3 ++ if t.1=x then [l3 t.2] else []:=by
     rw[List.take_add_one,hti]
     show (qin (RS.take i ++ [t]) x).map l3=_
     rw[qls]
     by_cases h:t.1=x
     ·rw[if_pos h,if_pos h.symm,List.map_append];rfl
     ·rw[if_neg h,if_neg (λz=>h z.symm),List.append_nil]
    refine ⟨_,rfl,_,rfl,rfl,_,rfl,?_⟩;refine qew (λz=>?_) λz=>?_
    ·have h:t.1=x:=qc7 (of_decide_eq_true z)
     refine ⟨_,rfl,_,rfl,_,rfl,qbf (by simp),λta H7 n7=>⟨s6.trans n7.same,?_⟩⟩;rw[e1,if_pos h];exact Tups.snoc (r:=l3 t.2) ⟨ta,rfl,n7.at_⟩ (t6.same n7.same)
    ·have h:¬ t.1=x:=λh=>by rw[h] at z;simp at z
     refine ⟨s6,?_⟩;rw[e1,if_neg h,List.append_nil];exact t6
   rintro vs H4 lm4 H5 ⟨s4,t4⟩ n5;rw[zl,List.take_length] at t4;have s35:=s4.trans n5.same;have s05:=s3.trans s35;refine qan (hN _ _ ?_);refine qes (σ':=[some (.ref l),some (.ref e),some (.ref lnm),some (.ref lrd),some (.ref lf),some (tS x),some (.ref lm),some (.ref lm4),v8,v9]) rfl ?_;refine qc8 λN hN=>?_
   refine ⟨_,rfl,_,rfl,_,rfl,e,EV,es,ge,l,xs,ps,lm4,vs,qin RS x,rfl,s05 _ _ he,E,hn5,s05 _ _ hl,hp.same s05,S',h1,h5,G,n5.at_,t4.same n5.same,by omega,λr hr=>?_,λp l1 l2 xs1 xs2 H6 s6 f1 f2 hp6 hl1 t1 hl2 t2 _ _=>?_⟩
   ·unfold qin at hr
    obtain ⟨r',hr',rfl⟩:=List.mem_map.mp hr;exact rok r' (List.mem_filter.mp hr').1
   refine ⟨p,_,rfl,SqT.of hp6,rfl,_,_,rfl,_,_,rfl,rfl,hN _ _ ?_⟩;refine qes (σ':=[some (.ref l),some (.ref e),some (.ref lnm),some (.ref lrd),some (.ref lf),some (tS x),some (.ref lm),some (.ref lm4),some (.ref l1),some (.ref l2)]) rfl ?_;rw[ec] at t1 t2;have s36:=s35.trans s6;have s06:=s3.trans s36;refine ⟨_,rfl,.inl ⟨rfl,_,SqL.of (s36 _ _ hlf)⟩,_,rfl,_,rfl,lm,ms,rfl,SqL.of (s06 _ _ hlm),Nat.lt_of_le_of_lt (m60 _ hnm') (by omega),λls H7 n7=>?_⟩;refine ⟨_,rfl,_,rfl,qbf (by simp),λta H8 n8=>?_⟩;have s38:=s36.trans (n7.same.trans n8.same);have hlf8:=s38 _ _ hlf;refine ⟨lf,ws,_,rfl,rfl,hlf8,qam (by have:=tr.length;omega),λH9 b9 h9=>?_⟩;have nf:∀ {c:Addr} {G:Hp},Same H3 G->G c=none->c ∉ [lf]:=fun {c G} sg hc z=>by
    rw[List.mem_singleton.mp z,sg _ _ hlf] at hc;cases hc
   have up:∀ {c:Addr} {o:HO},H8 c=some o->c ∉ [lf]->rmS H9 [lf] c=some o:=fun {c o} e n=>qbe (b9 _ _ e (λz=>n (List.mem_singleton.mpr z))) n
   have tu:∀ {vs:List V} {rs:List (List Int)},Tups H8 vs rs->Tups (rmS H9 [lf]) vs rs:=λt=>t.tupS λc xs e=>up e (λz=>by rw[List.mem_singleton.mp z,hlf8] at e;cases e)
   have s68:=n7.same.trans n8.same;refine ⟨_,rows ++ [((x,qby ms,qdh cell (qin RS x)),ls,l1,l2)],_,_,_,_,_,b9.same (s3.trans s38) n1.fresh,?_,h9,?_,?_,?_,λr hr=>?_,rfl⟩
   ·exact b9 _ _ (s38 _ _ hln) nlf
   ·refine TRowsA.snoc ⟨ta,xs1,xs2,rfl,up n8.at_ (nf (s36.trans n7.same) n8.fresh),up (n8.same _ _ n7.at_) (nf s36 n7.fresh),up (s68 _ _ hl1) (nf s35 f1),tu (t1.same s68),up (s68 _ _ hl2) (nf s35 f2),tu (t2.same s68)⟩ (tr.same ?_)
    exact λc o e=>up (s38 _ _ (qbi e).1) (qbi e).2
   ·intro l' hl'
    rw[qf8,<- List.cons_append] at hl'
    rcases List.mem_append.mp hl' with z|z
    ·exact fa l' z
    ·simp only[List.mem_cons,List.not_mem_nil,or_false] at z
     rcases z with z|z|z
     ·rw[z];exact s3.free (s36.free n7.fresh)
     ·rw[z];exact s3.free (s35.free f1)
     ·rw[z];exact s3.free (s35.free f2)
   ·rw[List.map_append,nm,List.take_add_one,List.getElem?_map,hnj];rfl
   ·rcases List.mem_append.mp hr with z|z
    ·exact en r z
    ·rw[List.mem_singleton.mp z];exact ⟨ms,hnm',rfl,rfl⟩
  ·rintro σ H3 ⟨ws,rows,v5,v6,v7,v8,v9,s3,hln,hlf,tr,fa,nm,en,rfl⟩
   have ey:yS.length=(NS.map (·.1)).length:=by rw[List.length_map];exact yl
   rw[ey,List.take_length,es'] at nm;refine hN _ _ ⟨_,rfl,q lf ws rows H3 s3 hlf (tr.same qc3) fa ⟨by rw[List.map_map];exact nm,λr hr=>?_⟩⟩;obtain ⟨r',hr',rfl⟩:=List.mem_map.mp hr;exact en r' hr'
theorem qlx (B:List NmR):∀ (A:List NmR) (seen:List (List Nat)),qb7 seen A=0->qb7 seen (A ++ B)=qb7 (seen ++ A.map (·.1)) B
 | [],seen,_=>by simp
 | n :: A,seen,h=>by
  rw[List.cons_append];unfold qb7 at h
  conv=>lhs;unfold qb7
  by_cases h1:¬ qas 12 n.1\/n.1∈seen
  ·rw[if_pos h1] at h;cases h
  ·rw[if_neg h1] at h ⊢
   by_cases h2:qbm (n.2.map tS)
   ·rw[if_pos h2] at h ⊢
    rw[qlx B A _ h]
    simp
   ·rw[if_neg h2] at h;cases h
theorem qof:∀ {A:List NmR} {seen:List (List Nat)},(A.map (·.1)).Nodup->(∀ n∈A,qas 12 n.1/\qbm (n.2.map tS))->(∀ n∈A,n.1 ∉ seen)->qb7 seen A=0
 | [],_,_,_,_=>by unfold qb7;rfl
 | n :: A,seen,nd,ok,ns=>by
  rw[List.map_cons,List.nodup_cons] at nd;have o:=ok n List.mem_cons_self;unfold qb7;rw[if_neg (λz=>z.elim (λw=>w o.1) (ns n List.mem_cons_self)),if_pos o.2];refine qof nd.2 (λm hm=>ok m (List.mem_cons_of_mem _ hm)) λm hm z=>?_
  rcases List.mem_append.mp z with z|z
  ·exact ns m (List.mem_cons_of_mem _ hm) z
  ·exact nd.1 (by rw[<- List.mem_singleton.mp z];exact List.mem_map.mpr ⟨m,hm,rfl⟩)
theorem NmOk.out {NM:List NmR} (h:NmOk NM):qb7 [] NM=0:=qof h.nd (λn hn=>⟨h.sm n hn,h.mm n hn⟩) λn _ z=>by cases z
theorem qmx {NM:List NmR} (h:NmOk NM) {n:NmR} (hn:n∈NM):qb7 [] (NM ++ [n])=1:=by
 rw[qlx _ _ _ h.out];unfold qb7;rw[if_pos (.inr (by rw[List.nil_append];exact List.mem_map.mpr ⟨n,hn,rfl⟩))]
theorem qmy {NM:List NmR} {x:List Nat} {ms:List (List Nat)} (hx:qas 12 x) (hm:¬ qbm (ms.map tS)):qb7 [] ((x,ms) :: NM)=2:=by
 unfold qb7;rw[if_neg (λz=>z.elim (λw=>w hx) (λw=>by cases w)),if_neg hm]
theorem qer (ns:List (List Nat)) (B:List (List Nat×Rd3)):∀ (A:List (List Nat×Rd3)),(∀ r∈A,(qas 12 r.1/\r.1∈ns)/\1<=r.2.2.2)->qds ns (A ++ B)=qds ns B
 | [],_=>rfl
 | r :: A,h=>by
  have o:=h r List.mem_cons_self;rw[List.cons_append]
  conv=>lhs;unfold qds
  rw[if_pos o.1,if_neg (by have:=o.2;omega)];exact qer ns B A λq hq=>h q (List.mem_cons_of_mem _ hq)
theorem qpm {ns:List (List Nat)} {r:List Nat×Rd3} (h:r.1 ∉ ns):qds ns [r]=1:=by
 unfold qds;rw[if_neg λz=>h z.2]
theorem qpn {ns:List (List Nat)} {r:List Nat×Rd3} (h:qas 12 r.1/\r.1∈ns) (h1:r.2.2.2<1):qds ns [r]=3:=by
 unfold qds;rw[if_pos h,if_pos h1]
theorem qxw {c:List Nat} {b:List Nat} {T:List (List Nat)} (nd:c.Nodup) (h:T.length<c.length):(c.filter λx=>decide (x :: b ∉ T))≠[]:=λz=>by
 rw[List.filter_eq_nil_iff] at z;have sub:c.map (λx=>x :: b) ⊆ T:=λy hy=>by
  obtain ⟨x,hx,rfl⟩:=List.mem_map.mp hy
  simpa using z x hx
 have nd2:(c.map (λx=>x :: b)).Nodup:=by
  rw[List.nodup_iff_pairwise_ne,List.pairwise_map];exact (List.nodup_iff_pairwise_ne.mp nd).imp λhne e=>hne (List.cons.inj e).1
 have:=List.Nodup.length_le_of_subset nd2 sub;rw[List.length_map] at this;omega
structure F74 (R:Addr) (ru rl e lnm lrd:Addr) (ps:List (Int×Int)) (g:Option Int) (EV ys zs:List V) (NM:List NmR) (RS:List (List Nat×Rd3)) (H:Hp):Prop where
 ru:RuleAt R H ru rl ps g
 he:H e=some (.lst EV)
 hnm:H lnm=some (.lst ys)
 tnm:NmsAt H ys NM
 hrd:H lrd=some (.lst zs)
 trd:RdNs H zs RS
theorem F74.same {R:Addr} {ru rl e lnm lrd:Addr} {ps:List (Int×Int)} {g:Option Int} {EV ys zs:List V} {NM:List NmR} {RS:List (List Nat×Rd3)} {H H':Hp} (h:F74 R ru rl e lnm lrd ps g EV ys zs NM RS H) (s:Same H H'):F74 R ru rl e lnm lrd ps g EV ys zs NM RS H':=
 ⟨h.ru.same s,s _ _ h.he,s _ _ h.hnm,h.tnm.same s,s _ _ h.hrd,h.trd.tupS λ_ _ e=>s _ _ e⟩
structure G74 (ps:List (Int×Int)) (g:Option Int) (day:Int) (EV:List V) (fs:List Int) (fg:Option Int) (NM:List NmR) (RS:List (List Nat×Rd3)) (L:Nat):Prop where
 P:Pr ps g
 wb:∀ p∈ps,p.2<=10 ^ 35
 hd:Bd day
 ev:qA3 ps g day EV fs fg
 ed:∀ v∈EV,Ed v
 el:EV.length=ps.length+1
 nok:NmOk NM
 lo:1<=NM.length
 hi:NM.length<=4
 len:∀ n∈NM,n.1.length=L
 rl:RS.length<=16
 rs:∀ r∈RS,(r.1∈NM.map (·.1))/\qje r.2.1/\RLt r.2
theorem G74.nmT {ps:List (Int×Int)} {g:Option Int} {day:Int} {EV:List V} {fs:List Int} {fg:Option Int} {NM:List NmR} {RS:List (List Nat×Rd3)} {L:Nat} (h:G74 ps g day EV fs fg NM RS L):∀ n∈NM,n.1.length<=3000/\n.2.length<=60/\∀ m∈n.2,m.length<=3000:=λn hn=>by
 have a:=(h.nok.sm n hn).2.1;have b:=h.nok.mm n hn;have c:=b.2.2;rw[List.length_map] at c;refine ⟨by omega,by omega,λm hm=>?_⟩;have d:=b.1 (tS m) (List.mem_map.mpr ⟨m,hm,rfl⟩);rw[qcp] at d;have:=(of_decide_eq_true d).2.1;omega
theorem NmT.of {NM:List NmR} (h:∀ n∈NM,n.1.length<=3000/\n.2.length<=60/\∀ m∈n.2,m.length<=3000) (l:NM.length<=20):NmT NM:=⟨λn hn=>(h n hn).1,λn hn=>(h n hn).2,l⟩
theorem qf9 {α β:Type} {R:α->β->Prop} {us:List α} {vs:List β} (h:Paired R us vs):∀ {xs:List α} {ys:List β},Paired R xs ys->Paired R (xs ++ us) (ys ++ vs)
 | _,_,.nil=>h
 | _,_,.cons a t=>.cons a (qf9 h t)
theorem qog (x:List Nat) (k:Nat):slS (S x) none (some (k:Int))=S (x.take k):=by
 by_cases h:k<=x.length
 ·exact qmd x h
 ·have e:=qnp x (Nat.zero_le x.length) (Nat.le_refl _) (lo:=none) (hi:=some (k:Int)) (by
   rw[qbo];unfold PySem.Builtin.Str.strSliceIndices;dsimp only
   congr 1<;>(repeat' split)<;>omega)
  rw[e,List.drop_zero,Nat.sub_zero,List.take_of_length_le (Nat.le_refl _),List.take_of_length_le (by omega)]
theorem qjp (x:List Nat) (k:Nat) (h0:0<k):slS (S x) (some (-(k:Int))) none=S (x.drop (x.length-k)):=by
 have e:=qnp x (Nat.sub_le x.length k) (Nat.le_refl _) (lo:=some (-(k:Int))) (hi:=none) (by
  rw[qbo];unfold PySem.Builtin.Str.strSliceIndices;dsimp only
  congr 1<;>(repeat' split)<;>omega)
 rw[e,List.take_of_length_le (by simp)]
theorem qAb (v:V) (t:List V):qj2 (v :: t) none (some 1)=[v]:=by rw[show (1:Int)=((1:Nat):Int) from rfl,qB7 _ 1 (by simp)];rfl
theorem qAc (xs:List V) (h:1<=xs.length):qj2 xs (some 1) none=xs.drop 1:=by rw[show (1:Int)=((1:Nat):Int) from rfl,qxc _ 1 h]
theorem qAd {v:V} {t:List V}:atI (v :: t) 0=some v:=qdc (j:=0) rfl
theorem qxx (w:List Nat) (ms:List (List Nat)):inV (tS w) (ms.map tS)=decide (w∈ms):=by
 unfold inV;rw[Bool.eq_iff_iff,List.any_eq_true,decide_eq_true_iff]
 constructor
 ·rintro ⟨v,hv,e⟩
  obtain ⟨m,hm,rfl⟩:=List.mem_map.mp hv;have e2:S m=S w:=beq_iff_eq.mp e;rw[<- qre e2];exact hm
 ·intro h
  exact ⟨tS w,List.mem_map.mpr ⟨w,h,rfl⟩,beq_iff_eq.mpr rfl⟩
theorem qso (ms:List (List Nat)):(ms.map tS).all qiw=true:=List.all_eq_true.mpr λv hv=>by
 obtain ⟨m,_,rfl⟩:=List.mem_map.mp hv;rfl
theorem qpo {R ru rl e' lnm lrd:Addr} {ps:List (Int×Int)} {g:Option Int} {day:Int} {EV EV' ys zs:List V} {fs:List Int} {fg:Option Int} {NM NM':List NmR} {RS RS':List (List Nat×Rd3)} {L:Nat} {H:Hp} {Q:VK} {E:XK} {c:Nat} {w:Str} (G:G74 ps g day EV fs fg NM RS L) (F:F74 R ru rl e' lnm lrd ps g EV' ys zs NM' RS' H) (ed:∀ v∈EV',Ed v) (ev:EV'.length=ps.length+1->EV'=EV) (nt:NmT NM') (rt:RdT RS') (hc:qjs ps EV' NM' RS'=c) (hw:qz5 c=w) (k:∀ H',Same H H'->Q (.str w) H'):qe8 R [.ref ru,.int day,.ref e',.ref lnm,.ref lrd] H Q E:=
 ⟨ru,rl,e',lnm,lrd,ps,g,day,EV',fs,fg,ys,zs,NM',RS',rfl,F.ru,G.P,G.wb,G.hd,F.he,ed,λh=>by rw[ev h];exact G.ev,F.hnm,F.tnm,nt,F.hrd,F.trd,rt,λH' s=>by rw[hc,hw];exact k H' s⟩
theorem qoh {ps:List (Int×Int)} {EV:List V} {NM:List NmR} {RS:List (List Nat×Rd3)} (h:EV.length≠ps.length+1):qjs ps EV NM RS=4:=by
 unfold qjs;rw[if_neg h]
theorem qui:Str.ofString "x" = S [120]:=by decide +kernel
theorem qAe:Str.ofString "y" = S [121]:=by decide +kernel
theorem qAf:Str.ofString "abcdefgh" = S [97,98,99,100,101,102,103,104]:=by decide +kernel
def qsp (x:List Nat):List Nat:=(x ++ [120]).drop ((x ++ [120]).length-12) ++ [121]
theorem qAg (x:List Nat):slS (S x ++ Str.ofString "x") (some (-12)) none ++ Str.ofString "y" = S (qsp x):=by
 rw[qui,qi7,qAe,show (-12:Int) = -((12:Nat):Int) from rfl,qjp _ 12 (by decide),qi7];rfl
theorem qxy (x:List Nat) (h:x.length<=12):(qsp x).length≠x.length/\(qsp x).length<=13:=by
 unfold qsp;rw[List.length_append,List.length_drop,List.length_append];simp only[List.length_cons,List.length_nil];omega
def hotL:List (List Nat):=[[104,111,116],[99,111,108,100],[104,111,116]]
def nineL:List (List Nat):=[[97],[98],[99],[100],[101],[102],[103],[104],[105]]
def capL:List (List Nat):=[[72,111,116]]
def qA4 (ms:List (List Nat)):Prop:=¬ qbm (ms.map tS)/\ms.length<=60/\∀ m∈ms,m.length<=3000
theorem qxz:qA4 hotL:=⟨λh=>by have:=h.2.1;simp[hotL] at this,by decide,by decide⟩
theorem quj:qA4 nineL:=⟨λh=>by have:=h.2.2;simp[nineL] at this,by decide,by decide⟩
theorem qx0:qA4 capL:=⟨λh=>by
 have:=h.1 (tS [72,111,116]) (by simp[capL]);rw[qcp] at this;have:=(of_decide_eq_true this).2.2 72 (by simp);omega,by decide,by decide⟩
theorem qAh:[V.str (Str.ofString "hot"),.str (Str.ofString "cold"),.str (Str.ofString "hot")]=hotL.map tS:=by
 rw[show Str.ofString "hot" = S [104,111,116] by decide +kernel,show Str.ofString "cold" = S [99,111,108,100] by decide +kernel];rfl
theorem qx1:([Str.ofString "a",Str.ofString "b",Str.ofString "c",Str.ofString "d",Str.ofString "e",Str.ofString "f",Str.ofString "g",Str.ofString "h",Str.ofString "i"]:List Str).map V.str=nineL.map tS:=by
 rw[show ([Str.ofString "a",Str.ofString "b",Str.ofString "c",Str.ofString "d",Str.ofString "e",Str.ofString "f",Str.ofString "g",Str.ofString "h",Str.ofString "i"]:List Str)=nineL.map S by decide +kernel,List.map_map];rfl
theorem qAi:[V.str (Str.ofString "Hot")]=capL.map tS:=by
 rw[show Str.ofString "Hot" = S [72,111,116] by decide +kernel];rfl
theorem qD0 {a b c:Addr} {j:Nat} {y:V} {P:Addr->Prop} (h:[V.ref a,.ref b,.ref c][j]?=some y) (ha:P a) (hb:P b) (hc:P c):∃ l,y=.ref l/\P l:=by
 rcases List.mem_cons.mp (List.mem_of_getElem? h) with z|z
 ·exact ⟨a,z,ha⟩
 ·rcases List.mem_cons.mp z with z|z
  ·exact ⟨b,z,hb⟩
  ·exact ⟨c,List.mem_singleton.mp z,hc⟩
theorem qx2 {X:Cx} {tg:Expr} {es:List Expr} {lp:Pos} {body:List Stmt} {t:TA} {g:TG} {tb:TS} {pos:Pos} (hp:PassesOwn (model X.prog X.w) X.A X.env X.xe) (hc:X.calm=true) (ha:PA X es t) (hg:PG X tg g) (hb:PSs X body tb):PS X (.For tg (.List es lp) body [] pos) (qCi (qsy X.K (qwe t)) g tb):=qb8 hp hc (qa8 (qay ha)) hg hb (λ_=>rfl)
inductive qhj (R:Addr) (vs:List V) (H:Hp) (Q:VK) (E_:XK):Prop
 | mk:∀ (ru rl e lnm lrd:Addr) (ps:List (Int×Int)) (g:Option Int) (day:Int) (EV:List V) (fs:List Int) (fg:Option Int) (ys zs:List V) (NM:List NmR) (RS:List (List Nat×Rd3)) (L:Nat),vs=[.ref ru,.int day,.ref e,.ref lnm,.ref lrd]->F74 R ru rl e lnm lrd ps g EV ys zs NM RS H->G74 ps g day EV fs fg NM RS L->(∀ H',Same H H'->Q (.bl true) H')->qhj R vs H Q E_
include T in
theorem qhk:qba P w K mg base 10 "_law_refusals" ["_law_made", "_law_day", "_law_edges_here", "_law_names", "_law_readings_here"] (qhj C_Rule):=by
 obtain ⟨f,fd,F,hm⟩:=T.f__law_refusals;have nd:=sc__law_refusals.nd;refine F.def_ hm (F.ok sc__law_refusals (λvs H Q E h=>?_) (λcdv A outer s H vs Q E hr h=>?_)) (F.binds λ_ _ _ _ _ _ us hl=>by obtain ⟨_,_,_,_,_,rfl⟩:=L2.lq5 hl;rfl)
 ·obtain ⟨ru,rl,e,lnm,lrd,ps,g,day,EV,fs,fg,ys,zs,NM,RS,L,rfl,_⟩:=h;rfl
 ·obtain ⟨ru,rl,e,lnm,lrd,ps,g,day,EV,fs,fg,ys,zs,NM,RS,L,rfl,F,G,q⟩:=h
  obtain ⟨n0,NT,rfl⟩:∃ n0 NT,NM=n0 :: NT:=by
   cases NM with
   | nil=>exact absurd G.lo (by decide)
   | cons a t=>exact ⟨a,t,rfl⟩
  obtain ⟨y0,yt,rfl⟩:∃ y0 yt,ys=y0 :: yt:=by
   cases ys with
   | nil=>have:=F.tnm.length;cases this
   | cons a t=>exact ⟨a,t,rfl⟩
  have yl:=F.tnm.length;have zl:zs.length=RS.length:=F.trd.length;have g4:=G.hi;have g16:=G.rl;have p5:=G.P.good.hi;have p1:=G.P.good.lo;have m0:n0∈n0 :: NT:=List.mem_cons_self;have sm0:=G.nok.sm n0 m0;have x12:=sm0.2.1;obtain ⟨_,hn0,a0,l0,rfl,ha0,hl0⟩:=F.tnm.get (i:=0) (y:=y0) rfl;cases hn0;refine ⟨_,(qDi (qht (i:=5) nd rfl (Or.inr rfl) (jT (jI (pv 3) qaa) qaa)) (jS 6 nd (qae qbs (qbq qgo (qae qbs (pv 5) qbb) (qb0 (qd5 qce qaa)) qcf) qbb)) (qa7 (jC qjv (jF (qbg T) hr (jA5 (pv 0) (pv 1) (qbq qeg (pv 2) (qb0 qaa) qcf) (qae qc0 (pv 3) (qbq qeg (pv 3) qcf (qb0 qaa))) (qay qbn))) qbb) (qad (qak qet)) qap) (qa7 (jC qjv (jF (qbg T) hr (jA5 (pv 0) (pv 1) (qae qc0 (pv 2) (qay (jA1 qbj))) (pv 3) (pv 4))) qbb) (qad (qak qet)) qap) (qht (i:=7) nd rfl (Or.inr rfl) (qdf (vars:=[ "_law_one", "_law_marks" ]) (frees:=[]) (fv:=[]) rfl (jL0 rfl) trivial (qa8 (pv 3)) (qci (by decide) (by decide)) (λ_ _ _ _=>(jG2 (jM 0 [ "_law_one", "_law_marks" ]) (jM 1 [ "_law_one", "_law_marks" ]))) (λ_ _ _ _=>qa5) (λ_ _ _ _=>(pv 0)))) (jS 8 nd (jI (qdf (vars:=[ "_law_sign" ]) (frees:=[ "_law_taken", "_law_name_here" ]) (fv:=[7,5]) rfl (jL2 rfl) ⟨⟨rfl,.inl rfl,rfl,.inl rfl⟩,⟨⟨rfl,.inl rfl,rfl,.inl rfl⟩,trivial⟩⟩ (qu3 qbb) (qco (by decide)) (λ_ _ _ _=>(jM 0 [ "_law_sign", "_law_taken", "_law_name_here" ])) (λ_ _ _ _=>(qi3 (ql3 (show OpR _ _ (rIn K true) from qj4) (qae qbs (pv 0) (qbq qgo (pv 2) qcf (qb0 qaa))) (pv 1) rfl))) (λ_ _ _ _=>(qae qbs (pv 0) (qbq qgo (pv 2) qcf (qb0 qaa))))) qaa)) (by exact @qx2 _ _ _ _ _ _ _ _ _ PassesOwn.never rfl (@qwx _ _ _ _ _ (@qay _ _ _ _ (@qme _ _ rfl)) (@qwx _ _ _ _ _ (@qay _ _ _ _ (@qme _ _ rfl)) (@qwx _ _ _ _ _ (@qay _ _ _ _ (@qme _ _ rfl)) (@qbn _) rfl) rfl) rfl) (qga (i:=9) nd rfl (Or.inl rfl)) (qad (qa7 (ql3 qjv (qyv (qbg T) (hr.mono (by decide)) rfl (qaw (pv 0) (qaw (pv 1) (qaw (pv 2) (qaw (qae qc0 (qay (qaw (qaq (qaw (pv 8) (qaw (pv 9) qbn))) qbn)) (pv 3)) (qaw (qay (qaw (qaq (qaw (pv 5) (qaw (pv 1) (qaw qaa (qaw qaa qbn))))) qbn)) qbn)))))) qbb (qp5 _)) (qad (qak qet)) qap))) (qa7 (jC qjv (jF (qbg T) hr (jA5 (pv 0) (pv 1) (pv 2) (qae qc0 (pv 3) (qbq qeg (pv 3) qcf (qb0 qaa))) (qay (jA1 (qaq (jA4 (pv 5) (pv 1) qaa qaa)))))) qbb) (qad (qak qet)) qap) (qa7 (jC qjv (jF (qbg T) hr (jA5 (pv 0) (pv 1) (pv 2) (pv 3) (qae qc0 (pv 4) (qay (jA1 (qaq (jA4 (pv 6) (pv 1) qaa qaa))))))) qbb) (qad (qak qet)) qap) (qak (jD qec (jF (qbg T) hr (jA5 (pv 0) (pv 1) (pv 2) (pv 3) (qae qc0 (pv 4) (qay (jA1 (qaq (jA4 (pv 5) (pv 1) qaa (qae qc5 qaa (qae qar (pv 1) qaa))))))))) qbb))),?_⟩;refine qc8 λN hN=>?_
  refine ⟨_,rfl,lnm,_,0,_,rfl,rfl,SqL.of F.hnm,qAd,a0,_,0,_,rfl,rfl,SqT.of ha0,rfl,qan (hN _ _ ?_)⟩;refine qes (σ':=[some (.ref ru),some (.int day),some (.ref e),some (.ref lnm),some (.ref lrd),some (tS n0.1),none,none,none,none]) rfl ?_;refine qc8 λN hN=>?_
  refine ⟨_,rfl,_,_,rfl,rfl,qbf ?_,12,rfl,-12,rfl,_,rfl,qbf ?_,_,_,rfl,rfl,qbf ?_,qan (hN _ _ ?_)⟩
  ·rw[qbo,qui,qbo];simp;omega
  ·rw[qui,qi7,show (-12:Int) = -((12:Nat):Int) from rfl,qjp _ 12 (by decide),qbo,List.length_drop,List.length_append];simp;omega
  ·rw[qui,qi7,show (-12:Int) = -((12:Nat):Int) from rfl,qjp _ 12 (by decide),qbo,qAe,qbo,List.length_drop,List.length_append];simp;omega
  refine qes (σ':=[some (.ref ru),some (.int day),some (.ref e),some (.ref lnm),some (.ref lrd),some (tS n0.1),some (tS (qsp n0.1)),none,none,none]) (by rw[qAg];rfl) ?_;have edT:∀ v∈EV.drop 1,Ed v:=λv hv=>G.ed v (List.mem_of_mem_drop hv)
  have el:=G.el;have nT:=G.nmT;have tk1:NmsAt H [.ref a0] [n0]:=.cons ⟨a0,l0,rfl,ha0,hl0⟩ .nil;have nt2:NmT ((n0 :: NT) ++ [n0]):=.of (λn hn=>by
   rcases List.mem_append.mp hn with z|z
   ·exact nT n z
   ·rw[List.mem_singleton.mp z];exact nT n0 m0) (by rw[List.length_append];simp only[List.length_cons,List.length_nil] at g4 ⊢;omega)
  refine qc8 λN hN=>?_
  refine ⟨_,rfl,_,rfl,_,rfl,1,rfl,e,EV,rfl,SqL.of F.he,λe1 H1 n1=>?_⟩;refine ⟨_,rfl,_,rfl,1,rfl,lnm,_,rfl,SqL.of (n1.same _ _ F.hnm),λl2 H2 n2=>?_⟩;have s2:=n1.same.trans n2.same;have hl2:H2 l2=some (.lst [.ref a0]):=by rw[n2.at_,qAb]
  refine ⟨lnm,l2,_,_,rfl,rfl,s2 _ _ F.hnm,hl2,qbf (by simp only[List.length_cons,List.length_nil] at yl g4 ⊢;omega),λl3 H3 n3=>?_⟩;refine ⟨Nat.zero_le _,λl4 H4 n4=>?_⟩;have s3:=n3.same.trans n4.same;have s4:=s2.trans s3;have F4:F74 C_Rule ru rl e1 l3 l4 ps g (EV.drop 1) ((.ref a0 :: yt) ++ [.ref a0]) [] ((n0 :: NT) ++ [n0]) [] H4:=
   ⟨F.ru.same s4,by have:=s3 _ _ (n2.same _ _ n1.at_);rwa [qAc _ (by omega)] at this,n4.same _ _ n3.at_,qf9 (tk1.same s4) (F.tnm.same s4),n4.at_,.nil⟩
  refine qpo (w:=Str.ofString "rule") G F4 edT (λh=>by rw[List.length_drop] at h;omega) nt2 ⟨λr hr=>(by cases hr),by decide⟩ (qoh (by rw[List.length_drop];omega)) rfl λH5 s5=>⟨rfl,?_⟩
  rw[decide_eq_true rfl];refine ⟨_,rfl,qdw (hN _ _ ?_)⟩
  replace F:=F.same (s4.trans s5)
  replace ha0:=(s4.trans s5) _ _ ha0
  replace hl0:=(s4.trans s5) _ _ hl0
  replace q:∀ H',Same H5 H'->_:=λH' s=>q H' ((s4.trans s5).trans s)
  clear F4 s4 s3 s2 s5 n4 n3 n2 n1 hl2 edT tk1;have rtR:RdT RS:=⟨λr hr=>by obtain ⟨a,b,c⟩:=G.rs r hr;exact ⟨by obtain ⟨n,hn,e⟩:=List.mem_map.mp a;rw[<- e];exact (nT n hn).1,b,λ_=>c⟩,by omega⟩;have ntN:NmT (n0 :: NT):=.of nT (by omega);refine qc8 λN hN=>?_
  refine ⟨_,rfl,_,rfl,_,rfl,qbf (by simp),λl1 H1 n1=>?_⟩;refine ⟨e,l1,_,_,rfl,rfl,n1.same _ _ F.he,n1.at_,qbf (by simp only[List.length_cons,List.length_nil];omega),λe2 H2 n2=>?_⟩;have s2:=n1.same.trans n2.same;have F2:F74 C_Rule ru rl e2 lnm lrd ps g (EV ++ [.non]) (.ref a0 :: yt) zs (n0 :: NT) RS H2:=⟨F.ru.same s2,n2.at_,s2 _ _ F.hnm,F.tnm.same s2,s2 _ _ F.hrd,(F.same s2).trd⟩;refine ⟨_,rfl,_,rfl,qpo (w:=Str.ofString "rule") G F2 (λv hv=>?_) (λh=>by rw[List.length_append] at h;simp at h;omega) ntN rtR (qoh (by rw[List.length_append];simp;omega)) rfl λH5 s5=>⟨rfl,?_⟩⟩
  ·rcases List.mem_append.mp hv with z|z
   ·exact G.ed v z
   ·exact .inl (List.mem_singleton.mp z)
  rw[decide_eq_true rfl];refine ⟨_,rfl,qdw (hN _ _ ?_)⟩
  replace F:=F.same (s2.trans s5)
  replace ha0:=(s2.trans s5) _ _ ha0
  replace hl0:=(s2.trans s5) _ _ hl0
  replace q:∀ H',Same H5 H'->_:=λH' s=>q H' ((s2.trans s5).trans s)
  clear F2 s2 s5 n2 n1;have T4:((n0 :: NT).map (·.1)).length<=4:=by rw[List.length_map];exact g4
  refine qc8 λN hN=>?_
  refine ⟨_,rfl,lnm,rfl,⟨_,SqL.of F.hnm⟩,qca (xs:=.ref a0 :: yt) (λi vs H'=>H'=H5/\vs=(((n0 :: NT).take i).map (·.1)).map tS) (qbf (by omega)) ⟨rfl,rfl⟩ (λi vs H' h'=>⟨by rw[h'.1];exact SqL.of F.hnm,by rw[h'.2,List.length_map,List.length_map,List.length_take];omega⟩) ?_ ?_⟩
  ·rintro i y vs H6 hi ⟨rfl,rfl⟩
   obtain ⟨n,hn,a,l,rfl,ha,_⟩:=F.tnm.get hi;refine ⟨a,_,rfl,SqT.of ha,rfl,_,_,rfl,_,_,rfl,rfl,qhy (qck ⟨_,rfl,rfl,?_⟩)⟩;rw[List.take_add_one,hn,List.map_append,List.map_append];rfl
  rintro vs H6 lt H7 ⟨rfl,rfl⟩ n7;rw[yl,List.take_length] at n7;refine qan (hN _ _ ?_)
  replace F:=F.same n7.same
  replace ha0:=n7.same _ _ ha0
  replace hl0:=n7.same _ _ hl0
  have hlt:=n7.at_
  replace q:∀ H',Same H7 H'->_:=λH' s=>q H' (n7.same.trans s)
  clear n7
  generalize hT:(n0 :: NT).map (·.1)=T at T4 hlt
  refine qes (σ':=[some (.ref ru),some (.int day),some (.ref e),some (.ref lnm),some (.ref lrd),some (tS n0.1),some (tS (qsp n0.1)),some (.ref lt),none,none]) rfl ?_;refine qc8 λN hN=>?_
  refine ⟨_,congrArg V.str qAf,qu4 (x:=[97,98,99,100,101,102,103,104]) (λi vs H'=>H'=H7/\vs=(([97,98,99,100,101,102,103,104].take i).filter λc=>decide (c :: n0.1.take 11 ∉ T)).map λc=>tS (c :: n0.1.take 11)) (qbf (by simp)) ⟨rfl,rfl⟩ (λi vs H' h'=>by rw[h'.2,List.length_map];exact Nat.le_trans (List.length_filter_le _ _) (List.length_take_le _ _)) ?_ ?_⟩
  ·rintro i c vs H6 hi ⟨rfl,rfl⟩
   have ec:S [c] ++ slS (S n0.1) none (some 11)=S (c :: n0.1.take 11):=by rw[show (11:Int)=((11:Nat):Int) from rfl,qog,qi7];rfl
   have l11:(slS (S n0.1) none (some 11)).length<=11:=by rw[show (11:Int)=((11:Nat):Int) from rfl,qog,qbo,List.length_take];omega
   refine qan ⟨_,rfl,_,rfl,11,rfl,_,rfl,qbf (by omega),_,_,rfl,rfl,qbf (by rw[qbo];simp;omega),_,rfl,lt,_,rfl,.inl (SqL.of hlt),rfl,qso T,_,rfl,?_⟩;rw[ec,qxx,if_pos rfl];have tk:[97,98,99,100,101,102,103,104].take (i+1)=[97,98,99,100,101,102,103,104].take i ++ [c]:=by rw[List.take_add_one,hi];rfl
   refine qew (λz=>?_) λz=>?_
   ·refine ⟨_,rfl,_,rfl,11,rfl,_,rfl,qbf (by omega),_,_,rfl,rfl,qbf (by rw[qbo];simp;omega),rfl,?_⟩
    have z:c :: n0.1.take 11 ∉ T:=by simpa using z
    rw[ec,tk,List.filter_append,List.map_append,List.filter_cons_of_pos (by simpa using z)];rfl
   ·refine ⟨rfl,?_⟩
    have z:c :: n0.1.take 11∈T:=by simpa using z
    rw[tk,List.filter_append,List.filter_cons_of_neg (by simpa using z),List.filter_nil,List.append_nil]
  rintro vs H6 lf H8 ⟨rfl,rfl⟩ n8;rw[List.take_length (l:=[97,98,99,100,101,102,103,104])] at n8;have fne:=qxw (c:=[97,98,99,100,101,102,103,104]) (b:=n0.1.take 11) (T:=T) (by decide) (by simp only[List.length_cons,List.length_nil];omega);obtain ⟨c0,ct,ef⟩:∃ c0 ct,([97,98,99,100,101,102,103,104].filter λc=>decide (c :: n0.1.take 11 ∉ T))=c0 :: ct:=by
   cases h:([97,98,99,100,101,102,103,104].filter λc=>decide (c :: n0.1.take 11 ∉ T)) with
   | nil=>exact absurd h fne
   | cons a b=>exact ⟨a,b,rfl⟩
  have hc0:c0∈[97,98,99,100,101,102,103,104].filter λc=>decide (c :: n0.1.take 11 ∉ T):=by rw[ef];exact List.mem_cons_self
  have sc0:97<=c0/\c0<=104:=by
   have:=(List.mem_filter.mp hc0).1;have al:∀ c∈[97,98,99,100,101,102,103,104],97<=c/\c<=104:=by decide
   exact al c0 this
  rw[ef] at n8;refine ⟨lf,_,0,_,rfl,rfl,SqL.of n8.at_,qAd,qan (hN _ _ ?_)⟩
  replace F:=F.same n8.same
  replace ha0:=n8.same _ _ ha0
  replace hl0:=n8.same _ _ hl0
  replace q:∀ H',Same H8 H'->_:=λH' s=>q H' (n8.same.trans s)
  have smF:qas 12 (c0 :: n0.1.take 11):=⟨by simp,by rw[List.length_cons,List.length_take];omega,λc hc=>by
   rcases List.mem_cons.mp hc with z|z
   ·rw[z];omega
   ·exact sm0.2.2 c (List.mem_of_mem_take z)⟩
  clear n8 ef hc0 fne sc0 hlt;refine qes (σ':=[some (.ref ru),some (.int day),some (.ref e),some (.ref lnm),some (.ref lrd),some (tS n0.1),some (tS (qsp n0.1)),some (.ref lt),some (tS (c0 :: n0.1.take 11)),none]) rfl ?_;have tbd:qje day:=by have:=G.hd;unfold Bd at this;unfold qje;omega
  have rt1:RdT [(n0.1,(day,1,0))]:=⟨λr hr=>by rw[List.mem_singleton.mp hr];exact ⟨(nT n0 m0).1,tbd,λh=>absurd h (by show ¬ (1:Int)<=0;decide)⟩,by show 1<=40;decide⟩;refine qc8 λN hN=>?_
  refine qgp _ _ _ _ ⟨qbf (by simp),λm1 H1 n1=>qgp _ _ _ _ ⟨qbf (by simp),λm2 H2 n2=>qgp _ _ _ _ ⟨qbf (by simp),λm3 H3 n3=>⟨qbf (by simp),λml H4 n4=>?_⟩⟩⟩⟩;have s34:=n4.same;have s24:=n3.same.trans s34;have s14:=n2.same.trans s24;have s04:=n1.same.trans s14;have hm1:H4 m1=some (.lst (hotL.map tS)):=by rw[<- qAh];exact s14 _ _ n1.at_
  have hm2:H4 m2=some (.lst (nineL.map tS)):=by rw[<- qx1];exact s24 _ _ n2.at_
  have hm3:H4 m3=some (.lst (capL.map tS)):=by rw[<- qAi];exact s34 _ _ n3.at_
  refine ⟨ml,rfl,⟨_,SqL.of n4.at_⟩,qb2 (xs:=[.ref m1,.ref m2,.ref m3]) (λj σ H'=>∃ v9:Option V,Same H4 H'/\σ=[some (.ref ru),some (.int day),some (.ref e),some (.ref lnm),some (.ref lrd),some (tS n0.1),some (tS (qsp n0.1)),some (.ref lt),some (tS (c0 :: n0.1.take 11)),v9]) ⟨_,Same.refl _,rfl⟩ (λj σ H' _ ⟨_,s,_⟩=>SqL.of (s _ _ n4.at_)) ?_ ?_⟩
  ·rintro j y σ H5 hyj ⟨v9,s5,rfl⟩
   obtain ⟨lm,rfl,ms,hlm,bm⟩:=qD0 (P:=λl=>∃ ms,H4 l=some (.lst (ms.map tS))/\qA4 ms) hyj ⟨_,hm1,qxz⟩ ⟨_,hm2,quj⟩ ⟨_,hm3,qx0⟩;refine qan (qes (σ':=[some (.ref ru),some (.int day),some (.ref e),some (.ref lnm),some (.ref lrd),some (tS n0.1),some (tS (qsp n0.1)),some (.ref lt),some (tS (c0 :: n0.1.take 11)),some (.ref lm)]) rfl ?_);have s05:=s04.trans s5;refine ⟨_,rfl,_,rfl,_,rfl,_,rfl,_,rfl,qbf (by simp),λt6 H6 n6=>⟨qbf (by simp),λl7 H7 n7=>⟨_,rfl,?_⟩⟩⟩;have s67:=n6.same.trans n7.same;refine ⟨l7,lnm,_,_,rfl,rfl,n7.at_,s67 _ _ (s05 _ _ F.hnm),qbf (by simp only[List.length_cons,List.length_nil] at yl g4 ⊢;omega),λl8 H8 n8=>?_⟩;refine ⟨_,rfl,_,rfl,qbf (by simp),λt9 H9 n9=>⟨qbf (by simp),λl10 H10 n10=>?_⟩⟩;have s8:=n9.same.trans n10.same;have s68:=n7.same.trans (n8.same.trans s8);have s510:=n6.same.trans s68;have F0:=(F.same s05).same s510;have F10:F74 C_Rule ru rl e l8 l10 ps g EV ([.ref t6] ++ (.ref a0 :: yt)) [.ref t9] ((c0 :: n0.1.take 11,ms) :: n0 :: NT) [(n0.1,(day,1,0))] H10:=
    ⟨F0.ru,F0.he,s8 _ _ n8.at_,.cons ⟨t6,lm,rfl,s68 _ _ n6.at_,s510 _ _ (s5 _ _ hlm)⟩ F0.tnm,n10.at_,.cons ⟨t9,rfl,n10.same _ _ n9.at_⟩ .nil⟩
   refine qpo (w:=Str.ofString "mark") G F10 G.ed (λ_=>rfl) (.of (λn hn=>?_) (by simp only[List.length_cons] at g4 ⊢;omega)) rt1 (qjn el (qmy smF bm.1) (by decide)) rfl λH11 s11=>⟨rfl,?_⟩
   ·rcases List.mem_cons.mp hn with z|z
    ·rw[z];exact ⟨by have:=smF.2.1;dsimp only;omega,bm.2⟩
    ·exact nT n z
   rw[decide_eq_true rfl];exact ⟨_,rfl,qdw ⟨_,s5.trans (s510.trans s11),rfl⟩⟩
  rintro σ H5 ⟨v9,s5,rfl⟩;refine hN _ _ ?_;have s05:=s04.trans s5
  replace F:=F.same s05
  replace ha0:=s05 _ _ ha0
  replace hl0:=s05 _ _ hl0
  replace q:∀ H',Same H5 H'->_:=λH' s=>q H' (s05.trans s)
  clear s34 s24 s14 s04 hm1 hm2 hm3 s5 s05 n1 n2 n3 n4 smF hT;refine qc8 λN hN=>?_
  refine ⟨_,rfl,_,rfl,_,rfl,_,rfl,_,rfl,1,rfl,lnm,_,rfl,SqL.of F.hnm,λl2 H2 n2=>?_⟩;have hl2:H2 l2=some (.lst [.ref a0]):=by rw[n2.at_,qAb]
  refine ⟨lnm,l2,_,_,rfl,rfl,n2.same _ _ F.hnm,hl2,qbf (by simp only[List.length_cons,List.length_nil] at yl g4 ⊢;omega),λl3 H3 n3=>?_⟩;refine ⟨_,rfl,_,rfl,qbf (by simp),λt4 H4 n4=>⟨qbf (by simp),λl5 H6 n6=>?_⟩⟩;have s36:=n4.same.trans n6.same;have s56:=n2.same.trans (n3.same.trans s36);have F6:=F.same s56;have Fa:F74 C_Rule ru rl e l3 l5 ps g EV ((.ref a0 :: yt) ++ [.ref a0]) [.ref t4] ((n0 :: NT) ++ [n0]) [(n0.1,(day,1,0))] H6:=
   ⟨F6.ru,F6.he,s36 _ _ n3.at_,qf9 (.cons ⟨a0,l0,rfl,s56 _ _ ha0,s56 _ _ hl0⟩ .nil) F6.tnm,n6.at_,.cons ⟨t4,rfl,n6.same _ _ n4.at_⟩ .nil⟩
  refine qpo (w:=Str.ofString "name") G Fa G.ed (λ_=>rfl) nt2 rt1 (qjn el (qmx G.nok m0) (by decide)) rfl λH7 s7=>⟨rfl,?_⟩
  rw[decide_eq_true rfl];refine ⟨_,rfl,qdw (hN _ _ ?_)⟩
  replace F:=F6.same s7
  replace q:∀ H',Same H7 H'->_:=λH' s=>q H' ((s56.trans s7).trans s)
  clear Fa F6 s36 s56 s7 n2 n3 n4 n6 hl2 ha0 hl0 rt1;have no:=G.nok.out;have rs1:∀ r∈RS,(qas 12 r.1/\r.1∈(n0 :: NT).map (·.1))/\1<=r.2.2.2:=λr hr=>by
   obtain ⟨a,_,c⟩:=G.rs r hr;obtain ⟨n,hn,e⟩:=List.mem_map.mp a;exact ⟨⟨by rw[<- e];exact G.nok.sm n hn,a⟩,c.2.2.1⟩
  refine qc8 λN hN=>?_
  refine ⟨_,rfl,_,rfl,_,rfl,_,rfl,_,rfl,_,rfl,_,rfl,qbf (by simp),λt1 H1 n1=>⟨qbf (by simp),λl1 H2 n2=>?_⟩⟩;have s2:=n1.same.trans n2.same;refine ⟨lrd,l1,_,_,rfl,rfl,s2 _ _ F.hrd,n2.at_,qbf (by simp only[List.length_cons,List.length_nil];omega),λl3 H3 n3=>?_⟩;have s3:=s2.trans n3.same;have F3:=F.same s3;have bl:=qxy n0.1 (by omega);have Fa:F74 C_Rule ru rl e lnm l3 ps g EV (.ref a0 :: yt) (zs ++ [.ref t1]) (n0 :: NT) (RS ++ [(qsp n0.1,(day,1,0))]) H3:=
   ⟨F3.ru,F3.he,F3.hnm,F3.tnm,n3.at_,RdNs.snoc ⟨t1,rfl,n3.same _ _ (n2.same _ _ n1.at_)⟩ F3.trd⟩
  refine qpo (w:=Str.ofString "name") G Fa G.ed (λ_=>rfl) ntN ⟨λr hr=>?_,by rw[List.length_append];simp only[List.length_cons,List.length_nil];omega⟩ (qe7 el no ((qer _ _ _ rs1).trans (qpm λz=>?_))) rfl λH7 s7=>⟨rfl,?_⟩
  ·rcases List.mem_append.mp hr with z|z
   ·exact rtR.rx r z
   ·rw[List.mem_singleton.mp z];exact ⟨by have:=bl.2;dsimp only;omega,tbd,λh=>absurd h (by show ¬ (1:Int)<=0;decide)⟩
  ·obtain ⟨n,hn,e⟩:=List.mem_map.mp z
   have e:n.1=qsp n0.1:=e;have:=G.len n hn;rw[e,<- G.len n0 m0] at this;exact bl.1 this
  rw[decide_eq_true rfl];refine ⟨_,rfl,qdw (hN _ _ ?_)⟩
  replace F:=F3.same s7
  replace q:∀ H',Same H7 H'->_:=λH' s=>q H' ((s3.trans s7).trans s)
  clear Fa F3 s2 s3 s7 n1 n2 n3 bl;have d3:0<=day % 3:=Int.emod_nonneg _ (by decide);refine ⟨_,rfl,_,rfl,_,rfl,_,rfl,_,rfl,_,rfl,_,rfl,_,rfl,_,_,rfl,rfl,by decide,_,_,rfl,rfl,qbf (by simp),λt1 H1 n1=>⟨qbf (by simp),λl1 H2 n2=>?_⟩⟩;have s2:=n1.same.trans n2.same;refine ⟨lrd,l1,_,_,rfl,rfl,s2 _ _ F.hrd,n2.at_,qbf (by simp only[List.length_cons,List.length_nil];omega),λl3 H3 n3=>?_⟩;have s3:=s2.trans n3.same;have F3:=F.same s3;have Fa:F74 C_Rule ru rl e lnm l3 ps g EV (.ref a0 :: yt) (zs ++ [.ref t1]) (n0 :: NT) (RS ++ [(n0.1,(day,1,0-day % 3))]) H3:=
   ⟨F3.ru,F3.he,F3.hnm,F3.tnm,n3.at_,RdNs.snoc ⟨t1,rfl,n3.same _ _ (n2.same _ _ n1.at_)⟩ F3.trd⟩
  refine qpo (w:=Str.ofString "number") G Fa G.ed (λ_=>rfl) ntN ⟨λr hr=>?_,by rw[List.length_append];simp only[List.length_cons,List.length_nil];omega⟩ (qe7 el no ((qer _ _ _ rs1).trans (qpn ⟨sm0,List.mem_map.mpr ⟨n0,m0,rfl⟩⟩ (by show 0-day % 3<1;omega)))) rfl λH7 s7=>⟨rfl,?_⟩
  ·rcases List.mem_append.mp hr with z|z
   ·exact rtR.rx r z
   ·rw[List.mem_singleton.mp z];exact ⟨(nT n0 m0).1,tbd,λh=>absurd h (by show ¬ 1<=0-day % 3;omega)⟩
  rw[decide_eq_true rfl];exact q H7 (s3.trans s7)
theorem qly:∀ {a b:List TR},a.map (·.1)=b.map (·.1)->(∀ r1∈a,∀ r2∈b,r1.1=r2.1->r1=r2)->a=b
 | [],[],_,_=>rfl
 | [],_ :: _,e,_=>by cases e
 | _ :: _,[],e,_=>by cases e
 | x :: a,y :: b,e,f=>by
  rw[List.map_cons,List.map_cons] at e;injection e with e1 e2
  rw[f x List.mem_cons_self y List.mem_cons_self e1,qly e2 λr1 h1 r2 h2=>f r1 (List.mem_cons_of_mem _ h1) r2 (List.mem_cons_of_mem _ h2)]
noncomputable def dTR (r:TR):PyData:=.tuple [.str (S r.1),.list (r.2.1.map λm=>.str (S m)),qkq (qd9 r.2.2),qkq (qfw r.2.2)]
def qCg (r:TR):Prop:=qas 12 r.1/\∀ m∈r.2.1,qas 8 m
theorem qoi {n:Int} {x:List Nat} (h:qas n x):(PyData.str (S x)).canLay0=true:=by
 show PyData.strOk (S x)=true
 unfold PyData.strOk;rw[Array.all_eq_true'];intro c hc;have:=h.2.2 c (by simpa [S] using hc)
 simp;omega
theorem qmz {K:Frag} {H:Hp}:∀ ms:List (List Nat),qov K H (ms.map tS) (ms.map λm=>PyData.str (S m))
 | []=>.nil
 | _ :: ms=>.cons (.str _) (qmz ms)
theorem qjq {α:Type} {f:α->PyData} {l:List α} (h:∀ a∈l,(f a).canLay0=true):PyData.canLayAll0 (l.map f)=true:=by
 induction l with
 | nil=>rfl
 | cons a t ih =>
  show (PyData.canLay0 (f a) && PyData.canLayAll0 (t.map f))=true
  rw[h a List.mem_cons_self,ih λx hx=>h x (List.mem_cons_of_mem _ hx)];rfl
theorem qfa {α:Type} {f:α->PyData} {n:Nat} {l:List α} (h:∀ a,(f a).depth<=n):PyData.depthAll (l.map f)<=n:=by
 induction l with
 | nil=>exact Nat.zero_le _
 | cons a t ih =>
  show max (PyData.depth (f a)) (PyData.depthAll (t.map f))<=n
  have:=h a;omega
theorem qvq {n:Int} {ms:List (List Nat)} (h:∀ m∈ms,qas n m):PyData.canLayAll0 (ms.map λm=>PyData.str (S m))=true:=qjq λm hm=>qoi (h m hm)
theorem qvr (ms:List (List Nat)):PyData.depthAll (ms.map λm=>PyData.str (S m))<=0:=qfa λ_=>Nat.le_refl _
theorem qAj {r:TR} (h:qCg r):(dTR r).canLay0=true:=by
 show (PyData.canLay0 (.str (S r.1)) && (PyData.canLayAll0 (r.2.1.map λm=>PyData.str (S m)) && (PyData.canLay0 (qkq (qd9 r.2.2)) && (PyData.canLay0 (qkq (qfw r.2.2)) && true))))=true
 rw[qoi h.1,qvq h.2,qny,qny];rfl
theorem qAk (r:TR):(dTR r).depth<=4:=by
 have h1:=qgz (qd9 r.2.2);have h2:=qgz (qfw r.2.2);have h3:=qvr r.2.1;simp only[dTR,qkq,PyData.depth,PyData.depthAll];omega
theorem TRowsA.reps {K:Frag} {H:Hp} {vs:List V} {rows:List TRA} (t:TRowsA H vs rows):qov K H vs ((rows.map (·.1)).map dTR):=by
 unfold TRowsA at t
 induction t with
 | nil=>exact .nil
 | cons h _ ih =>
  obtain ⟨a,ys,zs,rfl,h0,h1,h2,t2,h3,t3⟩:=h;exact .cons (.tup (SqT.of h0) (.cons (.str _) (.cons (.lst (SqL.of h1) (qmz _)) (.cons (t2.rep h2) (.cons (t3.rep h3) .nil))))) ih
theorem qCv {K:Frag} {H:Hp} {n:Bool} {p q:Addr} {xs ys:List V} {ra rb:List TRA} {Q:VK} (e:ra.map (·.1)=rb.map (·.1)) (hp:H p=some (.lst xs)) (tp:TRowsA H xs ra) (hq:H q=some (.lst ys)) (tq:TRowsA H ys rb) (hr:∀ r∈ra.map (·.1),qCg r) (h:Q (.bl (!n)) H):qyt K n (.ref p) (.ref q) H Q:=by
 have c:(PyData.list ((ra.map (·.1)).map dTR)).canLay0=true:=qjq λr hr'=>qAj (hr r hr')
 have r2:=tq.reps (K:=K);rw[<- e] at r2;refine ⟨_,_,.lst (SqL.of hp) tp.reps,.lst (SqL.of hq) r2,c,c,?_,?_⟩
 ·show PyData.depthAll ((ra.map (·.1)).map dTR)+1<=20
  have:=qfa (l:=ra.map (·.1)) qAk;omega
 ·rw[PySem.SeqAt.eqv_refl _ c]
  cases n<;>exact h
theorem nmu:∀ {NM:List NmR} {x:List Nat} {a b:List (List Nat)},(NM.map (·.1)).Nodup->(x,a)∈NM->(x,b)∈NM->a=b
 | [],_,_,_,_,h,_=>by cases h
 | n :: NM,x,a,b,nd,h1,h2=>by
  rw[List.map_cons,List.nodup_cons] at nd
  rcases List.mem_cons.mp h1 with z1|z1<;>rcases List.mem_cons.mp h2 with z2|z2
  ·exact (Prod.mk.inj (z1.trans z2.symm)).2
  ·exact absurd (List.mem_map.mpr ⟨_,z2,by rw[<- z1]⟩) nd.1
  ·exact absurd (List.mem_map.mpr ⟨_,z1,by rw[<- z2]⟩) nd.1
  ·exact nmu nd.2 z1 z2
theorem qoj {X:qcq} {NM:List NmR} {RS:List (List Nat×Rd3)} {cell:Int->Option (Int×Int)} {a b:List TR} (nd:(NM.map (·.1)).Nodup) (en:X.map (λp=>(p.1,p.2.2.2.2))=NM) (er:∀ p∈X,p.2.2.2.1=qin RS p.1) (ta:qvo X cell a) (tb:qxv NM RS cell b):a=b:=by
 have e2:X.map (·.1)=NM.map (·.1):=by
  have:=congrArg (List.map Prod.fst) en;rw[List.map_map] at this;exact this
 refine qly (by rw[ta.1,tb.1,e2]) λx hx y hy e=>?_
 obtain ⟨ea,ha,a1,a2⟩:=ta.2 x hx;obtain ⟨ms,hm,b1,b2⟩:=tb.2 y hy;have ha':(y.1,ea.2.2.2)∈NM:=by rw[<- en,<- e];exact List.mem_map.mpr ⟨_,ha,rfl⟩
 have em:=nmu nd ha' hm;have er':=er (x.1,ea) ha;obtain ⟨x1,x2,x3⟩:=x;obtain ⟨y1,y2,y3⟩:=y;dsimp only at *
 subst e;rw[a1,b1,a2,b2,er',em]
theorem qAl {NM:List NmR} {RS:List (List Nat×Rd3)} {cell:Int->Option (Int×Int)} {b:List TR} (ok:NmOk NM) (tb:qxv NM RS cell b):∀ r∈b,qCg r:=λr hr=>by
 obtain ⟨ms,hm,b1,_⟩:=tb.2 r hr;refine ⟨ok.sm _ hm,λm hm'=>?_⟩;rw[b1] at hm';have:=(ok.mm _ hm).1 (tS m) (List.mem_map.mpr ⟨m,(qb1 _).mem_iff.mp hm',rfl⟩);rw[qcp] at this;exact of_decide_eq_true this
def dNm (n:NmR):PyData:=.tuple [.str (S n.1),.list (n.2.map λm=>.str (S m))]
def dRd (r:List Nat×Rd3):PyData:=.tuple [.str (S r.1),.int r.2.1,.int r.2.2.1,.int r.2.2.2]
theorem NmsAt.reps {K:Frag} {H:Hp} {ys:List V} {NM:List NmR} (t:NmsAt H ys NM):qov K H ys (NM.map dNm):=by
 unfold NmsAt at t
 induction t with
 | nil=>exact .nil
 | cons h _ ih =>
  obtain ⟨a,l,rfl,ha,hl⟩:=h;exact .cons (.tup (SqT.of ha) (.cons (.str _) (.cons (.lst (SqL.of hl) (qmz _)) .nil))) ih
theorem RdNs.reps {K:Frag} {H:Hp} {ys:List V} {RS:List (List Nat×Rd3)} (t:RdNs H ys RS):qov K H ys (RS.map dRd):=by
 unfold RdNs at t
 induction t with
 | nil=>exact .nil
 | cons h _ ih =>
  obtain ⟨a,rfl,ha⟩:=h;exact .cons (.tup (SqT.of ha) (.cons (.str _) (.cons (.int _) (.cons (.int _) (.cons (.int _) .nil))))) ih
def dHd (EV:List V) (NM:List NmR) (RS:List (List Nat×Rd3)):PyData:=.tuple [.list (EV.map dV),.list (NM.map dNm),.list (RS.map dRd)]
theorem qD1 {K:Frag} {H:Hp} {p q e e' n n' r r':Addr} {EV ys ys' zs zs':List V} {NM:List NmR} {RS:List (List Nat×Rd3)} {Q:VK} (hp:H p=some (.tup [.ref e,.ref n,.ref r])) (he:H e=some (.lst EV)) (hn:H n=some (.lst ys)) (tn:NmsAt H ys NM) (hr:H r=some (.lst zs)) (tr:RdNs H zs RS) (hq:H q=some (.tup [.ref e',.ref n',.ref r'])) (he':H e'=some (.lst EV)) (hn':H n'=some (.lst ys')) (tn':NmsAt H ys' NM) (hr':H r'=some (.lst zs')) (tr':RdNs H zs' RS) (ed:∀ v∈EV,Ed v) (ok:NmOk NM) (rs:∀ r∈RS,r.1∈NM.map (·.1)) (h:Q (.bl false) H):qyt K true (.ref p) (.ref q) H Q:=by
 have cE:(PyData.list (EV.map dV)).canLay0=true:=ed_lay' _;have cN:PyData.canLayAll0 (NM.map dNm)=true:=qjq λn hn=>by
  show (PyData.canLay0 (.str (S n.1)) && (PyData.canLayAll0 (n.2.map λm=>PyData.str (S m)) && true))=true
  rw[qoi (ok.sm n hn),qvq (n:=8) λm hm=>?_]
  ·rfl
  ·have:=(ok.mm _ hn).1 (tS m) (List.mem_map.mpr ⟨m,hm,rfl⟩)
   rw[qcp] at this;exact of_decide_eq_true this
 have cR:PyData.canLayAll0 (RS.map dRd)=true:=qjq λr hr=>by
  show (PyData.canLay0 (.str (S r.1)) && true)=true
  obtain ⟨n,hn,e⟩:=List.mem_map.mp (rs r hr);rw[<- e,qoi (ok.sm n hn)];rfl
 have c:(dHd EV NM RS).canLay0=true:=by
  show (PyData.canLay0 (.list (EV.map dV)) && (PyData.canLayAll0 (NM.map dNm) && (PyData.canLayAll0 (RS.map dRd) && true)))=true
  rw[cE,cN,cR];rfl
 refine ⟨dHd EV NM RS,dHd EV NM RS,.tup (SqT.of hp) (.cons (.lst (SqL.of he) (qgt ed)) (.cons (.lst (SqL.of hn) tn.reps) (.cons (.lst (SqL.of hr) tr.reps) .nil))),.tup (SqT.of hq) (.cons (.lst (SqL.of he') (qgt ed)) (.cons (.lst (SqL.of hn') tn'.reps) (.cons (.lst (SqL.of hr') tr'.reps) .nil))),c,c,?_,?_⟩
 ·have h1:PyData.depthAll (EV.map dV)<=0:=qfa λv=>by cases v<;>exact Nat.le_refl _
  have h2:PyData.depthAll (NM.map dNm)<=3:=qfa λn=>by
   have:=qvr n.2;simp only[dNm,PyData.depth,PyData.depthAll];omega
  have h3:PyData.depthAll (RS.map dRd)<=1:=qfa λr=>by simp only[dRd,PyData.depth,PyData.depthAll];omega
  simp only[dHd,PyData.depth,PyData.depthAll];omega
 ·rw[if_pos rfl,PySem.SeqAt.eqv_refl _ c]
  exact h
theorem neE {K:Frag} {H:Hp} {p q:Addr} {xs:List V} {Q:VK} (hp:H p=some (.lst xs)) (hq:H q=some (.lst xs)) (he:∀ v∈xs,Ed v) (h:Q (.bl false) H):qyt K true (.ref p) (.ref q) H Q:=
 ⟨_,_,.lst (SqL.of hp) (qgt he),.lst (SqL.of hq) (qgt he),ed_lay' _,ed_lay' _,by show PyData.depthAll _+1<=20;have:PyData.depthAll (xs.map dV)<=0:=qfa λv=>(by cases v<;>exact Nat.le_refl _);omega,by rw[if_pos rfl,PySem.SeqAt.eqv_refl _ (ed_lay' _)];exact h⟩
theorem qAm (d k:Int):(nmF d k).length=(qmo d).length+1:=by
 unfold nmF;rw[List.length_append,List.length_append,List.length_take,List.length_drop];simp only[List.length_cons,List.length_nil];omega
def qx3 (d:Int) (m:Nat):List (List Nat):=(List.range m).map λj=>mkF d (0+(j:Nat))
theorem qsq (d:Int) (m:Nat):qx3 d (m+1)=qx3 d m ++ [mkF d (0+(m:Nat))]:=by
 unfold qx3;rw[List.range_succ,List.map_append];rfl
theorem qAn {d:Int} {m:Nat} (hm:m<=8) (h:∀ j,j<m->qas 8 (mkF d (0+(j:Nat)))):qbm ((qx3 d m).map tS):=by
 unfold qx3;refine ⟨λv hv=>?_,?_,by simpa using hm⟩
 ·rw[List.map_map] at hv
  obtain ⟨j,hj,rfl⟩:=List.mem_map.mp hv
  show qbz 8 (.str (S (mkF d (0+(j:Nat)))))=true
  rw[qcp];exact decide_eq_true (h j (List.mem_range.mp hj))
 ·rw[List.map_map]
  unfold List.Nodup;rw[List.pairwise_map];refine List.nodup_range.imp_of_mem fun {i j} hi hj n e=>?_
  have a:=List.mem_range.mp hi;have b:=List.mem_range.mp hj;exact qCc (d:=d) (k:=0+(i:Nat)) (l:=0+(j:Nat)) (by omega) (by omega) (by omega) (qc7 e)
structure NmI (d:Int) (j:Nat) (NM:List NmR):Prop where
 nm:NM.map (·.1)=(List.range j).map λi=>nmF d (0+(i:Nat))
 sm:∀ n∈NM,qas 12 n.1
 mm:∀ n∈NM,qbm (n.2.map tS)
theorem NmI.len {d:Int} {j:Nat} {NM:List NmR} (h:NmI d j NM):NM.length=j:=by
 have:=congrArg List.length h.nm
 rwa [List.length_map,List.length_map,List.length_range] at this
theorem NmI.ok {d:Int} {j:Nat} {NM:List NmR} (h:NmI d j NM) (hj:j<=4):NmOk NM:=by
 refine ⟨?_,h.sm,h.mm,by rw[h.len];omega⟩;rw[h.nm];unfold List.Nodup;rw[List.pairwise_map];refine List.nodup_range.imp_of_mem fun {i k} hi hk n e=>?_
 have a:=List.mem_range.mp hi;have b:=List.mem_range.mp hk;exact qCb (d:=d) (k:=0+(i:Nat)) (l:=0+(k:Nat)) (by omega) (by omega) (by omega) e
theorem NmI.all {d:Int} {j:Nat} {NM:List NmR} (h:NmI d j NM):∀ n∈NM,n.1.length=(qmo d).length+1:=λn hn=>by
 have:n.1∈NM.map (·.1):=List.mem_map.mpr ⟨n,hn,rfl⟩;rw[h.nm] at this;obtain ⟨i,_,e⟩:=List.mem_map.mp this;rw[<- e,qAm]
theorem NmI.snoc {d:Int} {j:Nat} {NM:List NmR} {ms:List (List Nat)} (h:NmI d j NM) (s:qas 12 (nmF d (0+(j:Nat)))) (m:qbm (ms.map tS)):NmI d (j+1) (NM ++ [(nmF d (0+(j:Nat)),ms)]):=by
 refine ⟨?_,λn hn=>?_,λn hn=>?_⟩
 ·rw[List.map_append,h.nm,List.range_succ,List.map_append];rfl
 ·rcases List.mem_append.mp hn with z|z
  ·exact h.sm n z
  ·rw[List.mem_singleton.mp z];exact s
 ·rcases List.mem_append.mp hn with z|z
  ·exact h.mm n z
  ·rw[List.mem_singleton.mp z];exact m
theorem qok {H:Hp} {v:V} {n:NmR} (h:qCe H v n) {ys:List V} {NM:List NmR} (t:NmsAt H ys NM):NmsAt H (ys ++ [v]) (NM ++ [n]):=qf9 (.cons h .nil) t
theorem qAo (ns:List Int):∃ ms:List Int,qj2 (ns.map V.int) (some 5) (some 21)=ms.map V.int/\ms.length<=16:=by
 unfold qj2;rw[show (some (5:Int))=some ((5:Nat):Int) from rfl,show (some (21:Int))=some ((21:Nat):Int) from rfl,HT.sIx_nat,HT.sIx_nat];simp only[<- List.map_take,<- List.map_drop];exact ⟨_,rfl,by simp only[List.length_take,List.length_drop];omega⟩
theorem RL63.lt {r:Rd3} (h:RL63 r):RLt r/\qje r.1/\qpq r.2:=by
 obtain ⟨⟨a,b⟩,⟨c,d⟩,e,f⟩:=h;exact ⟨⟨⟨by omega,by omega⟩,⟨by omega,by omega⟩,e,f⟩,⟨by omega,by omega⟩,⟨by omega,by omega⟩,e,by omega⟩
theorem mem_lsA {l:Addr} {rs:List TRA}:l∈lsA rs↔∃ r∈rs,l∈[r.2.1,r.2.2.1,r.2.2.2]:=by unfold lsA;rw[List.mem_flatMap]
theorem qol {l:Addr} {rs:List TRA} {j:Nat} (h:l∈lsA (rs.take j)):l∈lsA rs:=by
 obtain ⟨r,hr,m⟩:=mem_lsA.mp h;exact mem_lsA.mpr ⟨r,List.mem_of_mem_take hr,m⟩
theorem quk {l:Addr} {rs:List TRA} {j:Nat} {r:TRA} (hr:rs[j]?=some r):l∈lsA (rs.take (j+1))↔l∈lsA (rs.take j)\/l∈[r.2.1,r.2.2.1,r.2.2.2]:=by
 rw[List.take_add_one,hr,Option.toList_some,qf8,List.mem_append]
theorem qAp {rs:List TRA} {j:Nat} {r:TRA} (nd:(lsA rs).Nodup) (hr:rs[j]?=some r):(∀ l∈[r.2.1,r.2.2.1,r.2.2.2],l ∉ lsA (rs.take j))/\r.2.1≠r.2.2.1/\r.2.1≠r.2.2.2/\r.2.2.1≠r.2.2.2:=by
 rw[<- List.take_append_drop j rs,qxs hr] at nd;have e:lsA (rs.take j ++ r :: rs.drop (j+1))=lsA (rs.take j) ++ ([r.2.1,r.2.2.1,r.2.2.2] ++ lsA (rs.drop (j+1))):=by unfold lsA;rw[List.flatMap_append];rfl
 rw[e,List.nodup_append] at nd;obtain ⟨_,n2,n3⟩:=nd;rw[List.nodup_append] at n2;have n4:=n2.1;simp only[List.nodup_cons,List.mem_cons,List.not_mem_nil,or_false,not_or] at n4;exact ⟨λl hl z=>n3 l z l (List.mem_append.mpr (.inl hl)) rfl,n4.1.1,n4.1.2,n4.2.1⟩
theorem TRowsA.lists {H:Hp} {vs:List V} {rows:List TRA} (t:TRowsA H vs rows):LsL H (lsA rows):=λl hl=>by
 unfold TRowsA at t
 induction t with
 | nil=>cases hl
 | cons h _ ih =>
  obtain ⟨r,hr,m⟩:=mem_lsA.mp hl
  rcases List.mem_cons.mp hr with z|z
  ·subst z
   obtain ⟨a,ys,zs,_,_,h1,h2,_,h3,_⟩:=h;simp only[List.mem_cons,List.not_mem_nil,or_false] at m
   rcases m with z|z|z
   ·exact ⟨_,by rw[z];exact h1⟩
   ·exact ⟨_,by rw[z];exact h2⟩
   ·exact ⟨_,by rw[z];exact h3⟩
  ·exact ih (mem_lsA.mpr ⟨r,z,m⟩)
theorem TRowsA.upL {H H':Hp} {vs:List V} {rows:List TRA} (t:TRowsA H vs rows) (u:TupS H H') (k:∀ l o,l∈lsA rows->H l=some o->H' l=some o):TRowsA H' vs rows:=by
 unfold TRowsA at t ⊢
 induction t with
 | nil=>exact .nil
 | @cons v r vs rs h _ ih =>
  refine .cons ?_ (ih λl o hl=>k l o (by obtain ⟨r,hr,m⟩:=mem_lsA.mp hl;exact mem_lsA.mpr ⟨r,List.mem_cons_of_mem _ hr,m⟩));obtain ⟨a,ys,zs,e,h0,h1,h2,t2,h3,t3⟩:=h;have kk:∀ l o,l∈[r.2.1,r.2.2.1,r.2.2.2]->H l=some o->H' l=some o:=λl o hl=>k l o (mem_lsA.mpr ⟨r,List.mem_cons_self,hl⟩)
  exact ⟨a,ys,zs,e,u _ _ h0,kk _ _ (by simp) h1,kk _ _ (by simp) h2,t2.tupS u,kk _ _ (by simp) h3,t3.tupS u⟩
include T in
theorem qCh {f:Addr} {fd:FuncData} (F:Fun K "law" "law" qxk f fd):qfy P w K mg base CX0 12 f fd ["_law_script"] (qu8 K):=by
 have nd:=sc_law.nd;refine F.ok sc_law (λvs H Q E h=>?_) (λcdv A outer s H vs Q E hr h=>?_)
 ·obtain ⟨a,ns,rfl,_⟩:=h;rfl
 ·obtain ⟨a,ns,rfl,hS,hn,k⟩:=h
  refine ⟨_,(qaj (qm0 (jF (qmr T) hr (jA1 (jF (qbp T) hr (jA2 (pv 0) qaa)))) (jG2 (jN 1 nd) (jN 2 nd))) (qaj (jS 3 nd (qqu (qt7 T) (hr.mono (by decide)) rfl .nil (jA2 (qbk qbt rfl T.b_list qcz (jA1 (pv 1))) (pv 2)))) (qDj (jS 4 nd (qae qc5 (qae qar (jF (qbp T) hr (jA2 (pv 0) qaa)) (qae qbl qaa (qae qfd qaa qaa))) (qae qfd qaa qaa))) (qht (i:=5) nd rfl (Or.inr rfl) (jF (qbp T) hr (jA2 (pv 0) qaa))) (jS 6 nd (jF (qlv T) hr (jA4 (pv 1) (pv 2) (pv 4) (jF (qbp T) hr (jA2 (pv 0) qaa))))) (jS 7 nd (qay qbn)) (qb8 PassesOwn.never rfl (qcc rfl T.b_range (jA1 (qae qat qaa (qae qar (jF (qbp T) hr (jA2 (pv 0) qaa)) qaa)))) (jN 8 nd) (qad (qa4 (qee PySem.F.plainAttrs_list PySem.F.slot_list_append PySem.F.type_list_append qbd (pv 7) (jA1 (qaq (jA2 (jF (qmp T) hr (jA2 (pv 5) (pv 8))) (qdf (vars:=[ "_law_j" ]) (frees:=[ "_law_one" ]) (fv:=[5]) rfl (jL1 rfl) ⟨⟨rfl,.inl rfl,rfl,.inl rfl⟩,trivial⟩ (qcc rfl T.b_range (jA1 (qae qar (jF (qah T) hr (jA2 (pv 5) (qae qat qaa (pv 8)))) qaa))) (qco (by decide)) (λ_ _ _ _=>(jM 0 [ "_law_j", "_law_one" ])) (λ_ _ _ _=>qa5) (λ_ _ _ _=>(jF (qmq T) hr (jA2 (pv 1) (pv 0)))))))))))) (jS 9 nd (jF (qhh T) hr (jA5 (qbq qeg (pv 0) (qb0 qaa) (qb0 qaa)) (qdf (vars:=[ "_law_name_here", "_law_marks" ]) (frees:=[]) (fv:=[]) rfl (jL0 rfl) trivial (qa8 (pv 7)) (qci (by decide) (by decide)) (λ_ _ _ _=>(jG2 (jM 0 [ "_law_name_here", "_law_marks" ]) (jM 1 [ "_law_name_here", "_law_marks" ]))) (λ_ _ _ _=>qa5) (λ_ _ _ _=>(pv 0))) (pv 1) (pv 2) (pv 4)))) (jS 10 nd (qaq (jA3 (qbk qbt rfl T.b_list qcz (jA1 (pv 6))) (qdf (vars:=[ "_law_name_here", "_law_marks" ]) (frees:=[]) (fv:=[]) rfl (jL0 rfl) trivial (qa8 (pv 7)) (qci (by decide) (by decide)) (λ_ _ _ _=>(jG2 (jM 0 [ "_law_name_here", "_law_marks" ]) (jM 1 [ "_law_name_here", "_law_marks" ]))) (λ_ _ _ _=>qa5) (λ_ _ _ _=>(qaq (jA2 (pv 0) (qbk (show CallR _ _ (λxs H Q=>∃ p ys,xs=[V.ref p]/\(SqL K H p ys\/SqT K H p ys)/\∀ (l:Addr) (H':Hp),New H H' l (HO.lst ys)->Q (V.ref l) H') from qbt) rfl T.b_list qcz (jA1 (pv 1))))))) (qbk qbt rfl T.b_list qcz (jA1 (pv 9)))))) (jS 11 nd (jX (qlt T) hr (jA5 (pv 3) (pv 4) (jT (pv 10) qaa) (jT (pv 10) qaa) (jT (pv 10) qaa)))) (jS 12 nd (jF (qvp T) hr (jA1 (pv 11)))) (jS 13 nd (jF (qpl T) hr (jA4 (pv 1) (pv 6) (pv 7) (pv 9)))) (qa7 (PW.pt (qhl (jC (qqm hr.units) (pv 10) (qaq (jA3 (pv 6) (pv 7) (pv 9)))) (qhl (jC (qqm hr.units) (qfe (pv 11) T.cl_Book (qlj T) (hr.mono (by decide))) (pv 6)) (qhl (qdt (qc4 (qai qcy rfl T.b_isinstance qaz (jA2 (pv 12) (qd4 (v:=.ty "list") rfl T.b_list qcz rfl))))) (qfb (jC (qqm hr.units) (pv 12) (pv 13))))))) (qad (qak qet)) qap) (qb8 PassesOwn.never rfl (qa8 (pv 12)) (jG4 (jN 14 nd) (jN 15 nd) (jN 16 nd) (jN 17 nd)) (jB4 (qa7 (PW.pt (qhl (qdt (qc4 (jF (qeq T) hr (jA1 (pv 16))))) (qfb (qdt (qc4 (jF (qeq T) hr (jA1 (pv 17)))))))) (qad (qak qet)) qap) (qa4 (qee PySem.F.plainAttrs_list PySem.F.slot_list_append PySem.F.type_list_append qbd (pv 16) (jA1 (qaq (jA3 qaa qaa qaa))))) (qa4 (qup PySem.F.plainAttrs_list PySem.F.slot_list_clear PySem.F.type_list_clear qqt (pv 17))) (qa4 (qee PySem.F.plainAttrs_list PySem.F.slot_list_append PySem.F.type_list_append qbd (pv 15) (jA1 qbb))))) (qa4 (qup PySem.F.plainAttrs_list PySem.F.slot_list_pop PySem.F.type_list_pop qw7 (pv 12))) (qa4 (qee PySem.F.plainAttrs_list PySem.F.slot_list_append PySem.F.type_list_append qbd (jT (pv 10) qaa) (jA1 qaa))) (qak (qfc (jD (qyu hr.units) (jF (qvp T) hr (jA1 (pv 11))) (pv 13)) (qju (jF (qhk T) hr (jA5 (pv 3) (pv 4) (pv 6) (pv 7) (pv 9))))))))),?_⟩;refine qc8 λN hN=>?_
  refine ⟨_,rfl,a,ns,0,rfl,hS,by decide,_,rfl,λtt ls xs ps g H1 s1 fl htt hls hp pb=>?_⟩;refine ⟨tt,_,rfl,SqT.of htt,rfl,_,_,rfl,_,_,rfl,rfl,hN _ _ ?_⟩;refine qes (σ':=[some (.ref a),some (.ref ls),some (gv g),none,none,none,none,none,none,none,none,none,none,none,none,none,none,none]) rfl ?_;refine qc8 λN hN=>?_
  replace hS:=qgx s1 hS
  clear s1 fl htt;dsimp only;refine ⟨_,rfl,ls,_,rfl,.inl (SqL.of hls),λl2 H2 n2=>⟨_,rfl,λru dx H3 s3 f3 d3=>?_⟩⟩;refine ⟨ru,dx,l2,xs,ps,g,rfl,d3,s3 _ _ n2.at_,(hp.same n2.same).same s3,pb.P.good,pb.P.gone,λrl H4 f4 R4 b4=>⟨rfl,qan (hN _ _ ?_)⟩⟩;have s14:Same H1 H4:=b4.same (n2.same.trans s3) (n2.same.free f3)
  replace hS:=qgx s14 hS
  replace hls:=s14 _ _ hls
  replace hp:=hp.same s14
  clear s14 b4 f4 d3 f3 s3 n2;refine qes (σ':=[some (.ref a),some (.ref ls),some (gv g),some (.ref ru),none,none,none,none,none,none,none,none,none,none,none,none,none,none]) rfl ?_;refine qc8 λN hN=>?_
  have d1:0<=(ns[(1:Int).toNat]?.getD 0) % (2*10 ^ 30)/\(ns[(1:Int).toNat]?.getD 0) % (2*10 ^ 30)<2*10 ^ 30:=⟨Int.emod_nonneg _ (by decide),Int.emod_lt_of_pos _ (by decide)⟩;refine ⟨_,rfl,a,ns,1,rfl,hS,by decide,?_⟩
  generalize ns[(1:Int).toNat]?.getD 0=c1 at d1
  refine ⟨_,_,rfl,rfl,by walk_at "c",_,_,rfl,rfl,by walk_at "c",_,_,rfl,rfl,by walk_at "c",_,_,rfl,rfl,by walk_at "c",_,_,rfl,rfl,qan (hN _ _ ?_)⟩;obtain ⟨day,eday⟩:∃ day,day=c1 % (2*10 ^ 30)-10 ^ 30:=⟨_,rfl⟩;have dB:-(10 ^ 31)<=day/\day<=10 ^ 31:=by omega
  refine qes (σ':=[some (.ref a),some (.ref ls),some (gv g),some (.ref ru),some (.int day),none,none,none,none,none,none,none,none,none,none,none,none,none]) (by rw[eday];rfl) ?_;refine qc8 λN hN=>?_
  clear eday d1;have hB:Bd day:=⟨by omega,by omega⟩;refine ⟨_,rfl,a,ns,2,rfl,hS,by decide,qan (hN _ _ ?_)⟩
  generalize ns[(2:Int).toNat]?.getD 0=one
  refine qes (σ':=[some (.ref a),some (.ref ls),some (gv g),some (.ref ru),some (.int day),some (.int one),none,none,none,none,none,none,none,none,none,none,none,none]) rfl ?_;refine qc8 λN hN=>?_
  refine ⟨_,rfl,_,rfl,_,rfl,_,rfl,a,ns,4,rfl,hS,by decide,ls,xs,ps,g,day,_,rfl,hls,hp,pb,dB,λe EV fs fg H5 s5 f5 he gk=>qan (hN _ _ ?_)⟩
  replace hS:=qgx s5 hS
  replace hls:=s5 _ _ hls
  replace hp:=hp.same s5
  replace R4:=R4.same s5
  clear s5 f5;refine qes (σ':=[some (.ref a),some (.ref ls),some (gv g),some (.ref ru),some (.int day),some (.int one),some (.ref e),none,none,none,none,none,none,none,none,none,none,none]) rfl ?_;refine qc8 λN hN=>?_
  refine ⟨Nat.zero_le _,λlnm H6 n6=>qan (hN _ _ ?_)⟩;have n6':=n6;refine qes (σ':=[some (.ref a),some (.ref ls),some (gv g),some (.ref ru),some (.int day),some (.int one),some (.ref e),some (.ref lnm),none,none,none,none,none,none,none,none,none,none]) rfl ?_;refine qc8 λN hN=>?_
  have c3:∀ c:Int,0<=c % 4/\c % 4<4:=λc=>by omega
  refine ⟨_,rfl,a,ns,3,rfl,qgx n6.same hS,by decide,?_⟩
  generalize ns[(3:Int).toNat]?.getD 0=c0
  have c30:=c3 c0;refine ⟨_,_,rfl,rfl,by decide,_,_,rfl,rfl,_,rfl,by omega,by omega,qgb (n:=(1+c0 % 4).toNat) (λi σ H'=>∃ (ys:List V) (NM:List NmR) (v8:Option V),Same H5 H'/\H' lnm=some (.lst ys)/\NmsAt (rmS H' [lnm]) ys NM/\NmI one i NM/\σ=[some (.ref a),some (.ref ls),some (gv g),some (.ref ru),some (.int day),some (.int one),some (.ref e),some (.ref lnm),v8,none,none,none,none,none,none,none,none,none]) ⟨[],[],none,n6.same,n6.at_,.nil,⟨rfl,(by intro n h;cases h),(by intro n h;cases h)⟩,rfl⟩ ?_ ?_⟩
  ·rintro i σ H0 hi ⟨ys,NM,v8,s0,hnm,tnm,ni,rfl⟩
   have yl:=tnm.length;have il:=ni.len;refine qan (qes (σ':=[some (.ref a),some (.ref ls),some (gv g),some (.ref ru),some (.int day),some (.int one),some (.ref e),some (.ref lnm),some (.int (0+i)),none,none,none,none,none,none,none,none,none]) rfl ?_);refine ⟨_,rfl,.inl ⟨rfl,_,SqL.of hnm⟩,_,rfl,_,rfl,one,_,rfl,λH2 s2 sw=>?_⟩;refine ⟨_,rfl,_,rfl,_,_,rfl,rfl,one,_,rfl,by omega,by omega,λm m0 m1=>?_⟩;have m4:=c3 m;refine ⟨_,_,rfl,rfl,by decide,_,rfl,by omega,by omega,qek (n:=(m % 4).toNat) (λj vs H3=>Same H2 H3/\vs=(qx3 one j).map tS/\∀ i,i<j->qas 8 (mkF one (0+(i:Nat)))) (qbf (by omega)) ⟨Same.refl _,rfl,λi hi=>by omega⟩ (λj vs H3 h3=>by rw[h3.2.1,List.length_map];unfold qx3;rw[List.length_map,List.length_range];exact Nat.le_refl _) ?_ ?_⟩
   ·rintro j vs H3 hj ⟨s3,rfl,sm⟩
    refine qan (qhy (qck ⟨_,rfl,_,rfl,one,_,rfl,λH4 s4 sm4=>⟨s3.trans s4,?_,λk hk=>?_⟩⟩))
    ·rw[qsq,List.map_append];rfl
    ·rcases (show k<j\/k=j by omega) with z|z
     ·exact sm k z
     ·rw[z];exact sm4
   rintro vs H3 lm H4 ⟨s3,rfl,sm⟩ n4;refine ⟨qbf (by simp),λt5 H6 n6=>?_⟩;have s04:=s2.trans (s3.trans n4.same);have s06:=s04.trans n6.same;refine ⟨lnm,ys,_,rfl,rfl,s06 _ _ hnm,qam (by omega),λH7 b7 h7=>?_⟩;have nf:∀ {c:Addr} {G:Hp},Same H0 G->G c=none->c ∉ [lnm]:=fun {c G} sg hc z=>by
    rw[List.mem_singleton.mp z,sg _ _ hnm] at hc;cases hc
   have up:∀ {c:Addr} {o:HO},H6 c=some o->c ∉ [lnm]->rmS H7 [lnm] c=some o:=fun {c o} e n=>qbe (b7 _ _ e (λz=>n (List.mem_singleton.mpr z))) n
   refine ⟨_,_,_,b7.same (s0.trans s06) n6'.fresh,h7,qok ⟨t5,lm,rfl,up n6.at_ (nf s04 n6.fresh),up (n6.same _ _ n4.at_) (nf (s2.trans s3) n4.fresh)⟩ (tnm.same λc o e=>up (s06 _ _ (qbi e).1) (qbi e).2),ni.snoc sw (qAn (by omega) sm),rfl⟩
  rintro σ H7 ⟨ys,NM,v8,s7,hnm,tnm,ni,rfl⟩;refine hN _ _ ?_
  replace hS:=qgx s7 hS
  replace hls:=s7 _ _ hls
  replace hp:=hp.same s7
  replace R4:=R4.same s7
  replace he:=s7 _ _ he
  replace tnm:=tnm.same qc3
  have nok:=ni.ok (by omega);have nl:=ni.len;have nlen:=ni.all;have yl:=tnm.length;clear s7 n6 ni;refine qc8 λN hN=>?_
  obtain ⟨cs,ecs,lcs⟩:=qAo ns;refine ⟨_,rfl,5,rfl,21,rfl,a,_,rfl,hS,λlc H8 n8=>?_⟩;rw[ecs] at n8;refine ⟨_,rfl,lnm,rfl,⟨_,SqL.of (n8.same _ _ hnm)⟩,qca (xs:=ys) (λi vs H'=>H'=H8/\vs=((NM.take i).map (·.1)).map tS) (qbf (by omega)) ⟨rfl,rfl⟩ (λi vs H' h'=>⟨by rw[h'.1];exact SqL.of (n8.same _ _ hnm),by rw[h'.2,List.length_map,List.length_map,List.length_take];omega⟩) ?_ ?_⟩
  ·rintro i y vs H6 hi ⟨rfl,rfl⟩
   obtain ⟨n,hn,a,l,rfl,ha,_⟩:=tnm.get hi;refine ⟨a,_,rfl,SqT.of (n8.same _ _ ha),rfl,_,_,rfl,_,_,rfl,rfl,qhy (qck ⟨_,rfl,rfl,?_⟩)⟩;rw[List.take_add_one,hn,List.map_append,List.map_append];rfl
  rintro vs H6 ln H9 ⟨rfl,rfl⟩ n9;rw[yl,List.take_length] at n9;have s79:=n8.same.trans n9.same;refine ⟨_,rfl,_,rfl,_,rfl,lc,ln,ls,cs,NM.map (·.1),xs,ps,g,day,rfl,n9.same _ _ n8.at_,by omega,n9.at_,by rw[List.length_map];omega,by rw[List.length_map];omega,s79 _ _ hls,hp.same s79,pb,dB,λlrd zs RS H10 s10 _ hrd trd rl16 rok=>qan (hN _ _ ?_)⟩;have s710:=s79.trans s10
  replace hls:=s710 _ _ hls
  replace hp:=hp.same s710
  have F:F74 C_Rule ru rl e lnm lrd ps g EV ys zs NM RS H10:=⟨R4.same s710,s710 _ _ he,s710 _ _ hnm,tnm.same s710,hrd,trd⟩;have ev0:EdS EV fs fg:=by have:=gk.2.2.E;rwa [<- gk.1] at this
  have evl:EV.length=ps.length+1:=by rw[gk.1,List.length_append,List.length_map,gk.2.1];rfl
  have G:G74 ps g day EV fs fg NM RS ((qmo one).length+1):=⟨pb.P,pb.wb,hB,⟨fs,fg,gk.1,ev0,gk.2.1,gk.2.2⟩,ev0.ed,evl,nok,by omega,by omega,nlen,by omega,λr hr=>⟨(rok r hr).1,(rok r hr).2.lt.2.1,(rok r hr).2.lt.1⟩⟩;have rok2:∀ r∈RS,qje r.2.1/\qpq r.2.2:=λr hr=>(rok r hr).2.lt.2
  clear s79 s10 s710 n8 n9 hrd trd hnm tnm he R4 hS nlen ecs rok gk;refine qes (σ':=[some (.ref a),some (.ref ls),some (gv g),some (.ref ru),some (.int day),some (.int one),some (.ref e),some (.ref lnm),v8,some (.ref lrd),none,none,none,none,none,none,none,none]) rfl ?_;have zl:zs.length=RS.length:=F.trd.length;refine qc8 λN hN=>?_
  refine ⟨_,rfl,e,_,rfl,.inl (SqL.of F.he),λh0 H11 n11=>?_⟩;refine ⟨_,rfl,lnm,rfl,⟨_,SqL.of (n11.same _ _ F.hnm)⟩,qca (xs:=ys) (λi vs H'=>Same H11 H'/\NmsAt H' vs (NM.take i)) (qbf (by omega)) ⟨Same.refl _,.nil⟩ (λi vs H' h'=>⟨SqL.of (h'.1 _ _ (n11.same _ _ F.hnm)),by have:=h'.2.length;rw[List.length_take] at this;omega⟩) ?_ ?_⟩
  ·rintro i y vs H6 hi ⟨s6,t6⟩
   obtain ⟨n,hn,a,l,rfl,ha,hl⟩:=F.tnm.get hi;refine ⟨a,_,rfl,SqT.of (s6 _ _ (n11.same _ _ ha)),rfl,_,_,rfl,_,_,rfl,rfl,qhy (qck ⟨_,rfl,_,rfl,l,_,rfl,.inl (SqL.of (s6 _ _ (n11.same _ _ hl))),λl2 H7 n7=>⟨qbf (by simp),λt8 H8 n8=>⟨s6.trans (n7.same.trans n8.same),?_⟩⟩⟩)⟩;rw[List.take_add_one,hn];exact qok ⟨t8,l2,rfl,n8.at_,n8.same _ _ n7.at_⟩ (t6.same (n7.same.trans n8.same))
  rintro vs H12 h1 H13 ⟨s12,t12⟩ n13;rw[yl,List.take_length] at t12;have s1113:=s12.trans n13.same;have s1013:=n11.same.trans s1113;refine ⟨_,rfl,lrd,_,rfl,.inl (SqL.of (s1013 _ _ F.hrd)),λh2 H14 n14=>⟨qbf (by simp),λth H15 n15=>qan (hN _ _ ?_)⟩⟩;have s1315:=n14.same.trans n15.same;have s15:=s1013.trans s1315;have hh0:=s1315 _ _ (s1113 _ _ n11.at_);have hh1:=s1315 _ _ n13.at_;have hh2:=n15.same _ _ n14.at_;have th1:=t12.same (n13.same.trans s1315);have hth:=n15.at_;have fh0:=n11.fresh;have F15:=F.same s15;refine qes (σ':=[some (.ref a),some (.ref ls),some (gv g),some (.ref ru),some (.int day),some (.int one),some (.ref e),some (.ref lnm),v8,some (.ref lrd),some (.ref th),none,none,none,none,none,none,none]) rfl ?_;clear s12 t12 s1113 s1013 s1315 n11 n13 n14 n15;have nT:=G.nmT;have rlf:rl≠h0:=λz=>by obtain ⟨xs,q,_⟩:=F.ru.ls;rw[z,fh0] at q;cases q
  have out0:qjs ps EV NM RS=0:=qe7 G.el nok.out (by
   have:=qer (NM.map (·.1)) [] RS λr hr=>by
    obtain ⟨a,_,c⟩:=G.rs r hr;obtain ⟨n,hn,e⟩:=List.mem_map.mp a;exact ⟨⟨by rw[<- e];exact nok.sm n hn,a⟩,c.2.2.1⟩
   rw[List.append_nil] at this;exact this)
  refine qc8 λN hN=>?_
  refine ⟨_,rfl,_,rfl,_,rfl,th,_,0,_,rfl,rfl,SqT.of hth,rfl,_,rfl,th,_,1,_,rfl,rfl,SqT.of hth,rfl,_,rfl,th,_,2,_,rfl,rfl,SqT.of hth,rfl,?_⟩;refine ⟨ru,rl,h0,h1,h2,ps,g,day,EV,fs,fg,_,zs,NM,RS,[h0],rfl,F15.ru,G.P,G.wb,hB,hh0,G.ed,λ_=>G.ev,hh1,th1,.of nT (by have:=G.hi;omega),hh2,F15.trd,⟨λr hr=>?_,by have:=G.rl;omega⟩,(λl hl=>by rw[List.mem_singleton.mp hl];exact ⟨_,hh0⟩),(by simpa using rlf),λc hc hn=>absurd (hc.symm.trans out0) hn,λ_ b le dm dr X H16 B16 xk en er _ s16 _ _ _ _=>qan (hN _ _ ?_)⟩
  ·obtain ⟨a,b,c⟩:=G.rs r hr
   obtain ⟨n,hn,e⟩:=List.mem_map.mp a;exact ⟨by rw[<- e];exact (nT n hn).1,b,λ_=>c⟩
  refine qes (σ':=[some (.ref a),some (.ref ls),some (gv g),some (.ref ru),some (.int day),some (.int one),some (.ref e),some (.ref lnm),v8,some (.ref lrd),some (.ref th),some (.ref b),none,none,none,none,none,none]) rfl ?_;have XG:qAa X 60:=by
   have inn:∀ p∈X,(p.1,p.2.2.2.2)∈NM:=λp hp=>by rw[<- en];exact List.mem_map.mpr ⟨p,hp,rfl⟩
   refine ⟨xk,λp hp=>nok.sm _ (inn p hp),λp hp=>nok.mm _ (inn p hp),?_,λp hp=>?_⟩
   ·have:=congrArg List.length en
    rw[List.length_map] at this;have:=G.hi;omega
   ·rw[er p hp]
    have:=qf7 RS p.1;have:=G.rl;omega
  refine qc8 λN hN=>?_
  refine ⟨_,rfl,b,_,fs,fg,X,rfl,B16.same qc3,XG,λlf ws ra H17 s17 hlf tra fra yb toa=>qan (hN _ _ ?_)⟩;refine qes (σ':=[some (.ref a),some (.ref ls),some (gv g),some (.ref ru),some (.int day),some (.int one),some (.ref e),some (.ref lnm),v8,some (.ref lrd),some (.ref th),some (.ref b),some (.ref lf),none,none,none,none,none]) rfl ?_;refine qc8 λN hN=>?_
  have s1517:=s16.trans s17;have s1017:=s15.trans s1517;have F17:=F.same s1017;refine ⟨_,rfl,_,rfl,_,rfl,_,rfl,e,EV,fs,fg,ls,xs,ps,lnm,lrd,ys,zs,NM,RS,rfl,F17.he,ev0,by have:=evl;rw[ev0.eq] at this;simp at this;omega,s1017 _ _ hls,hp.same s1017,pb.P.size,pb.P.good.lo,pb.P.good.hi,pb.P.good,F17.hnm,F17.tnm,nok,λn hn=>(nT n hn).2.1,F17.hrd,F17.trd,by have:=G.rl;omega,rok2,λld wd rd H18 s18 hld trd frd dud=>qan (hN _ _ ?_)⟩;refine qes (σ':=[some (.ref a),some (.ref ls),some (gv g),some (.ref ru),some (.int day),some (.int one),some (.ref e),some (.ref lnm),v8,some (.ref lrd),some (.ref th),some (.ref b),some (.ref lf),some (.ref ld),none,none,none,none]) rfl ?_;have erd:=qoj nok.nd en er toa dud;have dok:=qAl nok dud;have s1018:=s1017.trans s18;have F18:=F.same s1018;have s1518:=s1517.trans s18;have B18:=(B16.same qc3).same (s17.trans s18);obtain ⟨dxb,hob⟩:=B18.ob;refine qc8 λN hN=>?_
  refine ⟨_,rfl,_,rfl,_,rfl,_,rfl,qbf (by simp),λt19 H19 n19=>?_⟩;have F19:=F18.same n19.same;have s1519:=s1518.trans n19.same;refine qD1 (s1519 _ _ hth) (s1519 _ _ hh0) (s1519 _ _ hh1) (th1.same s1519) (s1519 _ _ hh2) (F19.trd) n19.at_ F19.he F19.hnm F19.tnm F19.hrd F19.trd G.ed nok (λr hr=>(G.rs r hr).1) ⟨_,rfl,qdw ?_⟩;refine ⟨_,rfl,b,dxb,_,rfl,n19.same _ _ hob,bno,b,_,fs,fg,X,rfl,B18.same n19.same,λp20 H20 n20=>⟨_,rfl,?_⟩⟩;have s1820:=n19.same.trans n20.same;have s1020:=s1018.trans s1820;have s1720:=s18.trans s1820;have evE:=ev0.eq;refine neE n20.at_ (by rw[<- evE];exact s1020 _ _ F.he) (by rw[<- evE];exact G.ed) ⟨_,rfl,qdw ?_⟩;have hlf20:=s1720 _ _ hlf;have tra20:=tra.same s1720;refine ⟨_,rfl,_,_,_,_,rfl,TyOf.lst hlf20,qna K,_,rfl,qdw ?_⟩;have hld20:=s1820 _ _ hld;have trd20:=trd.same s1820;refine ⟨_,rfl,_,rfl,qCv (n:=true) erd hlf20 tra20 hld20 trd20 (by rw[erd];exact dok) ⟨_,rfl,qdw (hN _ _ ?_)⟩⟩;have nd:=fra.nd;rw[List.nodup_cons] at nd;have lss:=tra20.lists;have s1520:=s1518.trans s1820;refine qc8 λN hN=>?_
  refine ⟨_,rfl,lf,rfl,⟨_,SqL.of hlf20⟩,qb2 (xs:=ws) (λj σ H'=>∃ (v14 v15 v16 v17:Option V),(∀ c o,H20 c=some o->c ∉ lsA (ra.take j)->H' c=some o)/\σ=[some (.ref a),some (.ref ls),some (gv g),some (.ref ru),some (.int day),some (.int one),some (.ref e),some (.ref lnm),v8,some (.ref lrd),some (.ref th),some (.ref b),some (.ref lf),some (.ref ld),v14,v15,v16,v17]) ⟨none,none,none,none,λc o e _=>e,rfl⟩ (λj σ H' _ ⟨_,_,_,_,kp,_⟩=>SqL.of (kp _ _ hlf20 λz=>nd.1 (qol z))) ?_ ?_⟩
  ·rintro j y σ H3 hyj ⟨v14,v15,v16,v17,kp,rfl⟩
   obtain ⟨r,hr,a4,ys',zs',rfl,h0',h1',h2',t2,h3',t3⟩:=qgn tra20 hyj;obtain ⟨nin,n12,n13,n23⟩:=qAp nd.2 hr;obtain ⟨⟨x,ms,ab⟩,l1,l2,l3⟩:=r;dsimp only at h0' h1' h2' h3' t2 t3 nin n12 n13 n23;have tup:TupS H20 H3:=λc xs e=>kp _ _ e λz=>by obtain ⟨zs,q⟩:=lss _ (qol z);rw[q] at e;cases e
   have k1:=kp _ _ h1' (nin _ (by simp));have k2:=kp _ _ h2' (nin _ (by simp));have k3:=kp _ _ h3' (nin _ (by simp));refine ⟨a4,_,rfl,SqT.of (tup _ _ h0'),rfl,_,_,rfl,_,_,rfl,_,_,rfl,_,_,rfl,rfl,?_⟩;refine qes (σ':=[some (.ref a),some (.ref ls),some (gv g),some (.ref ru),some (.int day),some (.int one),some (.ref e),some (.ref lnm),v8,some (.ref lrd),some (.ref th),some (.ref b),some (.ref lf),some (.ref ld),some (tS x),some (.ref l1),some (.ref l2),some (.ref l3)]) rfl ?_;refine qc8 λN hN=>?_
   refine ⟨_,rfl,l2,ys',_,rfl,k2,t2.tupS tup,⟨_,rfl,qdw ⟨_,rfl,l3,zs',_,rfl,k3,t3.tupS tup,⟨_,rfl,qdw (hN _ _ ?_)⟩⟩⟩⟩;refine qc8 λN hN=>?_
   have yl9:ys'.length<=900:=by rw[t2.length];exact yb _ (List.mem_of_getElem? hr)
   refine ⟨_,rfl,.inl ⟨rfl,_,SqL.of k2⟩,qbf (by simp),λt4 H4 n4=>⟨l2,ys',_,rfl,rfl,n4.same _ _ k2,qam (by omega),λH5 b5 _=>hN _ _ ?_⟩⟩;refine qc8 λN hN=>?_
   have k3':=b5 _ _ (n4.same _ _ k3) (λz=>n23 z.symm);refine ⟨_,rfl,.inl ⟨rfl,_,SqL.of k3'⟩,l3,_,rfl,rfl,k3',λH6 b6 _=>hN _ _ ?_⟩;have k1':=b6 _ _ (b5 _ _ (n4.same _ _ k1) n12) n13;have ms8:ms.length<=8:=by
    have:=dok _ (by rw[<- erd];exact List.mem_map.mpr ⟨_,List.mem_of_getElem? hr,rfl⟩);obtain ⟨e1,he1,m1,_⟩:=toa.2 _ (List.mem_map.mpr ⟨_,List.mem_of_getElem? hr,rfl⟩);have m1:ms=qby e1.2.2.2:=m1;rw[m1,(qb1 _).length_eq];have:=(XG.mm _ he1).2.2
    rwa [List.length_map] at this
   refine ⟨_,rfl,.inl ⟨rfl,_,SqL.of k1'⟩,l1,_,_,rfl,rfl,k1',qam (by rw[List.length_map];omega),λH7 b7 _=>⟨_,_,_,_,λc o e nc=>?_,rfl⟩⟩;have nc':=λz=>nc ((quk hr).mpr z)
   have ne:∀ l∈[l1,l2,l3],c≠l:=λl hl z=>nc' (.inr (z ▸ hl))
   exact b7 _ _ (b6 _ _ (b5 _ _ (n4.same _ _ (kp _ _ e λz=>nc' (.inl z))) (ne _ (by simp))) (ne _ (by simp))) (ne _ (by simp))
  rintro σ H21 ⟨v14,v15,v16,v17,kp,rfl⟩;have wl:=tra20.length;rw[wl,List.take_length] at kp;refine hN _ _ ?_;refine qc8 λN hN=>?_
  have rl1:1<=ra.length:=by
   have:=congrArg List.length toa.1;rw[List.length_map,List.length_map,(qb1 _).length_eq,List.length_map] at this;have e2:=congrArg List.length en;rw[List.length_map] at e2;have:=G.lo;omega
  obtain ⟨wi,wz,ew⟩:∃ wi wz,ws=wi ++ [wz]:=⟨ws.dropLast,ws.getLast (λz=>by rw[z] at wl;simp at wl;omega),(List.dropLast_concat_getLast _).symm⟩;have hlf21:=kp _ _ hlf20 nd.1;refine ⟨_,rfl,.inl ⟨rfl,_,SqL.of hlf21⟩,lf,wi,wz,rfl,rfl,by rw[<- ew];exact hlf21,λH22 b22 _=>hN _ _ ?_⟩;refine qc8 λN hN=>?_
  have n17:∀ {c:Addr} {o:HO},H16 c=some o->c ∉ lsA ra/\c≠lf:=fun {c o} e=>⟨λz=>(by have:=fra.fr c (List.mem_cons_of_mem _ z);rw[e] at this;cases this),λz=>(by have:=fra.fr lf List.mem_cons_self;rw[<- z,e] at this;cases this)⟩
  have s1622:Same H16 H22:=λc o e=>b22 _ _ (kp _ _ (s1720 _ _ (s17 _ _ e)) (n17 e).1) (n17 e).2
  have hth22:=s1622 _ _ (s16 _ _ hth);have hh022:=s1622 _ _ (s16 _ _ hh0);have el6:EV.length<=6:=by have:=pb.P.good.hi;omega
  refine ⟨_,rfl,th,_,0,_,rfl,rfl,SqT.of hth22,rfl,.inl ⟨rfl,_,SqL.of hh022⟩,h0,EV,_,rfl,rfl,hh022,qam (by omega),λH23 b23 _=>hN _ _ ?_⟩;have s1023:Same H10 H23:=λc o e=>b23 _ _ (s1622 _ _ (s16 _ _ (s15 _ _ e))) λz=>by rw[z,fh0] at e;cases e
  have B23:=B16.same (λc o e=>b23 _ _ (s1622 _ _ (qbi e).1) λz=>(qbi e).2 (by rw[z];simp):Same (rmS H16 [h0]) H23);have n18:∀ l∈ld :: lsA rd,l ∉ lsA ra/\l≠lf/\l≠h0:=λl hl=>by
   have f:=frd l hl;refine ⟨λz=>fra.ex l (List.mem_cons_of_mem _ z) f,λz=>fra.ex lf List.mem_cons_self (z ▸ f),λz=>?_⟩;rw[z,s1517 _ _ hh0] at f;cases f
  have upd':∀ {c:Addr} {o:HO},H20 c=some o->(c ∉ lsA ra/\c≠lf/\c≠h0)->H23 c=some o:=fun {c o} e n=>b23 _ _ (b22 _ _ (kp _ _ e n.1) n.2.1) n.2.2
  have tup23:TupS H20 H23:=λc xs e=>upd' e ⟨λz=>(by obtain ⟨zs,q⟩:=lss _ z;rw[q] at e;cases e),λz=>(by rw[z,hlf20] at e;cases e),λz=>(by rw[z,s1520 _ _ hh0] at e;cases e)⟩
  have hld23:=upd' hld20 (n18 ld List.mem_cons_self);have trd23:TRowsA H23 wd rd:=trd20.upL tup23 λl o hl e=>upd' e (n18 l (List.mem_cons_of_mem _ hl))
  refine ⟨_,rfl,b,_,fs,fg,X,rfl,B23,XG,λlg wg rg H24 s24 hlg trg _ _ tog=>⟨_,rfl,?_⟩⟩;have erg:=qoj nok.nd en er tog dud;refine qCv (n:=false) erg hlg trg (s24 _ _ hld23) (trd23.same s24) (by rw[erg];exact dok) ⟨_,rfl,qck ?_⟩;exact ⟨_,rfl,_,rfl,_,rfl,_,rfl,_,rfl,ru,rl,e,lnm,lrd,ps,g,day,EV,fs,fg,ys,zs,NM,RS,_,rfl,(F.same s1023).same s24,G,λH' _=>k H'⟩
end
theorem walk {l:PySem.W.OpenLaw} {q:Program} {loose:List Str} {XP:(Str->Option Value)->Heap->Prop} {YP:World->Heap->Prop} {d:DefRec} {K:Params->Frag} (hn:l.most=some 63) (hdf:d.params.defaults=[]) (hdn:d.name = "law")
  (hY:∀ (w:World) (h:Heap),YP w h->(K w.params).In h)
  (F:∀ (w:World) (mg:Str->Option Value) (h:Heap),(K w.params).In h->h.Ns mainGlobals mg->∃ C_Roll C_Rule C_Book C_BookError C_NoNumber C_NoRule C_Backward C_NoName C_NoMark,Txt (K w.params) mg C_Roll C_Rule C_Book C_BookError C_NoNumber C_NoRule C_Backward C_NoName C_NoMark) :
  PySem.W.WalkO q loose XP YP l.row.toRowW d [] (λf vs=>PySem.call f vs):=by
 refine L2.qwb (n:=63) (k:=12) (x:= "_law_script") (CX:=λ_=>CX0) (sp:=λw=>qu8 (K w.params)) hn (by decide) hdf ⟨rfl,by decide,by decide⟩ hY (λw mg fa h kin ns hm=>?_) (λ_ _ a ns hl _ hS=>⟨a,ns,rfl,hS,hl,λ_=>rfl⟩) λ_ _ _ _ _ z=>z
 obtain ⟨C_Roll,C_Rule,C_Book,C_BookError,C_NoNumber,C_NoRule,C_Backward,C_NoName,C_NoMark,T⟩:=F w mg h kin ns;obtain ⟨f,fd,Fu,hm'⟩:=T.f_law;rw[hdn,hm'] at hm;cases hm;refine ⟨fd,?_,λbase kb nb=>qCh T Fu⟩;obtain ⟨oc,od,kV,doc,pm,an,cdv,ct,osl,rfl,lk,hcd⟩:=Fu.ex;exact λs u=>.of_eq rfl
end TB
local macro_rules|`(universe $x*)=>do return Lean.mkNullNode (<- x.mapM fun y=>`(command|theorem $y:ident :True:=⟨⟩))
namespace PySem.W.Fast
universe tw9453500679861388488 tw8564745388338794034 tw11220734909976944327 tw14116507171552544574 tw5263670033376248774 tw616906041206319479 tw177144571057228734 tw15449034558212935505 tw220594048341750003 tw2394879641600874629 tw6200113938649849418 tw11107412321628831031 tw7550843395956336484 tw16623266374655644786 tw17668576932084486764 tw3856359835107894958 tw5864185072083938821 tw2675716224367533779 tw14400802089630205787 tw15054668469899409843 tw18224592119901014882 tw9864452177711411005 tw11363433598360143950 tw9691105711562036806 tw5420581626414306673 tw13480263790881428661 tw15263093439076586149 tw3329288100226235134 tw17442242845974609938 tw925261322165380767 tw16571285279711537793 tw14314940849810459097 tw9913733281193516991 tw4277428207121241313 tw296105382687938062 tw15506990227935094068 tw15836684641877815148 tw13745257346323571015 tw11142735964886255673 tw4723608127501646840 tw1384709049315040785 tw3491845067319280678 tw8100827620453417032 tw13424216758479064573 tw14029774460193640766 tw5118794039147692809 tw6568113584078447896 tw12163323239995286851 tw2777745069750602079 tw7125921968386283255 tw7801025896260922704 tw7318260493005161238 tw10917366961755852531 tw14832243356250768412 tw8829407338926896599 tw14112907107573322608 tw6144212429136980074 tw15999348387212401484 tw16298631064424747389 tw17587647798187975406 tw8620154004681521979 tw7383553443465330775 tw12036892465050935621 tw12154372635942566216 tw15858858274791525322 tw15691471729140039397 tw10772077874817122061 tw5368752968572713826 tw7429547831716327824 tw10458969890752636778 tw7436455165976672529 tw14982720056497601056 tw10206368668011542280 tw18096740039121479430 tw15108704159628119460 tw16035973989912379480 tw16936490778357066860 tw9170730754894016867 tw15631051714235568028 tw13177967649841032155 tw13087349885839071495 tw6682635252461529209 tw852069828056091805 tw3407020068981702645 tw12369015121198954894 tw4276855936048329688 tw11503285143395480926 tw5646300483084985579 tw4345098906168577975 tw5851626941120008786 tw4089613607018292753 tw6770610043787053355 tw6298573977278970711 tw8943351761944617403 tw5914955506819718260 tw5588519934332127757 tw9931076474932901475 tw10253355914307602407 tw3529631763202554192 tw1665262095066579428 tw3806698157207017280 tw5762671517475670388 tw10329765668417877906 tw11204551007069663911 tw6273114327787435684 tw9798662736577158405 tw9240175966171738822 tw5434157441563958635 tw8832226138811613938 tw9765420828539934001 tw7890960372246918866 tw15655509358761095300 tw3595548056611708266 tw12706979069685374294 tw6243286357611143241 tw3639345669853984967 tw3370772181834685696 tw16404268764085127402 tw18159433277120795846 tw15801737332010667127 tw17874440829835085717 tw3187312565227554688 tw3049061872875507395 tw6943577798909204542 tw17402770031641365991 tw13196571236707028989 tw12002185210527577174 tw7724109861466643472 tw3551525987433289775 tw89282203637324470 tw794328223999130200 tw16842053820577802582 tw8074438518796868505 tw14833774046710436097 tw7405207412041291268 tw4853050358896375629 tw15695416189438684442 tw10084199676665563878 tw15125253545607957852 tw4568746469894510985 tw12578388984159984921 tw16174918822105210045 tw14754618690291888490 tw6256168089792393984 tw13281121666738652328 tw5385290490360382060 tw14197539576571189744 tw3651722067015336782 tw2666191592379630772 tw14899691299251580697 tw15806662169465615244 tw835173674104440656 tw6341807150786615812 tw8048286714734547825 tw3929680232479567365 tw12115236687472525880 tw4163134570929842134 tw17417493513502841415 tw9931989720491851905 tw8406413150868243569 tw1834918463336193876 tw539169630343758438 tw7369479045104476287 tw194830033745925396 tw702238694325037996 tw2410429010364546130 tw3802985329386687971 tw14209186830101099046 tw10691076490602199910 tw15907700602527589054 tw12422673402597427919 tw14689467230412393231 tw10249099684279466015 tw5064932094528254094 tw14252222958685854753 tw13144214642073815305 tw1614039687769439150 tw13720471947321800290 tw6099210340802619246 tw14321978227455829720 tw9163910830819959548 tw14364240094779885003 tw7734888926036212441 tw16643504924634191471 tw8119148417004891263 tw887313945401085191 tw9202965622763701029 tw16440268019344272748 tw1504421096393132688 tw641791477488479859 tw15232224473293411019 tw5366084568241283026 tw5762372965800743569 tw16066804783407851014 tw2543314070319753892 tw14983104058007234089 tw16863173285915495594 tw10149673515614697056 tw7393373328316075339 tw16841504710127280617 tw3969410815656951298 tw3032317729454554695 tw7478555776081402802 tw10489387408495351479 tw14490733198232791025 tw4414732412741007131 tw15653253855778653021 tw16294666985852961047 tw1070720082692813147 tw5196958440906172868 tw8764271291753147361 tw2037700291771801415 tw8307717682519850518 tw7427805308870020030 tw13970963857292366001 tw4804926454991090047 tw6651537711666216815 tw6615476788251425310 tw3743169101891220075 tw11953116597507199885 tw2451792609340307328 tw4539146060927372370 tw10591851927027829250 tw9085696902115921797 tw16615718859591319323 tw7288773130939102990 tw16149042115858718160 tw8614574396586599292 tw4942866419632574092 tw9001282026609358170 tw7403984815216010655 tw14576493813546801455 tw10158256705139048273 tw10821777491966980122 tw6089204823896341277 tw3211457831488035916 tw15915327470258293439 tw10684026538787910330 tw2793268093763219865 tw3151573269069006668 tw13525829054479680542 tw4120711093482324359 tw5403057699648554471 tw1627142903780226982 tw7180131665262515744 tw14510965844710300130 tw5839519895740397350 tw14222371257653276595 tw10200126720065751409 tw16378241841623582814 tw5251957824068920702 tw16055487731206950062 tw1151687948913001040 tw10499339772050944267 tw14386178704548734232 tw2885630200417481464 tw9382827382568549414 tw14611684563088330456 tw11805186996313615559 tw1506518271997516975 tw8529582097562963543 tw14236017825500764809 tw9911869292188197747 tw13538910468962627074 tw11115914305678094821 tw2706316393276004252 tw9177934930051820851 tw5176953412434481297 tw1389623663834151995 tw15967504306694510846 tw12060841059417310695 tw2528464165550245395 tw17293928766942861568 tw5344107135314309996 tw1981093321767125872 tw16128250997956471558 tw16106570576704995957 tw14429682785124940133 tw13088810446372386332 tw1191355518246983192 tw5909472373878132870 tw6646210230873745810 tw4771697448369873348 tw15938845186890656426 tw7172711037062547812 tw2994252544750401716 tw7315719854195254073 tw3174679184304046755 tw964413576897230668 tw6831173609344977536 tw2197617222588872066 tw15193690775214690291 tw10122626321801307889 tw5490873491507953991 tw12054250932914863267 tw11508757894300524459 tw299655970366346373 tw18038631986608925759 tw12445810436462289779 tw9976887834141781361 tw3394978509415019586 tw17144974277825580600 tw13157099026600176634 tw622596779151021000 tw4613762356383271407 tw16779563937294222617 tw14053943339214039298 tw14274074450015555198 tw11653842164125201886 tw7579204610424009904 tw6472393608906415579 tw4622061944642151914 tw15353554395405588431 tw20053270272673302 tw2408502051960440421 tw9808772701688223474 tw8714053570382835125 tw16611327671783916955 tw14028688748100276197 tw14052140510210148384 tw9558106703275066725 tw15057510163791647674 tw737406921413634969 tw3291865960143368495 tw17336289195405156771 tw14622108392813293356 tw461457235970272699 tw4311826230092281841 tw9399272785990905095 tw4425514062115753396 tw15454663824070289030 tw14585845292033468766 tw4041192111169339320 tw9662383205551966916 tw6714883659946139065 tw4895128082458437231 tw7975692344865441727 tw13647041043894397277 tw9362388671909523974 tw16918741726280856576 tw14892688679975644258 tw13879238562949616688 tw1132048427281352793 tw10007553437299361559 tw9784405585552733382 tw13553080551294995696 tw16734187267756597735 tw16549942112005169326 tw12206743953104916692 tw11309976683619039039 tw5153160628930635036 tw5919868583817827773 tw5536832916594605717 tw5283104688618290048 tw3888166892922501436 tw9545267737869349564 tw6385301196113245221 tw12218153196428315316 tw5575603068896160408 tw4820228757534440435 tw6798236906440065281 tw2654322067348404859 tw17810584737168062501 tw17763217554391858245 tw15474439058713749286 tw1821221139006557101 tw1343839721823695594 tw7911967879567932405 tw10117898041108314527 tw15671942046683686677 tw6855039328000667547 tw6797409110478343623 tw2638713153249197692 tw10880643970757892263 tw6264988340497221038 tw11468359615304011863 tw10444152820858202810 tw4820941591230199330 tw12556223647415836233 tw15189219371114637642 tw29090405681590194 tw17606968809448611013 tw8291994182032103202 tw17874590283672074893 tw17712831462793196691 tw5879338495664965732 tw14729902440748185715 tw5940575045416371064 tw5565602080964943010 tw2760856017153860506 tw11469623781386139766 tw844480906425789123 tw16185787002685523629 tw290209729161186877 tw17253396352422221871 tw3241655666997460657 tw12522867236038365148 tw6004479717584790099 tw1769803547428745772 tw13109416428269410523 tw5871131649473321809 tw18022886105955973060 tw2761416436178422934 tw15304946395374994677 tw8024690964575082222 tw4119301157137502593 tw18327701899746972737 tw17341603455092586270 tw14826297435362252730 tw1447908247874481794 tw15894540684528777814 tw8286927675611952589 tw9487156575149519886 tw14264549517210598292 tw13151389853183703544 tw10317350529921367604 tw790372736927679465 tw7879277087703397978 tw7477340571572854248 tw7443448909167590535 tw7161207175797528319 tw4367107597003968920 tw3320411795115943787 tw1452180878196440539 tw14588265326144529030 tw10528152669765187441 tw10173433774409354356 tw4261263698349690066 tw259129714021096527 tw13731830092893332551 tw12776902044928190461 tw5539573161498704040 tw17130149942325713970 tw6455672461846336680 tw3030531965708180813 tw18229977279804505532 tw17334520585288479166 tw13210721225183302620 tw9946806095070495165 tw7905554155694410002 tw5101022206337517177 tw4767456613213826021 tw3482906757499116652 tw3078645129409124090 tw2116253313375511497 tw16640972120301953405 tw16582218394357312411 tw14975803074510170954 tw14327266405117676157 tw14032258797224093281 tw12596051035381497094 tw11069346826972643604 tw8962991175194923264 tw8619012629793404205 tw5836739480401293313 tw2122474086272863425 tw18110714404279767902 tw16005207979766849119 tw1527037855004159711 tw13924190130058548768 tw13681170305611382922 tw11147711788452810997 tw5174326895438850990 tw4575465375805937178 tw410376957331628122 tw3033705859196298603 tw2343416660155073789 tw1864076891153684155 tw15955856656892136207 tw15253791216257183067 tw13162276300849205276 tw10932306595957626034 tw3163016090393878828 tw2062606689069474601 tw12070885961558209040 tw6353905422734045953 tw3917378352812766657 tw16081018653936318863 tw15954068967081263120 tw11022744784713734381 tw9342238560966581410 tw6018595987462804006 tw5955184005055159891 tw4811779781968129831 tw3004610113188149228 tw15250452198400235972 tw14659216145117421258 tw13951479548114069223 tw13851617207774752119 tw8051597688845739364 tw2613292789771934464 tw16891726425624201797 tw13139955092406001804 tw43966485662656726 tw4216413548513164264 tw1181995328139220848 tw9981015748119760740 tw9979688200683105011 tw9586433741122993944 tw9270144097274193984 tw9204803250656295117 tw9192080582734538728 tw9152550904536001458 tw9104178221846136270 tw8859226156841011663 tw8765285571461924114 tw8647737208103522345 tw8600570399419234759 tw8580657139897874687 tw849594898016316697 tw8478838436287281264 tw8371793117887681863 tw8295827377926222545 tw8248486832433217288 tw8221578483054863427 tw8156188790911765847 tw7999686526426246751 tw7888476940023395076 tw7810549608297353928 tw774836695520584172 tw768049662377355033 tw7642801513355042956 tw7461198202026973193 tw7380471186308465470 tw7098783321946674970 tw7051355823167426225 tw6798529355088623895 tw6551705226454354341 tw6317075731906450294 tw6282779434733759869 tw6270391616818583275 tw6257761499507693137 tw6223173552308782021 tw6166620846416668946 tw6152550922052274468 tw5955279746641709144 tw5896061169252036369 tw5745827247497923374 tw57210968834648768 tw5690400661097903938 tw5645626896452067591 tw5631487497737255417 tw5548439595242762828 tw5547140316211624123 tw5446921885634072770 tw5422736456166764082 tw5320500326348827728 tw5260809059530505563 tw4928327101365532763 tw4849140820459691609 tw4695549216961018929 tw4494632068124367835 tw4475167187257231672 tw4376765638703259152 tw4364999860456965853 tw4244845821948453262 tw4177844782554049331 tw4149196483539960085 tw4061953616469322330 tw3993641511969032351 tw3947717839252695286 tw3633464264365195499 tw3598843093329005564 tw3576087716099218940 tw3520711928683684624 tw3442009871450201889 tw3435669878833190079 tw3314143910562119264 tw3299098869000163608 tw3295860068759081528 tw3277527561650742173 tw3243067285970627958 tw3149362269674371382 tw3119722865102582593 tw2942364680127369766 tw2941880819195738987 tw2874614712473084681 tw2852837091395193450 tw2565758588520125508 tw2430253539136440602 tw2396627823487314971 tw2358780119350557710 tw2338725316607509571 tw2076438328698586195 tw2051656785682390889 tw2028013780605684825 tw1952082723670139062 tw18444431588438117637 tw18334823329429535132 tw18313657262905661213 tw1823239814841892134 tw18182934518719673718 tw18181543983153225289 tw18120433086508004056 tw18066784759525322103 tw18029055159945033742 tw17948538337554573982 tw17888503227770325589 tw17821571757427500352 tw17657175439252217729 tw17481545931311000463 tw17264365469790450447 tw17190788419020081357 tw17149120379817420589 tw17134809495960031305 tw17081442346758624295 tw17075910456015741410 tw17006992032358907171 tw17001811762818686295 tw16976970237656656037 tw16661845165509952636 tw16624157168177000195 tw16546425507137759722 tw16311393149256728821 tw16255142622564353972 tw16208681941800851761 tw16009791635608327418 tw15795381541411870994 tw15637653142473058538 tw15580580167624174828 tw15440646716255293298 tw15344033697392090058 tw15313533509260791712 tw15303598490336366658 tw15232179478395089294 tw15211191798138996866 tw15190308711962703420 tw15143062311605238092 tw14916538376425916517 tw14828501419242700178 tw14362062236484717610 tw14350851872907575880 tw14278569041708979724 tw14268097524720871287 tw14252899656173272292 tw1422391586053508873 tw13828275957889832846 tw13595740025570946648 tw13567447671319118979 tw13511890271069984557 tw13334696034234257249 tw13241356597535600356 tw13236801279308955887 tw1322507383463373546 tw13215821612556694975 tw13156997287229260636 tw13092964722614643735 tw1284063026189746892 tw12686298305409553184 tw12668272525251838191 tw12604426749298842456 tw12539733717862404417 tw12532450628026382507 tw12417707757603343205 tw12407925689097530918 tw12149291513086943431 tw12106577722817463171 tw12012434622607481577 tw11993151780215882625 tw11991956099024998183 tw11776967671411437414 tw11762044998456791925 tw11758024927078590062 tw11735745862957571191 tw11697565179339144320 tw11530367854871172219 tw11374310955972075682 tw11332627402451193440 tw10942879158560873998 tw1092977275778583425 tw10920321588930918463 tw10918469202734325238 tw10819580513433307645 tw10730163648945289058 tw10695003984591017237 tw10564344834312266439
end PySem.W.Fast
open PySem PySem.W PyProof.Rows
set_option maxRecDepth 100000 in
set_option maxHeartbeats 0 in
theorem PySem.Challenge.cw_thinbook_k74_a_book_at_once_holds : PySem.Challenge.rw_thinbook_k74_a_book_at_once.Holds := by
 w_on;o_law;k_head;(case hw=>w_witness2)
 k_fill
 refine TB.walk (l:=PySem.Challenge.rw_thinbook_k74_a_book_at_once) rfl rfl rfl (λw h Y=>PySem.W.kIn_of Y) ?F
 case F =>
  intro w mg h KX G;refine' TB.qzz ?a0 ?a1 ?a2 ?a3 ?a4 ?a5 ?a6 ?a7 ?a8 ?T
  (case a0|a1|a2|a3|a4|a5|a6|a7|a8=>k_is)
  refine' ⟨TB.fnG KX G ?_ ?_ ?_ ?_,TB.fnG KX G ?_ ?_ ?_ ?_,TB.fnG KX G ?_ ?_ ?_ ?_,TB.fnG KX G ?_ ?_ ?_ ?_,TB.fnG KX G ?_ ?_ ?_ ?_,TB.fnG KX G ?_ ?_ ?_ ?_,TB.fnG KX G ?_ ?_ ?_ ?_,TB.fnG KX G ?_ ?_ ?_ ?_,TB.fnG KX G ?_ ?_ ?_ ?_,TB.fnG KX G ?_ ?_ ?_ ?_,TB.fnG KX G ?_ ?_ ?_ ?_,TB.fnI ?_ ?_ ?_ ?_ ?_ ?_ ?_,TB.qCu ?_ ?_ ?_ ?_ ?_ ?_,TB.fnM ?_ ?_ ?_ ?_ ?_,TB.fnM ?_ ?_ ?_ ?_ ?_,TB.fnM ?_ ?_ ?_ ?_ ?_,TB.fnG KX G ?_ ?_ ?_ ?_,TB.fnG KX G ?_ ?_ ?_ ?_,TB.fnG KX G ?_ ?_ ?_ ?_,TB.fnG KX G ?_ ?_ ?_ ?_,TB.fnG KX G ?_ ?_ ?_ ?_,TB.fnG KX G ?_ ?_ ?_ ?_,TB.qDt ?_ ?_ ?_ ?_ ?_ ?_ ?_ ?_,TB.fnM ?_ ?_ ?_ ?_ ?_,TB.fnM ?_ ?_ ?_ ?_ ?_,TB.fnG KX G ?_ ?_ ?_ ?_,TB.fnG KX G ?_ ?_ ?_ ?_,TB.fnG KX G ?_ ?_ ?_ ?_,TB.fnG KX G ?_ ?_ ?_ ?_,TB.fnI ?_ ?_ ?_ ?_ ?_ ?_ ?_,TB.qDs ?_ ?_ ?_ ?_ ?_ ?_,TB.fnM ?_ ?_ ?_ ?_ ?_,TB.fnM ?_ ?_ ?_ ?_ ?_,TB.qCu ?_ ?_ ?_ ?_ ?_ ?_,TB.fnM ?_ ?_ ?_ ?_ ?_,TB.fnM ?_ ?_ ?_ ?_ ?_,TB.fnM ?_ ?_ ?_ ?_ ?_,TB.fnM ?_ ?_ ?_ ?_ ?_,TB.fnM ?_ ?_ ?_ ?_ ?_,TB.fnG KX G ?_ ?_ ?_ ?_,TB.fnG KX G ?_ ?_ ?_ ?_,TB.fnG KX G ?_ ?_ ?_ ?_,TB.fnG KX G ?_ ?_ ?_ ?_,TB.fnG KX G ?_ ?_ ?_ ?_,TB.fnG KX G ?_ ?_ ?_ ?_,TB.fnG KX G ?_ ?_ ?_ ?_,TB.fnG KX G ?_ ?_ ?_ ?_,TB.fnG KX G ?_ ?_ ?_ ?_,TB.fnG KX G ?_ ?_ ?_ ?_,TB.fnG KX G ?_ ?_ ?_ ?_,TB.fnG KX G ?_ ?_ ?_ ?_,TB.fnG KX G ?_ ?_ ?_ ?_,TB.fnG KX G ?_ ?_ ?_ ?_,TB.fnG KX G ?_ ?_ ?_ ?_,TB.fnG KX G ?_ ?_ ?_ ?_,TB.fnG KX G ?_ ?_ ?_ ?_,TB.fnG KX G ?_ ?_ ?_ ?_,TB.fnG KX G ?_ ?_ ?_ ?_,TB.fnG KX G ?_ ?_ ?_ ?_,TB.fnG KX G ?_ ?_ ?_ ?_,TB.fnG KX G ?_ ?_ ?_ ?_,TB.fnG KX G ?_ ?_ ?_ ?_,⟨?_,?_,?_,?_⟩,mg_of KX G ?_,TB.naI ?_,TB.naI ?_,TB.naI ?_,TB.naI ?_,TB.naI ?_,⟨?_,?_,?_,?_⟩,mg_of KX G ?_,TB.naI ?_,TB.naI ?_,⟨?_,?_,?_,?_⟩,mg_of KX G ?_,TB.naI ?_,TB.naI ?_,TB.naI ?_,TB.naI ?_,TB.naI ?_,mg_of KX G ?_,mg_of KX G ?_,mg_of KX G ?_,mg_of KX G ?_,mg_of KX G ?_,mg_of KX G ?_,TB.exI ?h1,⟨?_,?_,?_,?_,?_,?h2⟩,?_,?h3,?h4,?h5,?h6,?h7,?h8,?h9,TB.exI ?h10,⟨?_,?_,?_,?_,?_,?h11⟩,?_,?h12,?_,?h13,?h14,?h15,?h16,?h17,?h18,TB.exI ?h19,⟨?_,?_,?_,?_,?_,?h20⟩,?_,?h21,?h22,?_,?h23,?h24,?h25,?h26,?h27,⟨?_,?_,?_,?_,?_,?h28⟩,?_,?h29,?h30,?h31,?_,?h32,?h33,?h34,?h35,TB.exI ?h36,⟨?_,?_,?_,?_,?_,?h37⟩,?_,?h38,?h39,?h40,?h41,?_,?h42,?h43,?h44,TB.exI ?h45,⟨?_,?_,?_,?_,?_,?h46⟩,?_,?h47,?h48,?h49,?h50,?h51,?_,?h52,?h53,mg_none_of KX G ?_,mg_none_of KX G ?_,mg_none_of KX G ?_,mg_none_of KX G ?_,mg_none_of KX G ?_,mg_none_of KX G ?_,mg_none_of KX G ?_,mg_none_of KX G ?_,mg_none_of KX G ?_,mg_none_of KX G ?_,mg_none_of KX G ?_,mg_none_of KX G ?_,mg_none_of KX G ?_,mg_none_of KX G ?_,mg_none_of KX G ?_,TB.cI KX G ?_,TB.cS KX G ?_,TB.cI KX G ?_,TB.cI KX G ?_,TB.cI KX G ?_⟩
  (case h1|h10|h19|h36|h45=>k_exc)
  (case h2|h11|h20|h28|h37|h46=>kts_isx)
  (case h3|h4|h5|h6|h7|h8|h9|h12|h13|h14|h15|h16|h17|h18|h21|h22|h23|h24|h25|h26|h27|h29|h30|h31|h32|h33|h34|h35|h38|h39|h40|h41|h42|h43|h44|h47|h48|h49|h50|h51|h52|h53=>kit_is)
  all_goals try k_is
